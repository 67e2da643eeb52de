/- Walks of layer 1's small functions: RotateLeft32, turned. Conditions: the number has 32 bits, it is turned by 1 to 31. -/
import Derived.Test.YtdemoidmhmdgkaaDoorRows
import Derived.Test.YtdemoidmhmdgkaaDoorMath
import Derived.WalkKit
import Derived.WalkSpells
import Derived.WalkLawsBesides
import Derived.Laws.BitsAllLaws
import Derived.Lib.Hide
namespace Go.Proofs.YtdemoidmhmdgkaaDoor
open Go.RowKit

theorem mask31 (k : Int) (h1 : 1 ≤ k) (h2 : k ≤ 31) : bits BinOp.and IntKind.u64 (IntKind.u64.wrap (-k)) 31 = 32 - k := by
  have h : ∀ k : Nat, k < 32 → 1 ≤ k → bits BinOp.and IntKind.u64 (IntKind.u64.wrap (-(k:Int))) 31 = 32 - (k : Int) := by decide +kernel
  obtain ⟨n, rfl⟩ := Int.eq_ofNat_of_zero_le (show 0 ≤ k by omega)
  exact h n (by omega) (by omega)

theorem rot_arith (x k : Int) (h0 : 0 ≤ x) (h1 : x < 4294967296) (hk1 : 1 ≤ k) (hk2 : k ≤ 31) :
    bits BinOp.or IntKind.u32 (x * 2 ^ (32 - k).toNat % 4294967296) (x / 2 ^ (32 - (32 - k)).toNat) = ((Sha.rotr k.toNat x.toNat : Nat) : Int) := by
  obtain ⟨X, rfl⟩ := Int.eq_ofNat_of_zero_le h0
  obtain ⟨n, rfl⟩ := Int.eq_ofNat_of_zero_le (show 0 ≤ k by omega)
  have e1 : ((32 : Int) - (n : Int)).toNat = 32 - n := by omega
  have e2 : ((32 : Int) - (32 - (n : Int))).toNat = n := by omega
  rw [e1, e2]
  have hd : (X : Int) / 2 ^ n = ((X / 2 ^ n : Nat) : Int) := by simp
  have hm : (X : Int) * 2 ^ (32 - n) % 4294967296 = ((X * 2 ^ (32 - n) % 4294967296 : Nat) : Int) := by simp
  have hlt : X / 2 ^ n < 4294967296 := Nat.lt_of_le_of_lt (Nat.div_le_self _ _) (by omega)
  rw [hd, hm, u32_or_nat _ _ (Nat.mod_lt _ (by omega)) hlt, Sha.or_parts n X (by omega) (by omega)]
  simp

set_option maxHeartbeats 400000 in
theorem turned_any (x k : Int) (w : World) (h0 : 0 ≤ x) (h1 : x < 4294967296) (hk1 : 1 ≤ k) (hk2 : k ≤ 31) :
    Calls Tryd.prog 91 #[.int .u32 x, .int .i64 k] w fun e w' => e = .returned (.int .u32 (Sha.rotr k.toNat x.toNat : Nat)) ∧ w = w' := by
  have hr := rot_arith x k h0 h1 hk1 hk2
  have he := mask31 k hk1 hk2
  have HR := Lib.hid hr
  clear hr
  go_enter Tryd.func91, Tryd.ntmps91
  go_wp2
  go_ret
  exact ⟨congrArg (fun n => Ending.returned (.int .u32 n)) (by rw [← HR.out]), rfl⟩

end Go.Proofs.YtdemoidmhmdgkaaDoor
