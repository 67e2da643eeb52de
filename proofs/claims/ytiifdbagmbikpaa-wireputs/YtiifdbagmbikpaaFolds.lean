/- The contracts of folded and unfolded. Conditions: a number of 64 bits. -/
import Derived.Test.YtiifdbagmbikpaaFr
import Derived.Laws.BitsAllLaws
import Derived.Laws.DeepNot64
namespace Go.Proofs.Ytiifdbagmbikpaa
open Go.RowKit

theorem not64 (E : Nat) (h : E < 18446744073709551616) : bits BinOp.xor IntKind.u64 IntKind.u64.max (E : Int) = ((18446744073709551615 - E : Nat) : Int) := by
  have e : IntKind.u64.max = ((18446744073709551615 : Nat) : Int) := by decide
  rw [e, u64_xor_nat _ _ (by decide) h]
  congr 1
  apply Nat.eq_of_testBit_eq
  intro i
  rw [Nat.testBit_xor, show (18446744073709551615 : Nat) = 2 ^ 64 - 1 by decide, Nat.testBit_two_pow_sub_one, show 2 ^ 64 - 1 - E = 2 ^ 64 - (E + 1) by omega, Nat.testBit_two_pow_sub_succ (by omega)]
  by_cases hi : i < 64
  · simp [hi]
  · have : E.testBit i = false := Nat.testBit_lt_two_pow (Nat.lt_of_lt_of_le h (by
      have : 2 ^ 64 ≤ 2 ^ i := Nat.pow_le_pow_right (by omega) (by omega)
      simpa using this))
    simp [hi, this]
theorem u64_wrap (n : Int) : IntKind.u64.wrap n = n % 18446744073709551616 := by
  simp [IntKind.wrap, IntKind.signed, IntKind.bits]
theorem folded_any (n : Int) (w : World) (h1 : -9223372036854775808 ≤ n) (h2 : n ≤ 9223372036854775807) :
    Calls Try.prog 38 #[.int .i64 n] w fun e w' => e = .returned (.int .u64 (Wire.fold n : Nat)) ∧ w = w' := by
  by_cases h : 0 ≤ n
  · have HE := Lib.hid (show 2 * n = (Wire.fold n : Nat) by unfold Wire.fold; rw [if_pos h]; omega)
    go_enter Try.func38, Try.ntmps38
    go_wp2
    go_ret
    exact ⟨congrArg (fun n => Ending.returned (.int .u64 n)) HE.out, rfl⟩
  · have HE := Lib.hid (show bits BinOp.xor IntKind.u64 IntKind.u64.max (IntKind.u64.wrap (2 * IntKind.u64.wrap n)) = (Wire.fold n : Nat) by
      have e : IntKind.u64.wrap (2 * IntKind.u64.wrap n) = ((2 * n + 18446744073709551616).toNat : Int) := by
        rw [u64_wrap, u64_wrap]; omega
      rw [e, not64 _ (by omega)]
      unfold Wire.fold
      rw [if_neg h]
      omega)
    go_enter Try.func38, Try.ntmps38
    go_wp2
    go_ret
    exact ⟨congrArg (fun n => Ending.returned (.int .u64 n)) HE.out, rfl⟩
theorem unfolded_any (n : Nat) (w : World) (h1 : n < 18446744073709551616) :
    Calls Try.prog 41 #[.int .u64 (n : Int)] w fun e w' => e = .returned (.int .i64 (Wire.unfold_ n)) ∧ w = w' := by
  by_cases h : n % 2 = 0
  · have HE := Lib.hid (show (n : Int) / 2 = Wire.unfold_ n by unfold Wire.unfold_; rw [if_pos h]; omega)
    go_enter Try.func41, Try.ntmps41
    go_wp2
    go_ret
    exact ⟨congrArg (fun n => Ending.returned (.int .i64 n)) HE.out, rfl⟩
  · have HE := Lib.hid (show bits BinOp.xor IntKind.i64 (-1) ((n : Int) / 2) = Wire.unfold_ n by
      have := i64_not (n / 2) (by omega)
      rw [show ((n / 2 : Nat) : Int) = (n : Int) / 2 by omega] at this
      rw [this]
      unfold Wire.unfold_
      rw [if_neg h]
      omega)
    go_enter Try.func41, Try.ntmps41
    go_wp2
    go_ret
    exact ⟨congrArg (fun n => Ending.returned (.int .i64 n)) HE.out, rfl⟩
end Go.Proofs.Ytiifdbagmbikpaa
