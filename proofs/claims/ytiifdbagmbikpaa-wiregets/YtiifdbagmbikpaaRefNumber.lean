/- The contract of the document's own number. No condition. -/
import Derived.Test.YtiifdbagmbikpaaNumber
namespace Go.Proofs.Ytiifdbagmbikpaa
open Go.RowKit

def RdRel2 (s : ByteArray) (t p u : Value) : Prop := ∃ k v : Nat, k ≤ s.size ∧ k ≤ 9 ∧ v < 128 ^ k ∧ t = .int .u64 (v : Int) ∧ p = .int .u64 ((128 ^ k : Nat) : Int) ∧ u = .int .i64 (k : Int) ∧ Wire.rd (bl s) = Wire.rdFrom k v ((bl s).drop k)
set_option maxRecDepth 100000 in
set_option maxHeartbeats 1000000 in
theorem refNumber_any (s : ByteArray) (w : World) :
    Calls Try.prog 34 #[.string s] w fun e w' => e = .returned (rdVal (Wire.rd (bl s))) ∧ w = w' := by
  go_enter Try.func34, Try.ntmps34
  go_wp2_with fail
  go_loop [5, 6, 7] (fun t p u => RdRel2 s t p u) (fun _ _ u => s.size - (intOf u).toNat)
  case atStart => exact ⟨0, 0, Nat.zero_le _, by omega, by decide, rfl, rfl, rfl, by simp [Wire.rd]⟩
  case round =>
    obtain ⟨k, v, hk, hk9, hv, ht, hp, hu, he⟩ := hrel
    subst ht hp hu
    have HE := Lib.hid he
    clear he
    by_cases hlt : k < s.size
    · have hd := bl_drop s k hlt
      have hc := s[k].toNat_lt
      rw [hd] at HE
      clear hd
      generalize hx : s[k].toNat = c at *
      have hc2 : c < 256 := hc
      clear hc
      by_cases hf : (0 < k ∧ c = 0) ∨ (k = 9 ∧ 1 < c)
      · have HR := Lib.hid (HE.out.trans (Wire.rdFrom_form hf))
        clear HE hv
        generalize 128 ^ k = P at *
        rcases hf with ⟨h1, rfl⟩ | ⟨rfl, h1⟩
        · go_wp2
          go_ret3
          exact ⟨by rw [HR.out]; rfl, rfl⟩
        · have t2 : ((c : Int) == 0) = false := by simp; omega
          go_wp2
          go_ret3
          exact ⟨by rw [HR.out]; rfl, rfl⟩
      · have hdl : c % 128 < 128 := Nat.mod_lt _ (by omega)
        have hcd : (c : Int) % 128 = ((c % 128 : Nat) : Int) := by simp
        have hpl := pow_le k hk9
        have hdp : c % 128 * 128 ^ k + v < 18446744073709551616 := by
          by_cases h9 : k = 9
          · subst h9
            have : c % 128 ≤ 1 := by omega
            omega
          · have h8 := Nat.pow_le_pow_right (n := 128) (by omega) (show k ≤ 8 by omega)
            have : c % 128 * 128 ^ k ≤ 127 * 128 ^ 8 := Nat.mul_le_mul (by omega) h8
            omega
        have hnew : v + c % 128 * 128 ^ k < 128 ^ (k + 1) := by
          rw [Nat.pow_succ]
          have : c % 128 * 128 ^ k ≤ 127 * 128 ^ k := Nat.mul_le_mul_right _ (by omega)
          omega
        have hpm : ((c % 128 : Nat) : Int) * ((128 ^ k : Nat) : Int) = ((c % 128 * 128 ^ k : Nat) : Int) := by simp
        have HNew := Lib.hid hnew
        have HPs := Lib.hid (Nat.pow_succ (n := 128) (m := k))
        by_cases hc1 : c < 128
        · have HR := Lib.hid (HE.out.trans (Wire.rdFrom_last hf hc1))
          clear HE HNew HPs hnew hv
          generalize c % 128 = d at *
          generalize d * 128 ^ k = M at *
          generalize 128 ^ k = P at *
          have hvm : (v : Int) + (M : Int) = ((v + M : Nat) : Int) := by omega
          have hvl : v + M < 18446744073709551616 := by omega
          generalize v + M = V at *
          clear hdp
          by_cases h9 : k = 9
          · subst h9
            have t2 : ((c : Int) == 0) = false := by simp; omega
            have t3 : decide ((1 : Int) < (c : Int)) = false := by simp; omega
            go_wp2
            go_ret3
            exact ⟨by rw [HR.out]; rfl, rfl⟩
          · have t4 : ((k : Int) == 9) = false := by simp; omega
            by_cases h0 : k = 0
            · subst h0
              go_wp2
              go_ret3
              exact ⟨by rw [HR.out]; rfl, rfl⟩
            · have t2 : ((c : Int) == 0) = false := by simp; omega
              go_wp2
              go_ret3
              exact ⟨by rw [HR.out]; rfl, rfl⟩
        · have HR := Lib.hid (HE.out.trans (Wire.rdFrom_more hf hc1))
          have h8 := Nat.pow_le_pow_right (n := 128) (by omega) (show k ≤ 8 by omega)
          have hp8 : 128 ^ k ≤ 72057594037927936 := by omega
          clear HE hnew hv h8 hpl
          generalize c % 128 = d at *
          generalize d * 128 ^ k = M at *
          obtain ⟨P2, hP2⟩ : ∃ P2, P2 = 128 ^ (k + 1) := ⟨_, rfl⟩
          have hp2 : ((128 ^ k : Nat) : Int) * 128 = (P2 : Int) := by rw [hP2, HPs.out]; simp
          have hpb : P2 ≤ 9223372036854775808 := by rw [hP2, HPs.out]; omega
          have HP2 := Lib.hid hP2
          clear hP2
          generalize 128 ^ k = P at *
          have hvm : (v : Int) + (M : Int) = ((v + M : Nat) : Int) := by omega
          have hvl : v + M < 18446744073709551616 := by omega
          generalize v + M = V at *
          clear hdp HPs
          have t4 : ((k : Int) == 9) = false := by simp; omega
          have t2 : ((c : Int) == 0) = false := by simp; omega
          by_cases h0 : k = 0
          · subst h0
            go_wp2
            go_round
            case rel => exact ⟨1, V, by omega, by omega, HNew.out, rfl, by rw [HP2.out], rfl, HR.out⟩
            case measure => simp [intOf]; omega
          · go_wp2
            go_round
            case rel => exact ⟨k + 1, V, by omega, by omega, HNew.out, rfl, by rw [HP2.out], by go_num, HR.out⟩
            case measure => simp [intOf]; omega
    · have hn : (bl s).drop k = [] := List.drop_of_length_le (by rw [bl_length]; omega)
      rw [hn] at HE
      clear hn hv
      generalize 128 ^ k = P at *
      go_wp2
      go_ret3
      exact ⟨by rw [HE.out]; rfl, rfl⟩
end Go.Proofs.Ytiifdbagmbikpaa
