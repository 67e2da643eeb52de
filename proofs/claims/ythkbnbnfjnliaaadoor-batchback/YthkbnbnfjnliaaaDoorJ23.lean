/- The contract of number: what the bytes begin with. Conditions: none but that a string is no longer than may be. -/
import Derived.Test.YthkbnbnfjnliaaaDoorJ14
import Derived.Laws.BitsAllLaws
import Derived.Laws.DeepNot64
namespace Go.Proofs.YthkbnbnfjnliaaaDoor
open Go.RowKit
set_option maxRecDepth 100000

def RdRel (s : ByteArray) (t u : Value) : Prop := ∃ k v : Nat, k ≤ s.size ∧ k ≤ 9 ∧ v < 128 ^ k ∧ t = .int .u64 (v : Int) ∧ u = .int .i64 (k : Int) ∧ Wire.rd (bl s) = Wire.rdFrom k v ((bl s).drop k)
def rdVal (r : Nat × Nat × Nat) : Value := .tuple #[.int .u64 (r.1 : Int), .int .i64 (r.2.1 : Int), .int .i64 (r.2.2 : Int)]
theorem bl_drop (s : ByteArray) (k : Nat) (h : k < s.size) : (bl s).drop k = s[k].toNat :: (bl s).drop (k + 1) := by
  rw [List.drop_eq_getElem_cons (by rw [bl_length]; exact h)]
  congr 1
  simp [bl]
  rfl
theorem and127 (c : Nat) (h : c < 256) : bits BinOp.and IntKind.u8 (c : Int) 127 = ((c % 128 : Nat) : Int) := by
  have : ∀ c : Nat, c < 256 → bits BinOp.and IntKind.u8 (c : Int) 127 = ((c % 128 : Nat) : Int) := by decide +kernel
  exact this c h
theorem u64_small (n : Nat) (h : n < 18446744073709551616) : IntKind.u64.wrap (n : Int) = (n : Int) := by
  simp [IntKind.wrap, IntKind.signed, IntKind.bits]; omega
theorem or_place (k v d : Nat) (hv : v < 128 ^ k) (hd : d * 128 ^ k < 18446744073709551616) (hk : 128 ^ k ≤ 9223372036854775808) : bits BinOp.or IntKind.u64 (v : Int) (IntKind.u64.wrap ((d : Int) * 2 ^ (7 * k))) = ((v + d * 128 ^ k : Nat) : Int) := by
  have e : (2 : Nat) ^ (7 * k) = 128 ^ k := by rw [Nat.pow_mul]
  have e2 : (d : Int) * 2 ^ (7 * k) = ((d * 128 ^ k : Nat) : Int) := by rw [← e]; simp
  rw [e2, u64_small _ hd, u64_or_nat _ _ (by omega) hd]
  congr 1
  rw [← e] at hv ⊢
  rw [Nat.or_comm, Nat.mul_comm d, ← Nat.two_pow_add_eq_or_of_lt hv, Nat.add_comm]
theorem pow_le (k : Nat) (h : k ≤ 9) : 128 ^ k ≤ 9223372036854775808 := by
  have := Nat.pow_le_pow_right (n := 128) (by omega) h
  simpa using this
set_option maxRecDepth 100000 in
set_option maxHeartbeats 1000000 in
theorem number_any (s : ByteArray) (w : World) :
    Calls Tryd.prog 34 #[.string s] w fun e w' => e = .returned (rdVal (Wire.rd (bl s))) ∧ w = w' := by
  go_enter Tryd.func34, Tryd.ntmps34
  go_wp2_with fail
  go_loop [5, 10] (fun t u => RdRel s t u) (fun _ u => s.size - (intOf u).toNat)
  case atStart => exact ⟨0, 0, Nat.zero_le _, by omega, by decide, rfl, rfl, by simp [Wire.rd]⟩
  case round =>
    obtain ⟨k, v, hk, hk9, hv, ht, hu, he⟩ := hrel
    subst ht hu
    have HE := Lib.hid he
    clear he
    by_cases hlt : k < s.size
    · have hd := bl_drop s k hlt
      have hc := s[k].toNat_lt
      rw [hd] at HE
      clear hd
      generalize hx : s[k].toNat = c at *
      have hc2 : c < 256 := hc
      clear hc
      by_cases hf : (0 < k ∧ c = 0) ∨ (k = 9 ∧ 1 < c)
      · have HR := Lib.hid (HE.out.trans (Wire.rdFrom_form hf))
        clear HE hv
        rcases hf with ⟨h1, rfl⟩ | ⟨rfl, h1⟩
        · go_wp2
          go_ret3
          exact ⟨by rw [HR.out]; rfl, rfl⟩
        · have t2 : ((c : Int) == 0) = false := by simp; omega
          go_wp2
          go_ret3
          exact ⟨by rw [HR.out]; rfl, rfl⟩
      · have hand := and127 c hc2
        have hdl : c % 128 < 128 := Nat.mod_lt _ (by omega)
        have hpl := pow_le k hk9
        have hdp : c % 128 * 128 ^ k < 18446744073709551616 := by
          by_cases h9 : k = 9
          · subst h9; have : c ≤ 1 := by omega
            have : c % 128 ≤ 1 := by omega
            omega
          · have h8 := Nat.pow_le_pow_right (n := 128) (by omega) (show k ≤ 8 by omega)
            have : c % 128 * 128 ^ k ≤ 127 * 128 ^ 8 := Nat.mul_le_mul (by omega) h8
            omega
        have HOr := Lib.hid (or_place k v (c % 128) hv hdp hpl)
        have HW := Lib.hid (u64_small (c % 128) (by omega))
        have hnew : v + c % 128 * 128 ^ k < 128 ^ (k + 1) := by
          rw [Nat.pow_succ]
          have : c % 128 * 128 ^ k ≤ 127 * 128 ^ k := Nat.mul_le_mul_right _ (by omega)
          omega
        have HNew := Lib.hid hnew
        clear hnew hdp hpl hv
        by_cases hc1 : c < 128
        · have HR := Lib.hid (HE.out.trans (Wire.rdFrom_last hf hc1))
          clear HE HNew
          generalize c % 128 = d at *
          by_cases h9 : k = 9
          · subst h9
            have t2 : ((c : Int) == 0) = false := by simp; omega
            have t3 : decide ((1 : Int) < (c : Int)) = false := by simp; omega
            go_wp2
            go_ret3
            exact ⟨by rw [HR.out]; unfold rdVal; rw [← HOr.out, ← HW.out]; rfl, rfl⟩
          · have t4 : ((k : Int) == 9) = false := by simp; omega
            by_cases h0 : k = 0
            · subst h0
              have HO0 := Lib.hid (show bits BinOp.or IntKind.u64 (v : Int) (d : Int) = ((v + d * 128 ^ 0 : Nat) : Int) by
                have := HOr.out
                rwa [show (d : Int) * 2 ^ (7 * 0) = (d : Int) by simp, HW.out] at this)
              go_wp2
              go_ret3
              exact ⟨by rw [HR.out]; unfold rdVal; rw [← HO0.out]; rfl, rfl⟩
            · have t2 : ((c : Int) == 0) = false := by simp; omega
              go_wp2
              go_ret3
              exact ⟨by rw [HR.out]; unfold rdVal; rw [← HOr.out, ← HW.out]; rfl, rfl⟩
        · have HR := Lib.hid (HE.out.trans (Wire.rdFrom_more hf hc1))
          clear HE
          generalize c % 128 = d at *
          have t4 : ((k : Int) == 9) = false := by simp; omega
          have t2 : ((c : Int) == 0) = false := by simp; omega
          by_cases h0 : k = 0
          · subst h0
            have HO0 := Lib.hid (show bits BinOp.or IntKind.u64 (v : Int) (d : Int) = ((v + d * 128 ^ 0 : Nat) : Int) by
                have := HOr.out
                rwa [show (d : Int) * 2 ^ (7 * 0) = (d : Int) by simp, HW.out] at this)
            go_wp2
            go_round
            case rel => exact ⟨1, _, by omega, by omega, HNew.out, by rw [← HO0.out], rfl, HR.out⟩
            case measure => simp [intOf]; omega
          · go_wp2
            go_round
            case rel => exact ⟨k + 1, _, by omega, by omega, HNew.out, by rw [← HOr.out, ← HW.out], by go_num, HR.out⟩
            case measure => simp [intOf]; omega
    · have hn : (bl s).drop k = [] := List.drop_of_length_le (by rw [bl_length]; omega)
      rw [hn] at HE
      clear hn
      go_wp2
      go_ret3
      exact ⟨by rw [HE.out]; rfl, rfl⟩
end Go.Proofs.YthkbnbnfjnliaaaDoor
/- The contracts of folded and unfolded. Conditions: a number of 64 bits. -/
namespace Go.Proofs.YthkbnbnfjnliaaaDoor
open Go.RowKit
set_option maxRecDepth 100000

theorem not64 (E : Nat) (h : E < 18446744073709551616) : bits BinOp.xor IntKind.u64 IntKind.u64.max (E : Int) = ((18446744073709551615 - E : Nat) : Int) := by
  have e : IntKind.u64.max = ((18446744073709551615 : Nat) : Int) := by decide
  rw [e, u64_xor_nat _ _ (by decide) h]
  congr 1
  apply Nat.eq_of_testBit_eq
  intro i
  rw [Nat.testBit_xor, show (18446744073709551615 : Nat) = 2 ^ 64 - 1 by decide, Nat.testBit_two_pow_sub_one, show 2 ^ 64 - 1 - E = 2 ^ 64 - (E + 1) by omega, Nat.testBit_two_pow_sub_succ (by omega)]
  by_cases hi : i < 64
  · simp [hi]
  · have : E.testBit i = false := Nat.testBit_lt_two_pow (Nat.lt_of_lt_of_le h (by
      have : 2 ^ 64 ≤ 2 ^ i := Nat.pow_le_pow_right (by omega) (by omega)
      simpa using this))
    simp [hi, this]
theorem u64_wrap (n : Int) : IntKind.u64.wrap n = n % 18446744073709551616 := by
  simp [IntKind.wrap, IntKind.signed, IntKind.bits]
theorem folded_any (n : Int) (w : World) (h1 : -9223372036854775808 ≤ n) (h2 : n ≤ 9223372036854775807) :
    Calls Tryd.prog 68 #[.int .i64 n] w fun e w' => e = .returned (.int .u64 (Wire.fold n : Nat)) ∧ w = w' := by
  by_cases h : 0 ≤ n
  · have HE := Lib.hid (show 2 * n = (Wire.fold n : Nat) by unfold Wire.fold; rw [if_pos h]; omega)
    go_enter Tryd.func68, Tryd.ntmps68
    go_wp2
    go_ret
    exact ⟨congrArg (fun n => Ending.returned (.int .u64 n)) HE.out, rfl⟩
  · have HE := Lib.hid (show bits BinOp.xor IntKind.u64 IntKind.u64.max (IntKind.u64.wrap (2 * IntKind.u64.wrap n)) = (Wire.fold n : Nat) by
      have e : IntKind.u64.wrap (2 * IntKind.u64.wrap n) = ((2 * n + 18446744073709551616).toNat : Int) := by
        rw [u64_wrap, u64_wrap]; omega
      rw [e, not64 _ (by omega)]
      unfold Wire.fold
      rw [if_neg h]
      omega)
    go_enter Tryd.func68, Tryd.ntmps68
    go_wp2
    go_ret
    exact ⟨congrArg (fun n => Ending.returned (.int .u64 n)) HE.out, rfl⟩
theorem unfolded_any (n : Nat) (w : World) (h1 : n < 18446744073709551616) :
    Calls Tryd.prog 50 #[.int .u64 (n : Int)] w fun e w' => e = .returned (.int .i64 (Wire.unfold_ n)) ∧ w = w' := by
  by_cases h : n % 2 = 0
  · have HE := Lib.hid (show (n : Int) / 2 = Wire.unfold_ n by unfold Wire.unfold_; rw [if_pos h]; omega)
    go_enter Tryd.func50, Tryd.ntmps50
    go_wp2
    go_ret
    exact ⟨congrArg (fun n => Ending.returned (.int .i64 n)) HE.out, rfl⟩
  · have HE := Lib.hid (show bits BinOp.xor IntKind.i64 (-1) ((n : Int) / 2) = Wire.unfold_ n by
      have := i64_not (n / 2) (by omega)
      rw [show ((n / 2 : Nat) : Int) = (n : Int) / 2 by omega] at this
      rw [this]
      unfold Wire.unfold_
      rw [if_neg h]
      omega)
    go_enter Tryd.func50, Tryd.ntmps50
    go_wp2
    go_ret
    exact ⟨congrArg (fun n => Ending.returned (.int .i64 n)) HE.out, rfl⟩
end Go.Proofs.YthkbnbnfjnliaaaDoor
