/- The contract of the document's own Num. Conditions: a number of 64 bits. -/
import Derived.Test.YtooeahpkhocaeaaDoorJ13
import Derived.Test.YtooeahpkhocaeaaDoorJ08
import Derived.Laws.BitsAllLaws
import Derived.Laws.DeepNot64
namespace Go.Proofs.YtooeahpkhocaeaaDoor
open Go.RowKit

theorem S_append (a b : List Nat) : S (a ++ b) = S a ++ S b := by
  unfold S
  apply ByteArray.ext
  rw [ByteArray.data_append]
  simp
theorem conv_has {w : World} {b : Nat} {x : List Nat} (h : Has w b 5 (U8 x)) (c : Nat) : Sem.run Tryd.prog (convert 45 9 (.slice (some ⟨b, 0, none⟩) x.length c)) w = .ok (.string (S x)) w := by
  have := run_convert_bytes_arg (P := Tryd.prog) (w := w) 45 5 und59 (by kernel_rfl) b 0 x.length c (x.map fun n : Nat => (n : Int)) (by simp) (fun i hi => by
    rw [Nat.zero_add, h.cell, U8_get hi]
    simp [hi]) 9 und9
  rw [this]
  simp [strOfNums, S]
def DN (i : Nat) : Tmp := if i = 10 then 2 else 9 + i
def RN (n x y z : Nat) (rest : List Nat) (i : Nat) (v : Value) (w' : World) : Prop :=
  match i with
  | 0 | 6 => v = .int .u64 (n : Int)
  | 1 => v = .int .u64 (y : Int)
  | 2 => v = .int .u64 (x : Int)
  | 3 => v = .int .u8 (x : Int)
  | 4 => ∃ b, v = .slice (some ⟨b, 0, none⟩) 1 1 ∧ Has w' b 5 (U8 [x])
  | 5 => v = .string (S [x])
  | 7 => v = .int .u64 (z : Int)
  | 8 => v = .string (S rest)
  | _ => v = .string (S (x :: rest))
theorem getD_tt {l : Array Bool} {j : Nat} (h : l.getD j false = true) : l.getD j true = true := by
  by_cases hj : j < l.size
  · simpa [hj] using h
  · simp [hj] at h
theorem DN_inj (i j : Nat) (hi : i < 11) (hj : j < 11) (h : DN i = DN j) : i = j := by
  have : ∀ i : Fin 11, ∀ j : Fin 11, DN i.val = DN j.val → i = j := by decide
  simpa using this ⟨i, hi⟩ ⟨j, hj⟩ h
theorem DN_lt (i : Nat) (hi : i < 11) : DN i < 19 := by
  have : ∀ i : Fin 11, DN i.val < 19 := by decide
  exact this ⟨i, hi⟩
theorem DN_old (i : Nat) (hi : i < 11) : DN i ≠ 0 := by
  have : ∀ i : Fin 11, DN i.val ≠ 0 := by decide
  exact this ⟨i, hi⟩
theorem ord_of {ops : Array Oper} (h : (List.range ops.size).all (fun i => match ops[i]? with | some o => o.after.all (fun e => decide (e.on < i)) | none => true) = true) : ∀ (i : Nat) (o : Oper), ops[i]? = some o → o.after.all (fun e => decide (e.on < i)) = true := fun i o ho => by
  have := List.all_eq_true.1 h i (List.mem_range.2 (Array.getElem?_eq_some_iff.1 ho).1)
  simpa only [ho] using this
theorem RN_mono (n x y z : Nat) (rest : List Nat) (i : Nat) (v : Value) (w w' : World) (h : RN n x y z rest i v w) (k : Below w.heap.size w w') : RN n x y z rest i v w' := by
  unfold RN at *
  split at h <;> first
    | exact h
    | (obtain ⟨b, e, h⟩ := h; exact ⟨b, e, Has.below h k h.lt⟩)
set_option maxRecDepth 100000 in
set_option maxHeartbeats 1000000 in
theorem refNum_any (n : Nat) : ∀ (w : World), n < 18446744073709551616 → Calls Tryd.prog 28 #[.int .u64 (n : Int)] w fun e w' => e = .returned (.string (S (Wire.num n))) ∧ Below w.heap.size w w' := by
  induction n using Nat.strongRecOn with
  | _ n ih =>
    intro w hn
    by_cases hlt : n < 128
    · have hx : (n : Int) % 256 = (n : Int) := by omega
      have hc := conv_has (Has.new w 5 (U8 [n])) 1
      rw [show (U8 [n]).toArray = #[Value.int .u8 (n : Int)] from rfl] at hc
      change Sem.run Tryd.prog (convert 45 9 (.slice (some ⟨w.heap.size, 0, none⟩) 1 1)) _ = _ at hc
      have HE := Lib.hid (Wire.num_lt hlt)
      clear ih
      go_enter Tryd.func28, Tryd.ntmps28
      go_wp2
      go_ret
      exact ⟨by rw [HE.out]; rfl, (Below.refl _ _).alloc (Nat.le_refl _) _⟩
    · have HIh := Lib.hid (fun w => ih (n / 128) (by omega) w (by omega))
      have HE := Lib.hid (Wire.num_ge hlt)
      clear ih
      obtain ⟨x, hx⟩ : ∃ x, x = n % 128 + 128 := ⟨_, rfl⟩
      have hx2 : x < 256 := by omega
      rw [← hx] at HE
      have hlen : (Wire.num (n / 128)).length ≤ 10 := Wire.num_len10 _ (by omega)
      have HLen := Lib.hid hlen
      clear hlen
      obtain ⟨y, hy⟩ : ∃ y, y = n % 128 := ⟨_, rfl⟩
      have hx4 : (n : Int) % 128 = (y : Int) := by omega
      have hxy : (y : Int) + 128 = (x : Int) := by omega
      have hw1 : IntKind.u64.wrap (x : Int) = (x : Int) := by simp [IntKind.wrap, IntKind.signed, IntKind.bits]; omega
      have hw2 : IntKind.u8.wrap (x : Int) = (x : Int) := by simp [IntKind.wrap, IntKind.signed, IntKind.bits]; omega
      have hw3 : (n : Int).tmod 128 = (y : Int) := by rw [Int.tmod_eq_emod_of_nonneg (by omega)]; omega
      generalize hz : n / 128 = z at *
      have hx5 : (n : Int) / 128 = (z : Int) := by omega
      have hw4 : (n : Int).tdiv 128 = (z : Int) := by rw [Int.tdiv_eq_ediv_of_nonneg (by omega)]; omega
      have hw5 : IntKind.u64.wrap (z : Int) = (z : Int) := by simp [IntKind.wrap, IntKind.signed, IntKind.bits]; omega
      clear hx hy hz
      generalize Wire.num z = rest at *
      go_enter Tryd.func28, Tryd.ntmps28
      go_wp2_with fail
      refine wp_region_held (S := fun w' => Below w.heap.size w w') (by kernel_rfl) ?_
      refine held_all0 (RN n x y z rest) DN ?inj ?lt ?ord (RN_mono n x y z rest) (fun w1 w2 h k => h.trans (k.mono h.size)) (Below.refl _ _).drew ?step ?fin
      case inj => exact fun i j hi hj h => DN_inj i j hi hj h
      case lt => exact fun i hi => DN_lt i hi
      case ord => exact ord_of (by kernel_rfl)
      case step =>
        intro listed a w5 i o hs ho hdeps
        have z0 : a.tmps[0]?.getD undef = .int .u64 (n : Int) := by simpa using hs.old 0 (fun i hi _ => DN_old i hi)
        have dep : ∀ j, j < 11 → listed.getD j false = true → RN n x y z rest j (a.tmps[DN j]?.getD undef) w5 := fun j hj h => by simpa using hs.has j hj (getD_tt h)
        clear hs
        match i, ho with
        | 0, ho =>
          obtain rfl := Option.some.inj ho
          clear dep hdeps
          refine ⟨by rfl, fun K hK => ?_⟩
          go_simp
          exact hK _ _ (Below.refl _ _) rfl
        | 1, ho =>
          obtain rfl := Option.some.inj ho
          have r0 := dep 0 (by omega) (hdeps ⟨0, .data⟩ (by simp) (by rfl))
          change a.tmps[9]?.getD undef = .int .u64 (n : Int) at r0
          clear dep hdeps
          refine ⟨by rfl, fun K hK => ?_⟩
          go_simp
          exact hK _ _ (Below.refl _ _) rfl
        | 2, ho =>
          obtain rfl := Option.some.inj ho
          have r1 := dep 1 (by omega) (hdeps ⟨1, .data⟩ (by simp) (by rfl))
          change a.tmps[10]?.getD undef = .int .u64 (y : Int) at r1
          clear dep hdeps
          refine ⟨by rfl, fun K hK => ?_⟩
          go_simp
          exact hK _ _ (Below.refl _ _) rfl
        | 3, ho =>
          obtain rfl := Option.some.inj ho
          have r2 := dep 2 (by omega) (hdeps ⟨2, .data⟩ (by simp) (by rfl))
          change a.tmps[11]?.getD undef = .int .u64 (x : Int) at r2
          clear dep hdeps
          refine ⟨by rfl, fun K hK => ?_⟩
          go_simp
          exact hK _ _ (Below.refl _ _) rfl
        | 4, ho =>
          obtain rfl := Option.some.inj ho
          have r3 := dep 3 (by omega) (hdeps ⟨3, .data⟩ (by simp) (by rfl))
          change a.tmps[12]?.getD undef = .int .u8 (x : Int) at r3
          clear dep hdeps
          refine ⟨by rfl, fun K hK => ?_⟩
          go_simp
          exact hK _ _ ((Below.refl _ _).alloc (Nat.le_refl _) _) ⟨_, rfl, Has.new _ _ _⟩
        | 5, ho =>
          obtain rfl := Option.some.inj ho
          have r4 := dep 4 (by omega) (hdeps ⟨4, .data⟩ (by simp) (by rfl))
          change ∃ b, a.tmps[13]?.getD undef = .slice (some ⟨b, 0, none⟩) 1 1 ∧ Has w5 b 5 (U8 [x]) at r4
          obtain ⟨b, e4, h4⟩ := r4
          have hcv : Sem.run Tryd.prog (convert 45 9 (.slice (some ⟨b, 0, none⟩) 1 1)) w5 = .ok (.string (S [x])) w5 := conv_has h4 1
          clear dep hdeps h4
          refine ⟨by rfl, fun K hK => ?_⟩
          go_simp
          exact hK _ _ (Below.refl _ _) rfl
        | 6, ho =>
          obtain rfl := Option.some.inj ho
          clear dep hdeps
          refine ⟨by rfl, fun K hK => ?_⟩
          go_simp
          exact hK _ _ (Below.refl _ _) rfl
        | 7, ho =>
          obtain rfl := Option.some.inj ho
          have r6 := dep 6 (by omega) (hdeps ⟨6, .data⟩ (by simp) (by rfl))
          change a.tmps[15]?.getD undef = .int .u64 (n : Int) at r6
          clear dep hdeps
          refine ⟨by rfl, fun K hK => ?_⟩
          go_simp
          exact hK _ _ (Below.refl _ _) rfl
        | 8, ho =>
          obtain rfl := Option.some.inj ho
          have r7 := dep 7 (by omega) (hdeps ⟨7, .data⟩ (by simp) (by rfl))
          change a.tmps[16]?.getD undef = .int .u64 (z : Int) at r7
          clear dep hdeps
          refine ⟨by rfl, fun K hK => ?_⟩
          go_simp
          refine (HIh.out w5).mono ?_
          rintro e w6 ⟨rfl, hb⟩
          exact hK _ _ hb rfl
        | 9, ho =>
          obtain rfl := Option.some.inj ho
          have r5 := dep 5 (by omega) (hdeps ⟨5, .data⟩ (by simp) (by rfl))
          change a.tmps[14]?.getD undef = .string (S [x]) at r5
          have r8 := dep 8 (by omega) (hdeps ⟨8, .data⟩ (by simp) (by rfl))
          change a.tmps[17]?.getD undef = .string (S rest) at r8
          have hz1 : (S [x]).size = 1 := by rw [S_size]; rfl
          have hz2 : (S rest).size = rest.length := S_size _
          have hz3 : ¬ 9223372036854775807 < 1 + rest.length := by have := HLen.out; omega
          clear dep hdeps
          refine ⟨by rfl, fun K hK => ?_⟩
          go_simp
          exact hK _ _ (Below.refl _ _) (show _ = _ by rw [show x :: rest = [x] ++ rest from rfl, S_append])
        | 10, ho =>
          obtain rfl := Option.some.inj ho
          have r9 := dep 9 (by omega) (hdeps ⟨9, .data⟩ (by simp) (by rfl))
          change a.tmps[18]?.getD undef = .string (S (x :: rest)) at r9
          clear dep hdeps
          refine ⟨by rfl, fun K hK => ?_⟩
          go_simp
          exact hK _ _ (Below.refl _ _) rfl
        | i + 11, ho => exact absurd (Array.getElem?_eq_some_iff.1 ho).1 (by change ¬ i + 11 < 11; omega)
      case fin =>
        intro listed a w5 hs hall
        have x2 : a.tmps[2]?.getD undef = .string (S (x :: rest)) := by simpa [RN, DN] using hs.has 10 (by decide) (hall 10 (by decide))
        have HB5 := Lib.hid hs.S
        have hd : a.defers = [] := hs.defers
        have hsz : a.tmps.size = 19 := hs.tmps
        clear hs hall
        obtain ⟨tmps, defers⟩ := a
        subst hd
        simp only at x2 hsz
        go_wp2
        go_ret
        exact ⟨by rw [HE.out]; simp [x2], HB5.out⟩
end Go.Proofs.YtooeahpkhocaeaaDoor
/- The contract of number: what the bytes begin with. Conditions: none but that a string is no longer than may be. -/
namespace Go.Proofs.YtooeahpkhocaeaaDoor
open Go.RowKit
set_option maxRecDepth 100000

def RdRel (s : ByteArray) (t u : Value) : Prop := ∃ k v : Nat, k ≤ s.size ∧ k ≤ 9 ∧ v < 128 ^ k ∧ t = .int .u64 (v : Int) ∧ u = .int .i64 (k : Int) ∧ Wire.rd (bl s) = Wire.rdFrom k v ((bl s).drop k)
def rdVal (r : Nat × Nat × Nat) : Value := .tuple #[.int .u64 (r.1 : Int), .int .i64 (r.2.1 : Int), .int .i64 (r.2.2 : Int)]
theorem bl_drop (s : ByteArray) (k : Nat) (h : k < s.size) : (bl s).drop k = s[k].toNat :: (bl s).drop (k + 1) := by
  rw [List.drop_eq_getElem_cons (by rw [bl_length]; exact h)]
  congr 1
  simp [bl]
  rfl
theorem and127 (c : Nat) (h : c < 256) : bits BinOp.and IntKind.u8 (c : Int) 127 = ((c % 128 : Nat) : Int) := by
  have : ∀ c : Nat, c < 256 → bits BinOp.and IntKind.u8 (c : Int) 127 = ((c % 128 : Nat) : Int) := by decide +kernel
  exact this c h
theorem u64_small (n : Nat) (h : n < 18446744073709551616) : IntKind.u64.wrap (n : Int) = (n : Int) := by
  simp [IntKind.wrap, IntKind.signed, IntKind.bits]; omega
theorem or_place (k v d : Nat) (hv : v < 128 ^ k) (hd : d * 128 ^ k < 18446744073709551616) (hk : 128 ^ k ≤ 9223372036854775808) : bits BinOp.or IntKind.u64 (v : Int) (IntKind.u64.wrap ((d : Int) * 2 ^ (7 * k))) = ((v + d * 128 ^ k : Nat) : Int) := by
  have e : (2 : Nat) ^ (7 * k) = 128 ^ k := by rw [Nat.pow_mul]
  have e2 : (d : Int) * 2 ^ (7 * k) = ((d * 128 ^ k : Nat) : Int) := by rw [← e]; simp
  rw [e2, u64_small _ hd, u64_or_nat _ _ (by omega) hd]
  congr 1
  rw [← e] at hv ⊢
  rw [Nat.or_comm, Nat.mul_comm d, ← Nat.two_pow_add_eq_or_of_lt hv, Nat.add_comm]
theorem pow_le (k : Nat) (h : k ≤ 9) : 128 ^ k ≤ 9223372036854775808 := by
  have := Nat.pow_le_pow_right (n := 128) (by omega) h
  simpa using this
set_option maxRecDepth 100000 in
set_option maxHeartbeats 1000000 in
theorem number_any (s : ByteArray) (w : World) :
    Calls Tryd.prog 37 #[.string s] w fun e w' => e = .returned (rdVal (Wire.rd (bl s))) ∧ w = w' := by
  go_enter Tryd.func37, Tryd.ntmps37
  go_wp2_with fail
  go_loop [5, 10] (fun t u => RdRel s t u) (fun _ u => s.size - (intOf u).toNat)
  case atStart => exact ⟨0, 0, Nat.zero_le _, by omega, by decide, rfl, rfl, by simp [Wire.rd]⟩
  case round =>
    obtain ⟨k, v, hk, hk9, hv, ht, hu, he⟩ := hrel
    subst ht hu
    have HE := Lib.hid he
    clear he
    by_cases hlt : k < s.size
    · have hd := bl_drop s k hlt
      have hc := s[k].toNat_lt
      rw [hd] at HE
      clear hd
      generalize hx : s[k].toNat = c at *
      have hc2 : c < 256 := hc
      clear hc
      by_cases hf : (0 < k ∧ c = 0) ∨ (k = 9 ∧ 1 < c)
      · have HR := Lib.hid (HE.out.trans (Wire.rdFrom_form hf))
        clear HE hv
        rcases hf with ⟨h1, rfl⟩ | ⟨rfl, h1⟩
        · go_wp2
          go_ret3
          exact ⟨by rw [HR.out]; rfl, rfl⟩
        · have t2 : ((c : Int) == 0) = false := by simp; omega
          go_wp2
          go_ret3
          exact ⟨by rw [HR.out]; rfl, rfl⟩
      · have hand := and127 c hc2
        have hdl : c % 128 < 128 := Nat.mod_lt _ (by omega)
        have hpl := pow_le k hk9
        have hdp : c % 128 * 128 ^ k < 18446744073709551616 := by
          by_cases h9 : k = 9
          · subst h9; have : c ≤ 1 := by omega
            have : c % 128 ≤ 1 := by omega
            omega
          · have h8 := Nat.pow_le_pow_right (n := 128) (by omega) (show k ≤ 8 by omega)
            have : c % 128 * 128 ^ k ≤ 127 * 128 ^ 8 := Nat.mul_le_mul (by omega) h8
            omega
        have HOr := Lib.hid (or_place k v (c % 128) hv hdp hpl)
        have HW := Lib.hid (u64_small (c % 128) (by omega))
        have hnew : v + c % 128 * 128 ^ k < 128 ^ (k + 1) := by
          rw [Nat.pow_succ]
          have : c % 128 * 128 ^ k ≤ 127 * 128 ^ k := Nat.mul_le_mul_right _ (by omega)
          omega
        have HNew := Lib.hid hnew
        clear hnew hdp hpl hv
        by_cases hc1 : c < 128
        · have HR := Lib.hid (HE.out.trans (Wire.rdFrom_last hf hc1))
          clear HE HNew
          generalize c % 128 = d at *
          by_cases h9 : k = 9
          · subst h9
            have t2 : ((c : Int) == 0) = false := by simp; omega
            have t3 : decide ((1 : Int) < (c : Int)) = false := by simp; omega
            go_wp2
            go_ret3
            exact ⟨by rw [HR.out]; unfold rdVal; rw [← HOr.out, ← HW.out]; rfl, rfl⟩
          · have t4 : ((k : Int) == 9) = false := by simp; omega
            by_cases h0 : k = 0
            · subst h0
              have HO0 := Lib.hid (show bits BinOp.or IntKind.u64 (v : Int) (d : Int) = ((v + d * 128 ^ 0 : Nat) : Int) by
                have := HOr.out
                rwa [show (d : Int) * 2 ^ (7 * 0) = (d : Int) by simp, HW.out] at this)
              go_wp2
              go_ret3
              exact ⟨by rw [HR.out]; unfold rdVal; rw [← HO0.out]; rfl, rfl⟩
            · have t2 : ((c : Int) == 0) = false := by simp; omega
              go_wp2
              go_ret3
              exact ⟨by rw [HR.out]; unfold rdVal; rw [← HOr.out, ← HW.out]; rfl, rfl⟩
        · have HR := Lib.hid (HE.out.trans (Wire.rdFrom_more hf hc1))
          clear HE
          generalize c % 128 = d at *
          have t4 : ((k : Int) == 9) = false := by simp; omega
          have t2 : ((c : Int) == 0) = false := by simp; omega
          by_cases h0 : k = 0
          · subst h0
            have HO0 := Lib.hid (show bits BinOp.or IntKind.u64 (v : Int) (d : Int) = ((v + d * 128 ^ 0 : Nat) : Int) by
                have := HOr.out
                rwa [show (d : Int) * 2 ^ (7 * 0) = (d : Int) by simp, HW.out] at this)
            go_wp2
            go_round
            case rel => exact ⟨1, _, by omega, by omega, HNew.out, by rw [← HO0.out], rfl, HR.out⟩
            case measure => simp [intOf]; omega
          · go_wp2
            go_round
            case rel => exact ⟨k + 1, _, by omega, by omega, HNew.out, by rw [← HOr.out, ← HW.out], by go_num, HR.out⟩
            case measure => simp [intOf]; omega
    · have hn : (bl s).drop k = [] := List.drop_of_length_le (by rw [bl_length]; omega)
      rw [hn] at HE
      clear hn
      go_wp2
      go_ret3
      exact ⟨by rw [HE.out]; rfl, rfl⟩
end Go.Proofs.YtooeahpkhocaeaaDoor
/- The contracts of folded and unfolded. Conditions: a number of 64 bits. -/
namespace Go.Proofs.YtooeahpkhocaeaaDoor
open Go.RowKit
set_option maxRecDepth 100000

theorem not64 (E : Nat) (h : E < 18446744073709551616) : bits BinOp.xor IntKind.u64 IntKind.u64.max (E : Int) = ((18446744073709551615 - E : Nat) : Int) := by
  have e : IntKind.u64.max = ((18446744073709551615 : Nat) : Int) := by decide
  rw [e, u64_xor_nat _ _ (by decide) h]
  congr 1
  apply Nat.eq_of_testBit_eq
  intro i
  rw [Nat.testBit_xor, show (18446744073709551615 : Nat) = 2 ^ 64 - 1 by decide, Nat.testBit_two_pow_sub_one, show 2 ^ 64 - 1 - E = 2 ^ 64 - (E + 1) by omega, Nat.testBit_two_pow_sub_succ (by omega)]
  by_cases hi : i < 64
  · simp [hi]
  · have : E.testBit i = false := Nat.testBit_lt_two_pow (Nat.lt_of_lt_of_le h (by
      have : 2 ^ 64 ≤ 2 ^ i := Nat.pow_le_pow_right (by omega) (by omega)
      simpa using this))
    simp [hi, this]
theorem u64_wrap (n : Int) : IntKind.u64.wrap n = n % 18446744073709551616 := by
  simp [IntKind.wrap, IntKind.signed, IntKind.bits]
theorem folded_any (n : Int) (w : World) (h1 : -9223372036854775808 ≤ n) (h2 : n ≤ 9223372036854775807) :
    Calls Tryd.prog 62 #[.int .i64 n] w fun e w' => e = .returned (.int .u64 (Wire.fold n : Nat)) ∧ w = w' := by
  by_cases h : 0 ≤ n
  · have HE := Lib.hid (show 2 * n = (Wire.fold n : Nat) by unfold Wire.fold; rw [if_pos h]; omega)
    go_enter Tryd.func62, Tryd.ntmps62
    go_wp2
    go_ret
    exact ⟨congrArg (fun n => Ending.returned (.int .u64 n)) HE.out, rfl⟩
  · have HE := Lib.hid (show bits BinOp.xor IntKind.u64 IntKind.u64.max (IntKind.u64.wrap (2 * IntKind.u64.wrap n)) = (Wire.fold n : Nat) by
      have e : IntKind.u64.wrap (2 * IntKind.u64.wrap n) = ((2 * n + 18446744073709551616).toNat : Int) := by
        rw [u64_wrap, u64_wrap]; omega
      rw [e, not64 _ (by omega)]
      unfold Wire.fold
      rw [if_neg h]
      omega)
    go_enter Tryd.func62, Tryd.ntmps62
    go_wp2
    go_ret
    exact ⟨congrArg (fun n => Ending.returned (.int .u64 n)) HE.out, rfl⟩
end Go.Proofs.YtooeahpkhocaeaaDoor
