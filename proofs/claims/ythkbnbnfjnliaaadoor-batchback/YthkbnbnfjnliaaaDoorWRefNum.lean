/- The contract of the document's own Num. Conditions: a number of 64 bits. -/
import Derived.Test.YthkbnbnfjnliaaaDoorJ19
import Derived.Test.YthkbnbnfjnliaaaDoorJ09
namespace Go.Proofs.YthkbnbnfjnliaaaDoor
open Go.RowKit

theorem S_append (a b : List Nat) : S (a ++ b) = S a ++ S b := by
  unfold S
  apply ByteArray.ext
  rw [ByteArray.data_append]
  simp
theorem conv_has {w : World} {b : Nat} {x : List Nat} (h : Has w b 5 (U8 x)) (c : Nat) : Sem.run Tryd.prog (convert 71 9 (.slice (some ⟨b, 0, none⟩) x.length c)) w = .ok (.string (S x)) w := by
  have := run_convert_bytes_arg (P := Tryd.prog) (w := w) 71 5 und59 (by kernel_rfl) b 0 x.length c (x.map fun n : Nat => (n : Int)) (by simp) (fun i hi => by
    rw [Nat.zero_add, h.cell, U8_get hi]
    simp [hi]) 9 und9
  rw [this]
  simp [strOfNums, S]
def DN (i : Nat) : Tmp := if i = 10 then 2 else 9 + i
def RN (n x y z : Nat) (rest : List Nat) (i : Nat) (v : Value) (w' : World) : Prop :=
  match i with
  | 0 | 6 => v = .int .u64 (n : Int)
  | 1 => v = .int .u64 (y : Int)
  | 2 => v = .int .u64 (x : Int)
  | 3 => v = .int .u8 (x : Int)
  | 4 => ∃ b, v = .slice (some ⟨b, 0, none⟩) 1 1 ∧ Has w' b 5 (U8 [x])
  | 5 => v = .string (S [x])
  | 7 => v = .int .u64 (z : Int)
  | 8 => v = .string (S rest)
  | _ => v = .string (S (x :: rest))
theorem getD_tt {l : Array Bool} {j : Nat} (h : l.getD j false = true) : l.getD j true = true := by
  by_cases hj : j < l.size
  · simpa [hj] using h
  · simp [hj] at h
theorem DN_inj (i j : Nat) (hi : i < 11) (hj : j < 11) (h : DN i = DN j) : i = j := by
  have : ∀ i : Fin 11, ∀ j : Fin 11, DN i.val = DN j.val → i = j := by decide
  simpa using this ⟨i, hi⟩ ⟨j, hj⟩ h
theorem DN_lt (i : Nat) (hi : i < 11) : DN i < 19 := by
  have : ∀ i : Fin 11, DN i.val < 19 := by decide
  exact this ⟨i, hi⟩
theorem DN_old (i : Nat) (hi : i < 11) : DN i ≠ 0 := by
  have : ∀ i : Fin 11, DN i.val ≠ 0 := by decide
  exact this ⟨i, hi⟩
theorem ord_of {ops : Array Oper} (h : (List.range ops.size).all (fun i => match ops[i]? with | some o => o.after.all (fun e => decide (e.on < i)) | none => true) = true) : ∀ (i : Nat) (o : Oper), ops[i]? = some o → o.after.all (fun e => decide (e.on < i)) = true := fun i o ho => by
  have := List.all_eq_true.1 h i (List.mem_range.2 (Array.getElem?_eq_some_iff.1 ho).1)
  simpa only [ho] using this
theorem RN_mono (n x y z : Nat) (rest : List Nat) (i : Nat) (v : Value) (w w' : World) (h : RN n x y z rest i v w) (k : Below w.heap.size w w') : RN n x y z rest i v w' := by
  unfold RN at *
  split at h <;> first
    | exact h
    | (obtain ⟨b, e, h⟩ := h; exact ⟨b, e, Has.below h k h.lt⟩)
set_option maxRecDepth 100000 in
set_option maxHeartbeats 1000000 in
theorem refNum_any (n : Nat) : ∀ (w : World), n < 18446744073709551616 → Calls Tryd.prog 44 #[.int .u64 (n : Int)] w fun e w' => e = .returned (.string (S (Wire.num n))) ∧ Below w.heap.size w w' := by
  induction n using Nat.strongRecOn with
  | _ n ih =>
    intro w hn
    by_cases hlt : n < 128
    · have hx : (n : Int) % 256 = (n : Int) := by omega
      have hc := conv_has (Has.new w 5 (U8 [n])) 1
      rw [show (U8 [n]).toArray = #[Value.int .u8 (n : Int)] from rfl] at hc
      change Sem.run Tryd.prog (convert 71 9 (.slice (some ⟨w.heap.size, 0, none⟩) 1 1)) _ = _ at hc
      have HE := Lib.hid (Wire.num_lt hlt)
      clear ih
      go_enter Tryd.func44, Tryd.ntmps44
      go_wp2
      go_ret
      exact ⟨by rw [HE.out]; rfl, (Below.refl _ _).alloc (Nat.le_refl _) _⟩
    · have HIh := Lib.hid (fun w => ih (n / 128) (by omega) w (by omega))
      have HE := Lib.hid (Wire.num_ge hlt)
      clear ih
      obtain ⟨x, hx⟩ : ∃ x, x = n % 128 + 128 := ⟨_, rfl⟩
      have hx2 : x < 256 := by omega
      rw [← hx] at HE
      have hlen : (Wire.num (n / 128)).length ≤ 10 := Wire.num_len10 _ (by omega)
      have HLen := Lib.hid hlen
      clear hlen
      obtain ⟨y, hy⟩ : ∃ y, y = n % 128 := ⟨_, rfl⟩
      have hx4 : (n : Int) % 128 = (y : Int) := by omega
      have hxy : (y : Int) + 128 = (x : Int) := by omega
      have hw1 : IntKind.u64.wrap (x : Int) = (x : Int) := by simp [IntKind.wrap, IntKind.signed, IntKind.bits]; omega
      have hw2 : IntKind.u8.wrap (x : Int) = (x : Int) := by simp [IntKind.wrap, IntKind.signed, IntKind.bits]; omega
      have hw3 : (n : Int).tmod 128 = (y : Int) := by rw [Int.tmod_eq_emod_of_nonneg (by omega)]; omega
      generalize hz : n / 128 = z at *
      have hx5 : (n : Int) / 128 = (z : Int) := by omega
      have hw4 : (n : Int).tdiv 128 = (z : Int) := by rw [Int.tdiv_eq_ediv_of_nonneg (by omega)]; omega
      have hw5 : IntKind.u64.wrap (z : Int) = (z : Int) := by simp [IntKind.wrap, IntKind.signed, IntKind.bits]; omega
      clear hx hy hz
      generalize Wire.num z = rest at *
      go_enter Tryd.func44, Tryd.ntmps44
      go_wp2_with fail
      refine wp_region_held (S := fun w' => Below w.heap.size w w') (by kernel_rfl) ?_
      refine held_all0 (RN n x y z rest) DN ?inj ?lt ?ord (RN_mono n x y z rest) (fun w1 w2 h k => h.trans (k.mono h.size)) (Below.refl _ _).drew ?step ?fin
      case inj => exact fun i j hi hj h => DN_inj i j hi hj h
      case lt => exact fun i hi => DN_lt i hi
      case ord => exact ord_of (by kernel_rfl)
      case step =>
        intro listed a w5 i o hs ho hdeps
        have z0 : a.tmps[0]?.getD undef = .int .u64 (n : Int) := by simpa using hs.old 0 (fun i hi _ => DN_old i hi)
        have dep : ∀ j, j < 11 → listed.getD j false = true → RN n x y z rest j (a.tmps[DN j]?.getD undef) w5 := fun j hj h => by simpa using hs.has j hj (getD_tt h)
        clear hs
        match i, ho with
        | 0, ho =>
          obtain rfl := Option.some.inj ho
          clear dep hdeps
          refine ⟨by rfl, fun K hK => ?_⟩
          go_simp
          exact hK _ _ (Below.refl _ _) rfl
        | 1, ho =>
          obtain rfl := Option.some.inj ho
          have r0 := dep 0 (by omega) (hdeps ⟨0, .data⟩ (by simp) (by rfl))
          change a.tmps[9]?.getD undef = .int .u64 (n : Int) at r0
          clear dep hdeps
          refine ⟨by rfl, fun K hK => ?_⟩
          go_simp
          exact hK _ _ (Below.refl _ _) rfl
        | 2, ho =>
          obtain rfl := Option.some.inj ho
          have r1 := dep 1 (by omega) (hdeps ⟨1, .data⟩ (by simp) (by rfl))
          change a.tmps[10]?.getD undef = .int .u64 (y : Int) at r1
          clear dep hdeps
          refine ⟨by rfl, fun K hK => ?_⟩
          go_simp
          exact hK _ _ (Below.refl _ _) rfl
        | 3, ho =>
          obtain rfl := Option.some.inj ho
          have r2 := dep 2 (by omega) (hdeps ⟨2, .data⟩ (by simp) (by rfl))
          change a.tmps[11]?.getD undef = .int .u64 (x : Int) at r2
          clear dep hdeps
          refine ⟨by rfl, fun K hK => ?_⟩
          go_simp
          exact hK _ _ (Below.refl _ _) rfl
        | 4, ho =>
          obtain rfl := Option.some.inj ho
          have r3 := dep 3 (by omega) (hdeps ⟨3, .data⟩ (by simp) (by rfl))
          change a.tmps[12]?.getD undef = .int .u8 (x : Int) at r3
          clear dep hdeps
          refine ⟨by rfl, fun K hK => ?_⟩
          go_simp
          exact hK _ _ ((Below.refl _ _).alloc (Nat.le_refl _) _) ⟨_, rfl, Has.new _ _ _⟩
        | 5, ho =>
          obtain rfl := Option.some.inj ho
          have r4 := dep 4 (by omega) (hdeps ⟨4, .data⟩ (by simp) (by rfl))
          change ∃ b, a.tmps[13]?.getD undef = .slice (some ⟨b, 0, none⟩) 1 1 ∧ Has w5 b 5 (U8 [x]) at r4
          obtain ⟨b, e4, h4⟩ := r4
          have hcv : Sem.run Tryd.prog (convert 71 9 (.slice (some ⟨b, 0, none⟩) 1 1)) w5 = .ok (.string (S [x])) w5 := conv_has h4 1
          clear dep hdeps h4
          refine ⟨by rfl, fun K hK => ?_⟩
          go_simp
          exact hK _ _ (Below.refl _ _) rfl
        | 6, ho =>
          obtain rfl := Option.some.inj ho
          clear dep hdeps
          refine ⟨by rfl, fun K hK => ?_⟩
          go_simp
          exact hK _ _ (Below.refl _ _) rfl
        | 7, ho =>
          obtain rfl := Option.some.inj ho
          have r6 := dep 6 (by omega) (hdeps ⟨6, .data⟩ (by simp) (by rfl))
          change a.tmps[15]?.getD undef = .int .u64 (n : Int) at r6
          clear dep hdeps
          refine ⟨by rfl, fun K hK => ?_⟩
          go_simp
          exact hK _ _ (Below.refl _ _) rfl
        | 8, ho =>
          obtain rfl := Option.some.inj ho
          have r7 := dep 7 (by omega) (hdeps ⟨7, .data⟩ (by simp) (by rfl))
          change a.tmps[16]?.getD undef = .int .u64 (z : Int) at r7
          clear dep hdeps
          refine ⟨by rfl, fun K hK => ?_⟩
          go_simp
          refine (HIh.out w5).mono ?_
          rintro e w6 ⟨rfl, hb⟩
          exact hK _ _ hb rfl
        | 9, ho =>
          obtain rfl := Option.some.inj ho
          have r5 := dep 5 (by omega) (hdeps ⟨5, .data⟩ (by simp) (by rfl))
          change a.tmps[14]?.getD undef = .string (S [x]) at r5
          have r8 := dep 8 (by omega) (hdeps ⟨8, .data⟩ (by simp) (by rfl))
          change a.tmps[17]?.getD undef = .string (S rest) at r8
          have hz1 : (S [x]).size = 1 := by rw [S_size]; rfl
          have hz2 : (S rest).size = rest.length := S_size _
          have hz3 : ¬ 9223372036854775807 < 1 + rest.length := by have := HLen.out; omega
          clear dep hdeps
          refine ⟨by rfl, fun K hK => ?_⟩
          go_simp
          exact hK _ _ (Below.refl _ _) (show _ = _ by rw [show x :: rest = [x] ++ rest from rfl, S_append])
        | 10, ho =>
          obtain rfl := Option.some.inj ho
          have r9 := dep 9 (by omega) (hdeps ⟨9, .data⟩ (by simp) (by rfl))
          change a.tmps[18]?.getD undef = .string (S (x :: rest)) at r9
          clear dep hdeps
          refine ⟨by rfl, fun K hK => ?_⟩
          go_simp
          exact hK _ _ (Below.refl _ _) rfl
        | i + 11, ho => exact absurd (Array.getElem?_eq_some_iff.1 ho).1 (by change ¬ i + 11 < 11; omega)
      case fin =>
        intro listed a w5 hs hall
        have x2 : a.tmps[2]?.getD undef = .string (S (x :: rest)) := by simpa [RN, DN] using hs.has 10 (by decide) (hall 10 (by decide))
        have HB5 := Lib.hid hs.S
        have hd : a.defers = [] := hs.defers
        have hsz : a.tmps.size = 19 := hs.tmps
        clear hs hall
        obtain ⟨tmps, defers⟩ := a
        subst hd
        simp only at x2 hsz
        go_wp2
        go_ret
        exact ⟨by rw [HE.out]; simp [x2], HB5.out⟩
end Go.Proofs.YthkbnbnfjnliaaaDoor
