/- Layer 4: slices of whole numbers; Rises, below, in; the document's own Rises. Conditions: none of our own. -/
import Derived.Test.YtdemoidmhmdgkaaDoorMMath
import Derived.Test.YtdemoidmhmdgkaaDoorEngA
import Derived.Test.YtdemoidmhmdgkaaDoorOpens
namespace Go.Proofs.YtdemoidmhmdgkaaDoor
open Go.RowKit
set_option maxRecDepth 100000

theorem undInts : Tryd.prog.underlying 39 = some (.slice 3) := by kernel_rfl
theorem c3 : Tryd.prog.cellsOf 3 = 1 := by kernel_rfl
theorem goes21 : Goes Tryd.prog 21 := goes_of Tryd.func21 (by kernel_rfl) rfl
theorem goes22 : Goes Tryd.prog 22 := goes_of Tryd.func22 (by kernel_rfl) rfl
theorem goes84 : Goes Tryd.prog 84 := goes_of Tryd.func84 (by kernel_rfl) rfl
theorem goes85 : Goes Tryd.prog 85 := goes_of Tryd.func85 (by kernel_rfl) rfl
/-- A slice of whole numbers. -/
def Ints (w : World) (v : Value) (xs : List Int) : Prop :=
  ∃ A c, v = .slice A xs.length c ∧ xs.length ≤ c ∧ c ≤ maxLen ∧ (0 < xs.length → ∃ b o, A = some ⟨b, o, none⟩ ∧ b < w.heap.size ∧ ∀ i, i < xs.length → w.cell? ⟨b, o + i, none⟩ = some (.int .i64 (xs.getD i 0)))
theorem Ints.kept {w w' : World} {v : Value} {xs : List Int} (h : Ints w v xs) (k : Below w.heap.size w w') : Ints w' v xs := by
  obtain ⟨A, c, rfl, h1, h2, hA⟩ := h
  refine ⟨A, c, rfl, h1, h2, fun h0 => ?_⟩
  obtain ⟨b, o, rfl, hb, hc⟩ := hA h0
  exact ⟨b, o, rfl, Nat.lt_of_lt_of_le hb k.size, fun i hi => by rw [k.cell (p := ⟨b, o + i, none⟩) hb]; exact hc i hi⟩
theorem ints_own {w : World} {base : Nat} {v : Value} {n : Nat} {xs : List Int} (h : w.ownsRow base 3 1 v n (xs.map (Value.int .i64))) (hn : xs.length = n) : Ints w v xs := by
  subst hn
  rcases h.2 with ⟨rfl, h0⟩ | ⟨g, cap, cur, rfl, hb, hg, h1, h2, h3, h4⟩
  · exact ⟨none, 0, by rw [h0], by omega, by unfold maxLen; omega, fun h => by omega⟩
  · refine ⟨_, cap, rfl, h1, h2, fun _ => ⟨g, 0, rfl, (Array.getElem?_eq_some_iff.1 hg).1, fun i hi => ?_⟩⟩
    have h5 : (cur.toList.take (xs.length * 1))[i]? = some (.int .i64 (xs.getD i 0)) := by
      rw [h4, List.getElem?_map, List.getElem?_eq_getElem hi, List.getD_eq_getElem?_getD, List.getElem?_eq_getElem hi]; rfl
    rw [List.getElem?_take, if_pos (by omega)] at h5
    simp only [World.cell?, hg, Nat.zero_add]
    simpa using h5
theorem ints_take {w : World} {A : Option Addr} {c : Nat} {xs : List Int} (h : Ints w (.slice A xs.length c) xs) (k : Nat) (hk : k ≤ xs.length) : Ints w (.slice A k c) (xs.take k) := by
  obtain ⟨A', c', e, h1, h2, hA⟩ := h
  simp only [Value.slice.injEq, true_and] at e
  obtain ⟨rfl, rfl⟩ := e
  have hl : (xs.take k).length = k := by simp; omega
  refine ⟨A, c, by rw [hl], by omega, h2, fun h0 => ?_⟩
  obtain ⟨b, o, rfl, hb, hc⟩ := hA (by omega)
  refine ⟨b, o, rfl, hb, fun i hi => ?_⟩
  rw [hc i (by omega)]
  simp [show i < k by omega]
theorem ints_drop {w : World} {A : Option Addr} {c : Nat} {xs : List Int} (h : Ints w (.slice A xs.length c) xs) (k : Nat) (hk : k ≤ xs.length) : Ints w (.slice (if c = k then A else A.map (·.add (k * 1))) (xs.length - k) (c - k)) (xs.drop k) := by
  obtain ⟨A', c', e, h1, h2, hA⟩ := h
  simp only [Value.slice.injEq, true_and] at e
  obtain ⟨rfl, rfl⟩ := e
  have hl : (xs.drop k).length = xs.length - k := by simp
  refine ⟨_, c - k, by rw [hl], by omega, by omega, fun h0 => ?_⟩
  rw [hl] at h0
  obtain ⟨b, o, rfl, hb, hc⟩ := hA (by omega)
  refine ⟨b, o + k, by rw [if_neg (by omega)]; simp [add_lit'], hb, fun i hi => ?_⟩
  rw [show o + k + i = o + (k + i) by omega, hc (k + i) (by omega)]
  simp
section
variable {L : List (Nat × Value)} {w : World} {ty : TypeId}
/-- A copy of a slice of whole numbers. -/
theorem copy_ints {s x : Operand} {g : Nat} {v : Value} {xs : List Int} (hH : Ints w v xs) (hn : xs.length ≤ 1000) (hs2 : vals L s = some (.slice (some ⟨g, 0, none⟩) 0 0)) (hx : vals L x = some v) :
    Runs Tryd.prog (.call { callee := .builtin .append, args := #[s, x], argTypes := #[39, 39] }) ty L w (fun u w2 => Ints w2 u xs ∧ Below w.heap.size w w2) := by
  obtain ⟨i3, hi3, hz3, hs3, hb3⟩ := info_parts infInt
  obtain ⟨A, c, rfl, hc1, hc2, hA⟩ := hH
  by_cases h0 : xs.length = 0
  · rw [h0] at hx
    refine (runs_appendNone undInts hi3 hs2 (Nat.le_refl _) (by simp) hx).mono ?_
    rintro u w2 ⟨rfl, rfl⟩
    exact ⟨⟨_, 0, by rw [h0], by omega, by unfold maxLen; omega, fun h => by omega⟩, Below.refl _ _⟩
  · obtain ⟨b, o, rfl, hb, hra⟩ := hA (by omega)
    refine (runs_append0N (m := xs.length) undInts hi3 hz3 hs3 hb3 rfl (by omega) hs2 hx (news := xs.map (Value.int .i64)) (by simp) (fun j u hu => ?_) (by omega) (by omega) (by omega)).mono ?_
    · rw [add_lit']
      rw [List.getElem?_map] at hu
      by_cases hj : j < xs.length
      · rw [List.getElem?_eq_getElem hj] at hu
        rw [hra j hj, ← hu, List.getD_eq_getElem?_getD, List.getElem?_eq_getElem hj]; rfl
      · rw [List.getElem?_eq_none (by omega)] at hu; cases hu
    · rintro u w2 ⟨h3, h4⟩
      exact ⟨ints_own h3 rfl, h4⟩
end
section
variable {P : Program} {N R : Act → World → Prop} {X : Nat → Act → World → Prop} {a : Act} {w : World}
/-- A 'for' over whole numbers. -/
theorem qx_range {b : Nat} {tst rest : Code} {c : Operand} (I : Nat → Act → World → Prop) (k : Nat) (h0 : I k a w)
    (round : ∀ m a w, I m a w → tst.wp P (Qx (fun a1 w1 => ∃ t, a1.eval c = .bool t ∧ (t = false → N a1 w1) ∧ (t = true → rest.wp P (Qx (fun a2 w2 => ∃ m', m' < m ∧ I m' a2 w2) (fun i a2 w2 => (i = b ∧ N a2 w2) ∨ (i ≠ b ∧ X i a2 w2)) R) a1 w1)) (fun _ _ _ => False) (fun _ _ => False)) a w) :
    (Code.block b (.loop (.seq tst (.seq (.cond c .skip (.exit b)) rest)))).wp P (Qx N X R) a w := by
  refine wp_block (wp_loop_ghost I k h0 fun m a w hI => ?_)
  refine wp_seq (wp_mono (round m a w hI) fun e a1 w1 hq => ?_)
  cases e with
  | normal =>
    refine wp_seq ?_
    obtain ⟨t, ht, hf, htr⟩ := hq
    cases t with
    | false => exact wp_cond_false ht (wp_exit (by simp only [Exit.then, Exit.inBlock, if_true]; exact hf rfl))
    | true =>
      refine wp_cond_true ht (wp_skip ?_)
      refine wp_mono (htr rfl) fun e a2 w2 hq => ?_
      cases e with
      | normal => exact hq
      | exit i =>
        rcases hq with ⟨rfl, hn⟩ | ⟨hne, hn⟩
        · simp only [Exit.then, Exit.inBlock, if_true]; exact hn
        · simp only [Exit.then, Exit.inBlock, hne, if_false]; exact hn
      | ret => exact hq
      | _ => exact hq.elim
  | _ => exact hq.elim
end
open Many
theorem rises_step {n last : Int} {xs : List Int} {i : Nat} (hi : i < xs.length) : risesB n last (xs.drop i) = (decide (last < xs.getD i 0) && decide (xs.getD i 0 < n) && risesB n (xs.getD i 0) (xs.drop (i + 1))) := by
  rw [List.drop_eq_getElem_cons hi, risesB, List.getD_eq_getElem?_getD, List.getElem?_eq_getElem hi]; rfl
set_option maxHeartbeats 1000000 in
theorem rises_any (n : Int) (xs : List Int) (v : Value) (w : World) (hs : Ints w v xs) : Calls Tryd.prog 22 #[.int .i64 n, v] w fun e w' => e = .returned (.bool (risesB n (-1) xs)) ∧ w' = w := by
  obtain ⟨A, c, rfl, h1, h2, hA⟩ := hs
  refine calls_qx (args := [.int .i64 n, .slice A xs.length c]) 31 Tryd.func22 rfl (by kernel_rfl) (by simp) (fun a hS => ?_)
  unfold maxLen at h2
  refine qx_seq (reg_seq ?_)
  refine seq_is hS (by decide) (runs_assign rfl) (fun a1 hS => ?_)
  refine nil_ok (qx_seq (reg_seq ?_))
  refine seq_is hS (by decide) (runs_assign rfl) (fun a1 hS => ?_)
  refine nil_ok (qx_seq (qx_seq (reg_seq ?_)))
  refine seq_is hS (by decide) (runs_move rfl) (fun a1 hS => ?_)
  refine seq_is hS (by decide) (runs_len rfl undInts) (fun a1 hS => ?_)
  refine seq_is hS (by decide) (runs_move rfl) (fun a1 hS => ?_)
  refine nil_ok (qx_range (fun m a w' => ∃ i last, i ≤ xs.length ∧ m = xs.length - i ∧ w' = w ∧ risesB n (-1) xs = risesB n last (xs.drop i) ∧ Sees 31 [(9, .int .i64 (i : Int)), (8, .int .i64 ((xs.length : Nat) : Int)), (5, .int .i64 last), (1, .slice A xs.length c), (0, .int .i64 n)] a) xs.length ⟨0, -1, by omega, by omega, rfl, by rw [List.drop_zero], hS.only _ ⟨rfl, rfl, rfl, rfl, rfl, trivial⟩⟩ ?_)
  rintro m a w' ⟨i, last, hi, rfl, rfl, he, hS⟩
  refine reg_seq ?_
  by_cases hlt : i < xs.length
  · obtain ⟨b, o, rfl, hb, hcell⟩ := hA (by omega)
    have hc := hcell i hlt
    rw [rises_step hlt] at he
    generalize xs.getD i 0 = x at *
    refine seq_is hS (by decide) (runs_lss (r := true) rfl rfl (by rw [decide_eq_true_eq]; omega)) (fun a1 hS => ?_)
    refine nil_ok ⟨_, hS.eval rfl, fun h => by simp at h, fun _ => ?_⟩
    refine qx_seq (qx_block (qx_seq (reg_seq ?_)))
    refine seq_is hS (by decide) (runs_move rfl) (fun a1 hS => ?_)
    refine seq_is hS (by decide) (runs_assign rfl) (fun a1 hS => ?_)
    refine nil_ok (qx_seq (qx_seq (reg_seq ?_)))
    refine seq_is hS (by decide) (runs_move rfl) (fun a1 hS => ?_)
    refine seq_is hS (by decide) (runs_move rfl) (fun a1 hS => ?_)
    refine seq_is hS (by decide) (runs_indexAddr (j := i) rfl rfl undInts infInt1 rfl hlt) (fun a1 hS => ?_)
    refine seq_is hS (by decide) (runs_load rfl (by kernel_rfl) hc) (fun a1 hS => ?_)
    refine seq_is hS (by decide) (runs_move rfl) (fun a1 hS => ?_)
    by_cases hle : x ≤ last
    · have hf : risesB n (-1) xs = false := by rw [he, show decide (last < x) = false by rw [decide_eq_false_iff_not]; omega]; simp
      refine seq_is hS (by decide) (runs_leq (r := true) rfl rfl (by rw [decide_eq_true_eq]; omega)) (fun a1 hS => ?_)
      refine seq_is hS (by decide) (runs_move rfl) (fun a1 hS => ?_)
      refine seq_no hS (by decide) rfl (by decide) rfl rfl (fun a1 hS => ?_)
      refine seq_no hS (by decide) rfl (by decide) rfl rfl (fun a1 hS => ?_)
      refine seq_no hS (by decide) rfl (by decide) rfl rfl (fun a1 hS => ?_)
      refine seq_no hS (by decide) rfl (by decide) rfl rfl (fun a1 hS => ?_)
      refine seq_no hS (by decide) rfl (by decide) rfl rfl (fun a1 hS => ?_)
      refine seq_no hS (by decide) rfl (by decide) rfl rfl (fun a1 hS => ?_)
      refine seq_is hS (by decide) (runs_pick rfl rfl) (fun a1 hS => ?_)
      refine nil_ok (wp_cond_true (hS.eval rfl) (qx_seq (reg_seq ?_)))
      refine seq_is hS (by decide) (runs_assign rfl) (fun a1 hS => ?_)
      exact nil_ok (qx_ret (ret1 (t := 4) (by kernel_rfl) hS rfl ⟨by rw [hf], rfl⟩))
    · refine seq_is hS (by decide) (runs_leq (r := false) rfl rfl (by rw [decide_eq_false_iff_not]; omega)) (fun a1 hS => ?_)
      refine seq_is hS (by decide) (runs_move rfl) (fun a1 hS => ?_)
      refine seq_yis hS (by decide) rfl (by decide) rfl (runs_move rfl) (fun a1 hS => ?_)
      refine seq_yis hS (by decide) rfl (by decide) rfl (runs_move rfl) (fun a1 hS => ?_)
      refine seq_yis hS (by decide) rfl (by decide) rfl (runs_indexAddr (j := i) rfl rfl undInts infInt1 rfl hlt) (fun a1 hS => ?_)
      refine seq_yis hS (by decide) rfl (by decide) rfl (runs_load rfl (by kernel_rfl) hc) (fun a1 hS => ?_)
      refine seq_yis hS (by decide) rfl (by decide) rfl (runs_move rfl) (fun a1 hS => ?_)
      by_cases hge : x ≥ n
      · have hf : risesB n (-1) xs = false := by rw [he, show decide (x < n) = false by rw [decide_eq_false_iff_not]; omega]; simp
        refine seq_yis hS (by decide) rfl (by decide) rfl (runs_geq (r := true) rfl rfl (by rw [decide_eq_true_eq]; omega)) (fun a1 hS => ?_)
        refine seq_is hS (by decide) (runs_pick rfl rfl) (fun a1 hS => ?_)
        refine nil_ok (wp_cond_true (hS.eval rfl) (qx_seq (reg_seq ?_)))
        refine seq_is hS (by decide) (runs_assign rfl) (fun a1 hS => ?_)
        exact nil_ok (qx_ret (ret1 (t := 4) (by kernel_rfl) hS rfl ⟨by rw [hf], rfl⟩))
      · have hf : risesB n (-1) xs = risesB n x (xs.drop (i + 1)) := by rw [he, show decide (x < n) = true by rw [decide_eq_true_eq]; omega, show decide (last < x) = true by rw [decide_eq_true_eq]; omega]; simp
        refine seq_yis hS (by decide) rfl (by decide) rfl (runs_geq (r := false) rfl rfl (by rw [decide_eq_false_iff_not]; omega)) (fun a1 hS => ?_)
        refine seq_is hS (by decide) (runs_pick rfl rfl) (fun a1 hS => ?_)
        refine nil_ok (wp_cond_false (hS.eval rfl) (wp_skip (reg_seq ?_)))
        refine seq_is hS (by decide) (runs_move rfl) (fun a1 hS => ?_)
        refine seq_is hS (by decide) (runs_move rfl) (fun a1 hS => ?_)
        refine seq_is hS (by decide) (runs_indexAddr (j := i) rfl rfl undInts infInt1 rfl hlt) (fun a1 hS => ?_)
        refine seq_is hS (by decide) (runs_load rfl (by kernel_rfl) hc) (fun a1 hS => ?_)
        refine seq_is hS (by decide) (runs_assign rfl) (fun a1 hS => ?_)
        refine nil_ok (reg_seq ?_)
        refine seq_is hS (by decide) (runs_add rfl rfl ((IntWalk.i64_in _ (by omega)).trans (show (i : Int) + 1 = ((i + 1 : Nat) : Int) by omega))) (fun a1 hS => ?_)
        refine seq_is hS (by decide) (runs_move rfl) (fun a1 hS => ?_)
        exact nil_ok ⟨xs.length - (i + 1), by omega, i + 1, x, by omega, rfl, rfl, hf, hS.only _ ⟨rfl, rfl, rfl, rfl, rfl, trivial⟩⟩
  · refine seq_is hS (by decide) (runs_lss (r := false) rfl rfl (by rw [decide_eq_false_iff_not]; omega)) (fun a1 hS => ?_)
    refine nil_ok ⟨_, hS.eval rfl, fun _ => ?_, fun h => by simp at h⟩
    have hf : risesB n (-1) xs = true := by rw [he, List.drop_eq_nil_of_le (by omega)]; rfl
    refine qx_seq (reg_seq ?_)
    refine seq_is hS (by decide) (runs_assign rfl) (fun a1 hS => ?_)
    exact nil_ok (qx_ret (ret1 (t := 4) (by kernel_rfl) hS rfl ⟨by rw [hf], rfl⟩))
/-- below: how many of places are below that one. -/
def belowZ (mid : Int) : List Int → Nat
  | [] => 0
  | x :: xs => if x < mid then belowZ mid xs + 1 else 0
theorem belowZ_of (mid : Nat) : ∀ l, belowZ (mid : Int) (ofN l) = belowN mid l
  | [] => rfl
  | x :: xs => by
    show belowZ (mid : Int) ((x : Int) :: ofN xs) = _
    rw [belowZ, belowN, belowZ_of mid xs]
    by_cases h : x < mid
    · rw [if_pos h, if_pos (by omega)]
    · rw [if_neg h, if_neg (by omega)]
set_option maxHeartbeats 1000000 in
theorem below_any (mid : Int) (xs : List Int) (v : Value) (w : World) (hs : Ints w v xs) : Calls Tryd.prog 84 #[.int .i64 mid, v] w fun e w' => e = .returned (.int .i64 ((belowZ mid xs : Nat) : Int)) ∧ w' = w := by
  obtain ⟨A, c, rfl, h1, h2, hA⟩ := hs
  refine calls_qx (args := [.int .i64 mid, .slice A xs.length c]) 21 Tryd.func84 rfl (by kernel_rfl) (by simp) (fun a hS => ?_)
  unfold maxLen at h2
  refine qx_seq (reg_seq ?_)
  refine seq_is hS (by decide) (runs_assign rfl) (fun a1 hS => ?_)
  refine nil_ok (qx_seq (qx_seq (reg_seq ?_)))
  refine seq_is hS (by decide) (runs_move rfl) (fun a1 hS => ?_)
  refine seq_is hS (by decide) (runs_len rfl undInts) (fun a1 hS => ?_)
  refine seq_is hS (by decide) (runs_move rfl) (fun a1 hS => ?_)
  refine nil_ok (qx_range (fun m a w' => ∃ i, i ≤ xs.length ∧ m = xs.length - i ∧ w' = w ∧ belowZ mid xs = i + belowZ mid (xs.drop i) ∧ Sees 21 [(8, .int .i64 (i : Int)), (7, .int .i64 ((xs.length : Nat) : Int)), (1, .slice A xs.length c), (0, .int .i64 mid)] a) xs.length ⟨0, by omega, by omega, rfl, by rw [List.drop_zero]; omega, hS.only _ ⟨rfl, rfl, rfl, rfl, trivial⟩⟩ ?_)
  rintro m a w' ⟨i, hi, rfl, rfl, he, hS⟩
  refine reg_seq ?_
  by_cases hlt : i < xs.length
  · obtain ⟨b, o, rfl, hb, hcell⟩ := hA (by omega)
    have hc := hcell i hlt
    rw [List.drop_eq_getElem_cons hlt, belowZ] at he
    rw [show xs.getD i 0 = xs[i] by simp [hlt]] at hc
    generalize xs[i] = x at *
    refine seq_is hS (by decide) (runs_lss (r := true) rfl rfl (by rw [decide_eq_true_eq]; omega)) (fun a1 hS => ?_)
    refine nil_ok ⟨_, hS.eval rfl, fun h => by simp at h, fun _ => ?_⟩
    refine qx_seq (qx_block (qx_seq (reg_seq ?_)))
    refine seq_is hS (by decide) (runs_move rfl) (fun a1 hS => ?_)
    refine seq_is hS (by decide) (runs_assign rfl) (fun a1 hS => ?_)
    refine nil_ok (qx_seq (reg_seq ?_))
    refine seq_is hS (by decide) (runs_move rfl) (fun a1 hS => ?_)
    refine seq_is hS (by decide) (runs_move rfl) (fun a1 hS => ?_)
    refine seq_is hS (by decide) (runs_indexAddr (j := i) rfl rfl undInts infInt1 rfl hlt) (fun a1 hS => ?_)
    refine seq_is hS (by decide) (runs_load rfl (by kernel_rfl) hc) (fun a1 hS => ?_)
    refine seq_is hS (by decide) (runs_move rfl) (fun a1 hS => ?_)
    by_cases hge : x ≥ mid
    · rw [if_neg (by omega)] at he
      refine seq_is hS (by decide) (runs_geq (r := true) rfl rfl (by rw [decide_eq_true_eq]; omega)) (fun a1 hS => ?_)
      refine nil_ok (wp_cond_true (hS.eval rfl) (qx_seq (reg_seq ?_)))
      refine seq_is hS (by decide) (runs_move rfl) (fun a1 hS => ?_)
      refine seq_is hS (by decide) (runs_assign rfl) (fun a1 hS => ?_)
      exact nil_ok (qx_ret (ret1 (t := 4) (by kernel_rfl) hS rfl ⟨by rw [he]; rfl, rfl⟩))
    · rw [if_pos (by omega)] at he
      refine seq_is hS (by decide) (runs_geq (r := false) rfl rfl (by rw [decide_eq_false_iff_not]; omega)) (fun a1 hS => ?_)
      refine nil_ok (wp_cond_false (hS.eval rfl) (wp_skip (reg_seq ?_)))
      refine seq_is hS (by decide) (runs_add rfl rfl ((IntWalk.i64_in _ (by omega)).trans (show (i : Int) + 1 = ((i + 1 : Nat) : Int) by omega))) (fun a1 hS => ?_)
      refine seq_is hS (by decide) (runs_move rfl) (fun a1 hS => ?_)
      exact nil_ok ⟨xs.length - (i + 1), by omega, i + 1, by omega, rfl, rfl, by rw [he]; omega, hS.only _ ⟨rfl, rfl, rfl, rfl, trivial⟩⟩
  · refine seq_is hS (by decide) (runs_lss (r := false) rfl rfl (by rw [decide_eq_false_iff_not]; omega)) (fun a1 hS => ?_)
    refine nil_ok ⟨_, hS.eval rfl, fun _ => ?_, fun h => by simp at h⟩
    rw [List.drop_eq_nil_of_le (by omega), belowZ] at he
    refine qx_seq (reg_seq ?_)
    refine seq_is hS (by decide) (runs_move rfl) (fun a1 hS => ?_)
    refine seq_is hS (by decide) (runs_len rfl undInts) (fun a1 hS => ?_)
    refine seq_is hS (by decide) (runs_assign rfl) (fun a1 hS => ?_)
    exact nil_ok (qx_ret (ret1 (t := 4) (by kernel_rfl) hS rfl ⟨by rw [he, show i = xs.length by omega]; rfl, rfl⟩))
end Go.Proofs.YtdemoidmhmdgkaaDoor
