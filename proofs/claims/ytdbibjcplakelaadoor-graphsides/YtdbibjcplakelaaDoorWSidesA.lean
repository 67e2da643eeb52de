/- GraphSides, walked. Conditions: none of our own. -/
import Derived.Test.YtdbibjcplakelaaDoorGApp
namespace Go.Proofs.YtdbibjcplakelaaDoor
open Go.RowKit
set_option maxRecDepth 100000

theorem below_step (f : E → Int) (v : Nat) : ∀ l : List E, (l.filter (fun e => decide (f e < ((v + 1 : Nat) : Int)))).length = (l.filter (fun e => decide (f e < (v : Int)))).length + (l.filter (fun e => f e == (v : Int))).length
  | [] => rfl
  | e :: l => by
    have ih := below_step f v l
    rw [List.filter_cons, List.filter_cons, List.filter_cons]
    rcases Int.lt_trichotomy (f e) (v : Int) with h | h | h
    · rw [if_pos (by rw [decide_eq_true_eq]; omega), if_pos (by rw [decide_eq_true_eq]; omega), if_neg (by rw [beq_iff_eq]; omega)]
      simp only [List.length_cons]; omega
    · rw [if_pos (by rw [decide_eq_true_eq]; omega), if_neg (by rw [decide_eq_true_eq]; omega), if_pos (by rw [beq_iff_eq]; omega)]
      simp only [List.length_cons]; omega
    · rw [if_neg (by rw [decide_eq_true_eq]; omega), if_neg (by rw [decide_eq_true_eq]; omega), if_neg (by rw [beq_iff_eq]; omega)]
      exact ih
theorem below_all (f : E → Int) (l : List E) (v : Nat) (h : ∀ e ∈ l, f e < v) : (l.filter (fun e => decide (f e < (v : Int)))).length = l.length := by
  rw [List.filter_eq_self.2 (fun e he => by rw [decide_eq_true_eq]; exact h e he)]
theorem below_none (f : E → Int) (l : List E) (h : ∀ e ∈ l, 0 ≤ f e) : (l.filter (fun e => decide (f e < ((0 : Nat) : Int)))).length = 0 := by
  rw [List.filter_eq_nil_iff.2 (fun e he => by rw [decide_eq_true_eq]; have := h e he; omega)]; rfl
theorem prev_out {l : List E} (h : l.Pairwise ltE) {v : Int} {i : Nat} {x y : E} (hx : (l.filter (fun e => e.1 == v))[i]? = some x) (hy : (l.filter (fun e => e.1 == v))[i + 1]? = some y) : x.1 = v ∧ y.1 = v ∧ x.2.1 < y.2.1 := by
  have hs := h.filter (fun e => e.1 == v)
  have mx := (List.mem_filter.1 (List.mem_of_getElem? hx)).2
  have my := (List.mem_filter.1 (List.mem_of_getElem? hy)).2
  rw [beq_iff_eq] at mx my
  obtain ⟨h1, e1⟩ := List.getElem?_eq_some_iff.1 hx
  obtain ⟨h2, e2⟩ := List.getElem?_eq_some_iff.1 hy
  have := List.pairwise_iff_getElem.1 hs i (i + 1) h1 h2 (by omega)
  rw [e1, e2] at this
  unfold ltE at this
  exact ⟨mx, my, by omega⟩
theorem prev_in {l : List E} (h : l.Pairwise ltE) {v : Int} {i : Nat} {x y : E} (hx : (l.filter (fun e => e.2.1 == v))[i]? = some x) (hy : (l.filter (fun e => e.2.1 == v))[i + 1]? = some y) : x.2.1 = v ∧ y.2.1 = v ∧ x.1 < y.1 := by
  have hs := h.filter (fun e => e.2.1 == v)
  have mx := (List.mem_filter.1 (List.mem_of_getElem? hx)).2
  have my := (List.mem_filter.1 (List.mem_of_getElem? hy)).2
  rw [beq_iff_eq] at mx my
  obtain ⟨h1, e1⟩ := List.getElem?_eq_some_iff.1 hx
  obtain ⟨h2, e2⟩ := List.getElem?_eq_some_iff.1 hy
  have := List.pairwise_iff_getElem.1 hs i (i + 1) h1 h2 (by omega)
  rw [e1, e2] at this
  unfold ltE at this
  exact ⟨mx, my, by omega⟩
set_option maxHeartbeats 1000000 in
theorem out_loop (N R : Act → World → Prop) (X : Nat → Act → World → Prop) (v : Nat) (ls : List E) (A : Option Addr) (c : Nat) (hls : ls.length ≤ 1000) (v7 v3 v4 v1 : Value) (w : World) (a : Act) (hL : Edges w (.slice A ls.length c) ls) (h0 : ∀ (i : Nat) (x : E), ls[i]? = some x → x.1 = (v : Int)) (h1 : ∀ (i : Nat) (x y : E), ls[i]? = some x → ls[i + 1]? = some y → x.2.1 < y.2.1) (hS : Sees 130 [(8, .int .i64 0), (6, .slice A ls.length c), (5, .int .i64 (v : Int)), (7, v7), (3, v3), (4, v4), (1, v1)] a) (h : ∀ a' w', Below w.heap.size w w' → Sees 130 [(5, .int .i64 (v : Int)), (7, v7), (3, v3), (4, v4), (1, v1)] a' → N a' w') : ((Tryd.f7.body.bind (blockIn 2)).getD .skip).wp Tryd.prog (Qx N X R) a w := by
  obtain ⟨_, _, e0, _, hcm, hA⟩ := hL
  simp only [Value.slice.injEq, true_and] at e0
  obtain ⟨rfl, rfl⟩ := e0
  unfold maxLen at hcm
  refine qx_for (fun m a w' => ∃ i : Nat, i ≤ ls.length ∧ m = ls.length - i ∧ Below w.heap.size w w' ∧ Sees 130 [(8, .int .i64 (i : Int)), (6, .slice A ls.length c), (5, .int .i64 (v : Int)), (7, v7), (3, v3), (4, v4), (1, v1)] a) ls.length ⟨0, by omega, by omega, Below.refl _ _, hS⟩ ?_
  rintro m a w' ⟨i, hi, rfl, hB, hS⟩
  refine reg_seq ?_
  refine seq_is hS (by decide) (runs_move rfl) (fun a1 hS => ?_)
  refine seq_is hS (by decide) (runs_move rfl) (fun a1 hS => ?_)
  refine seq_is hS (by decide) (runs_len rfl und22) (fun a1 hS => ?_)
  by_cases hlt : i < ls.length
  · skip
    obtain ⟨b, o, rfl, hb, hr⟩ := hA (by omega)
    obtain ⟨x, hx⟩ : ∃ x, ls[i]? = some x := ⟨_, List.getElem?_eq_getElem hlt⟩
    have hrx := range_below (edges_at hr hx) hB hb
    have hbw := Nat.lt_of_lt_of_le hb hB.size
    have hxv := h0 i x hx
    refine seq_is hS (by decide) (runs_lss (r := true) rfl rfl (by rw [decide_eq_true_eq]; omega)) (fun a1 hS => ?_)
    refine nil_ok ⟨_, hS.eval rfl, fun h => by simp at h, fun _ => ?_⟩
    refine qx_seq (qx_block ?_)
    by_cases hi0 : (i : Int) > 0
    · skip
      obtain ⟨i', rfl⟩ : ∃ i', i = i' + 1 := ⟨i - 1, by omega⟩
      obtain ⟨y, hy⟩ : ∃ y, ls[i']? = some y := ⟨_, List.getElem?_eq_getElem (by omega)⟩
      have hry := range_below (edges_at hr hy) hB hb
      have hyx := h1 i' y x hy hx
      refine qx_seq (reg_guard (fun w2 => Below w'.heap.size w' w2) [.inl (.slice (some ⟨b, o, none⟩) ls.length c), .inl (.int .i64 ((i' + 1 : Nat) : Int)), .inl (.pointer (some ⟨b, o + (i' + 1) * 3, none⟩)), .inl (.pointer (some ⟨b, o + (i' + 1) * 3 + 0, none⟩)), .inl (.int .i64 x.1), .inl (.int .i64 (v : Int)), .inl (.bool false), .inl (.bool false), .inl (.int .i64 ((i' + 1 : Nat) : Int)), .inl (.bool true), .inl (.bool true), .inl (.slice (some ⟨b, o, none⟩) ls.length c), .inl (.int .i64 ((i' + 1 : Nat) : Int)), .inl (.int .i64 (i' : Int)), .inl (.pointer (some ⟨b, o + i' * 3, none⟩)), .inl (.pointer (some ⟨b, o + i' * 3 + 1, none⟩)), .inl (.int .i64 y.2.1), .inl (.slice (some ⟨b, o, none⟩) ls.length c), .inl (.int .i64 ((i' + 1 : Nat) : Int)), .inl (.pointer (some ⟨b, o + (i' + 1) * 3, none⟩)), .inl (.pointer (some ⟨b, o + (i' + 1) * 3 + 1, none⟩)), .inl (.int .i64 x.2.1), .inl (.bool false), .inl (.bool false), .inl (.bool false)] 25 0 mixed rfl (by kernel_rfl) hS (Below.refl _ _) (fun _ h => h.drew) ?_)
      refine hs_is rfl (fun w' hw => runs_move rfl) ?_
      refine hs_is rfl (fun w' hw => runs_move rfl) ?_
      refine hs_is rfl (fun w' hw => runs_indexAddrG (j := i' + 1) rfl rfl und22 siz45 rfl hlt) ?_
      refine hs_is rfl (fun w' hw => runs_f45 (by decide) rfl) ?_
      refine hs_is rfl (fun w' hw => runs_load rfl und_plain3 ((range_below hrx hw hbw) 0 _ rfl)) ?_
      refine hs_is rfl (fun w' hw => runs_move rfl) ?_
      refine hs_is rfl (fun w' hw => runs_neq (r := false) rfl rfl (by simp [hxv])) ?_
      refine hs_is rfl (fun w' hw => runs_move rfl) ?_
      refine hs_yis rfl rfl (fun w' hw => runs_move rfl) ?_
      refine hs_yis rfl rfl (fun w' hw => runs_gtr (r := true) rfl rfl (by rw [decide_eq_true_eq]; omega)) ?_
      refine hs_yis rfl rfl (fun w' hw => runs_move rfl) ?_
      refine hs_yis rfl rfl (fun w' hw => runs_move rfl) ?_
      refine hs_yis rfl rfl (fun w' hw => runs_move rfl) ?_
      refine hs_yis rfl rfl (fun w' hw => runs_sub (r := (i' : Int)) rfl rfl (by simp [IntKind.wrap, IntKind.bits, IntKind.signed]; omega)) ?_
      refine hs_yis rfl rfl (fun w' hw => runs_indexAddrG (j := i') rfl rfl und22 siz45 rfl (by omega)) ?_
      refine hs_yis rfl rfl (fun w' hw => runs_f45 (by decide) rfl) ?_
      refine hs_yis rfl rfl (fun w' hw => runs_load rfl und_plain3 ((range_below hry hw hbw) 1 _ rfl)) ?_
      refine hs_yis rfl rfl (fun w' hw => runs_move rfl) ?_
      refine hs_yis rfl rfl (fun w' hw => runs_move rfl) ?_
      refine hs_yis rfl rfl (fun w' hw => runs_indexAddrG (j := i' + 1) rfl rfl und22 siz45 rfl hlt) ?_
      refine hs_yis rfl rfl (fun w' hw => runs_f45 (by decide) rfl) ?_
      refine hs_yis rfl rfl (fun w' hw => runs_load rfl und_plain3 ((range_below hrx hw hbw) 1 _ rfl)) ?_
      refine hs_yis rfl rfl (fun w' hw => runs_geq (r := false) rfl rfl (by rw [decide_eq_false_iff_not]; omega)) ?_
      refine hs_yis rfl rfl (fun w' hw => runs_pick rfl rfl) ?_
      refine hs_is rfl (fun w' hw => runs_pick rfl rfl) ?_
      refine (fun a5 w5 hS5 hB5 _ => ?_)
      refine wpAnyH_done (by kernel_rfl) ?_ _
      have hB := hB.trans (hB5.mono hB.size)
      have hS := hS5
      refine wp_cond_false (hS.eval rfl) (wp_skip ?_)
      refine reg_seq ?_
      refine seq_is hS (by decide) (runs_move rfl) (fun a1 hS => ?_)
      refine seq_is hS (by decide) (runs_add (r := ((i' + 1 + 1 : Nat) : Int)) rfl rfl (by simp [IntKind.wrap, IntKind.bits, IntKind.signed]; omega)) (fun a1 hS => ?_)
      refine seq_is hS (by decide) (runs_assign rfl) (fun a1 hS => ?_)
      exact nil_ok ⟨_, by omega, i' + 1 + 1, by omega, rfl, hB, hS.only _ ⟨rfl, rfl, rfl, rfl, rfl, rfl, rfl, trivial⟩⟩
    · skip
      obtain rfl : i = 0 := by omega
      refine qx_seq (reg_guard (fun w2 => Below w'.heap.size w' w2) [.inl (.slice (some ⟨b, o, none⟩) ls.length c), .inl (.int .i64 ((0 : Nat) : Int)), .inl (.pointer (some ⟨b, o + 0 * 3, none⟩)), .inl (.pointer (some ⟨b, o + 0 * 3 + 0, none⟩)), .inl (.int .i64 x.1), .inl (.int .i64 (v : Int)), .inl (.bool false), .inl (.bool false), .inl (.int .i64 ((0 : Nat) : Int)), .inl (.bool false), .inl (.bool false), .inl undef, .inl undef, .inl undef, .inl undef, .inl undef, .inl undef, .inl undef, .inl undef, .inl undef, .inl undef, .inl undef, .inl undef, .inl (.bool false), .inl (.bool false)] 25 0 mixed rfl (by kernel_rfl) hS (Below.refl _ _) (fun _ h => h.drew) ?_)
      refine hs_is rfl (fun w' hw => runs_move rfl) ?_
      refine hs_is rfl (fun w' hw => runs_move rfl) ?_
      refine hs_is rfl (fun w' hw => runs_indexAddrG (j := 0) rfl rfl und22 siz45 rfl hlt) ?_
      refine hs_is rfl (fun w' hw => runs_f45 (by decide) rfl) ?_
      refine hs_is rfl (fun w' hw => runs_load rfl und_plain3 ((range_below hrx hw hbw) 0 _ rfl)) ?_
      refine hs_is rfl (fun w' hw => runs_move rfl) ?_
      refine hs_is rfl (fun w' hw => runs_neq (r := false) rfl rfl (by simp [hxv])) ?_
      refine hs_is rfl (fun w' hw => runs_move rfl) ?_
      refine hs_yis rfl rfl (fun w' hw => runs_move rfl) ?_
      refine hs_yis rfl rfl (fun w' hw => runs_gtr (r := false) rfl rfl (by simp)) ?_
      refine hs_yis rfl rfl (fun w' hw => runs_move rfl) ?_
      refine hs_no rfl rfl rfl ?_
      refine hs_no rfl rfl rfl ?_
      refine hs_no rfl rfl rfl ?_
      refine hs_no rfl rfl rfl ?_
      refine hs_no rfl rfl rfl ?_
      refine hs_no rfl rfl rfl ?_
      refine hs_no rfl rfl rfl ?_
      refine hs_no rfl rfl rfl ?_
      refine hs_no rfl rfl rfl ?_
      refine hs_no rfl rfl rfl ?_
      refine hs_no rfl rfl rfl ?_
      refine hs_no rfl rfl rfl ?_
      refine hs_yis rfl rfl (fun w' hw => runs_pick rfl rfl) ?_
      refine hs_is rfl (fun w' hw => runs_pick rfl rfl) ?_
      refine (fun a5 w5 hS5 hB5 _ => ?_)
      refine wpAnyH_done (by kernel_rfl) ?_ _
      have hB := hB.trans (hB5.mono hB.size)
      have hS := hS5
      refine wp_cond_false (hS.eval rfl) (wp_skip ?_)
      refine reg_seq ?_
      refine seq_is hS (by decide) (runs_move rfl) (fun a1 hS => ?_)
      refine seq_is hS (by decide) (runs_add (r := ((0 + 1 : Nat) : Int)) rfl rfl (by rfl)) (fun a1 hS => ?_)
      refine seq_is hS (by decide) (runs_assign rfl) (fun a1 hS => ?_)
      exact nil_ok ⟨_, by omega, 0 + 1, by omega, rfl, hB, hS.only _ ⟨rfl, rfl, rfl, rfl, rfl, rfl, rfl, trivial⟩⟩
  · skip
    refine seq_is hS (by decide) (runs_lss (r := false) rfl rfl (by rw [decide_eq_false_iff_not]; omega)) (fun a1 hS => ?_)
    exact nil_ok ⟨_, hS.eval rfl, fun _ => h _ _ hB (hS.only _ ⟨rfl, rfl, rfl, rfl, rfl, trivial⟩), fun h => by simp at h⟩
set_option maxHeartbeats 1000000 in
theorem in_loop (N R : Act → World → Prop) (X : Nat → Act → World → Prop) (v : Nat) (ls : List E) (A : Option Addr) (c : Nat) (hls : ls.length ≤ 1000) (v3 v4 v1 : Value) (w : World) (a : Act) (hL : Edges w (.slice A ls.length c) ls) (h0 : ∀ (i : Nat) (x : E), ls[i]? = some x → x.2.1 = (v : Int)) (h1 : ∀ (i : Nat) (x y : E), ls[i]? = some x → ls[i + 1]? = some y → x.1 < y.1) (hS : Sees 130 [(9, .int .i64 0), (7, .slice A ls.length c), (5, .int .i64 (v : Int)), (3, v3), (4, v4), (1, v1)] a) (h : ∀ a' w', Below w.heap.size w w' → Sees 130 [(5, .int .i64 (v : Int)), (3, v3), (4, v4), (1, v1)] a' → N a' w') : ((Tryd.f7.body.bind (blockIn 4)).getD .skip).wp Tryd.prog (Qx N X R) a w := by
  obtain ⟨_, _, e0, _, hcm, hA⟩ := hL
  simp only [Value.slice.injEq, true_and] at e0
  obtain ⟨rfl, rfl⟩ := e0
  unfold maxLen at hcm
  refine qx_for (fun m a w' => ∃ i : Nat, i ≤ ls.length ∧ m = ls.length - i ∧ Below w.heap.size w w' ∧ Sees 130 [(9, .int .i64 (i : Int)), (7, .slice A ls.length c), (5, .int .i64 (v : Int)), (3, v3), (4, v4), (1, v1)] a) ls.length ⟨0, by omega, by omega, Below.refl _ _, hS⟩ ?_
  rintro m a w' ⟨i, hi, rfl, hB, hS⟩
  refine reg_seq ?_
  refine seq_is hS (by decide) (runs_move rfl) (fun a1 hS => ?_)
  refine seq_is hS (by decide) (runs_move rfl) (fun a1 hS => ?_)
  refine seq_is hS (by decide) (runs_len rfl und22) (fun a1 hS => ?_)
  by_cases hlt : i < ls.length
  · skip
    obtain ⟨b, o, rfl, hb, hr⟩ := hA (by omega)
    obtain ⟨x, hx⟩ : ∃ x, ls[i]? = some x := ⟨_, List.getElem?_eq_getElem hlt⟩
    have hrx := range_below (edges_at hr hx) hB hb
    have hbw := Nat.lt_of_lt_of_le hb hB.size
    have hxv := h0 i x hx
    refine seq_is hS (by decide) (runs_lss (r := true) rfl rfl (by rw [decide_eq_true_eq]; omega)) (fun a1 hS => ?_)
    refine nil_ok ⟨_, hS.eval rfl, fun h => by simp at h, fun _ => ?_⟩
    refine qx_seq (qx_block ?_)
    by_cases hi0 : (i : Int) > 0
    · skip
      obtain ⟨i', rfl⟩ : ∃ i', i = i' + 1 := ⟨i - 1, by omega⟩
      obtain ⟨y, hy⟩ : ∃ y, ls[i']? = some y := ⟨_, List.getElem?_eq_getElem (by omega)⟩
      have hry := range_below (edges_at hr hy) hB hb
      have hyx := h1 i' y x hy hx
      refine qx_seq (reg_guard (fun w2 => Below w'.heap.size w' w2) [.inl (.slice (some ⟨b, o, none⟩) ls.length c), .inl (.int .i64 ((i' + 1 : Nat) : Int)), .inl (.pointer (some ⟨b, o + (i' + 1) * 3, none⟩)), .inl (.pointer (some ⟨b, o + (i' + 1) * 3 + 1, none⟩)), .inl (.int .i64 x.2.1), .inl (.int .i64 (v : Int)), .inl (.bool false), .inl (.bool false), .inl (.int .i64 ((i' + 1 : Nat) : Int)), .inl (.bool true), .inl (.bool true), .inl (.slice (some ⟨b, o, none⟩) ls.length c), .inl (.int .i64 ((i' + 1 : Nat) : Int)), .inl (.int .i64 (i' : Int)), .inl (.pointer (some ⟨b, o + i' * 3, none⟩)), .inl (.pointer (some ⟨b, o + i' * 3 + 0, none⟩)), .inl (.int .i64 y.1), .inl (.slice (some ⟨b, o, none⟩) ls.length c), .inl (.int .i64 ((i' + 1 : Nat) : Int)), .inl (.pointer (some ⟨b, o + (i' + 1) * 3, none⟩)), .inl (.pointer (some ⟨b, o + (i' + 1) * 3 + 0, none⟩)), .inl (.int .i64 x.1), .inl (.bool false), .inl (.bool false), .inl (.bool false)] 25 0 mixed rfl (by kernel_rfl) hS (Below.refl _ _) (fun _ h => h.drew) ?_)
      refine hs_is rfl (fun w' hw => runs_move rfl) ?_
      refine hs_is rfl (fun w' hw => runs_move rfl) ?_
      refine hs_is rfl (fun w' hw => runs_indexAddrG (j := i' + 1) rfl rfl und22 siz45 rfl hlt) ?_
      refine hs_is rfl (fun w' hw => runs_f45 (by decide) rfl) ?_
      refine hs_is rfl (fun w' hw => runs_load rfl und_plain3 ((range_below hrx hw hbw) 1 _ rfl)) ?_
      refine hs_is rfl (fun w' hw => runs_move rfl) ?_
      refine hs_is rfl (fun w' hw => runs_neq (r := false) rfl rfl (by simp [hxv])) ?_
      refine hs_is rfl (fun w' hw => runs_move rfl) ?_
      refine hs_yis rfl rfl (fun w' hw => runs_move rfl) ?_
      refine hs_yis rfl rfl (fun w' hw => runs_gtr (r := true) rfl rfl (by rw [decide_eq_true_eq]; omega)) ?_
      refine hs_yis rfl rfl (fun w' hw => runs_move rfl) ?_
      refine hs_yis rfl rfl (fun w' hw => runs_move rfl) ?_
      refine hs_yis rfl rfl (fun w' hw => runs_move rfl) ?_
      refine hs_yis rfl rfl (fun w' hw => runs_sub (r := (i' : Int)) rfl rfl (by simp [IntKind.wrap, IntKind.bits, IntKind.signed]; omega)) ?_
      refine hs_yis rfl rfl (fun w' hw => runs_indexAddrG (j := i') rfl rfl und22 siz45 rfl (by omega)) ?_
      refine hs_yis rfl rfl (fun w' hw => runs_f45 (by decide) rfl) ?_
      refine hs_yis rfl rfl (fun w' hw => runs_load rfl und_plain3 ((range_below hry hw hbw) 0 _ rfl)) ?_
      refine hs_yis rfl rfl (fun w' hw => runs_move rfl) ?_
      refine hs_yis rfl rfl (fun w' hw => runs_move rfl) ?_
      refine hs_yis rfl rfl (fun w' hw => runs_indexAddrG (j := i' + 1) rfl rfl und22 siz45 rfl hlt) ?_
      refine hs_yis rfl rfl (fun w' hw => runs_f45 (by decide) rfl) ?_
      refine hs_yis rfl rfl (fun w' hw => runs_load rfl und_plain3 ((range_below hrx hw hbw) 0 _ rfl)) ?_
      refine hs_yis rfl rfl (fun w' hw => runs_geq (r := false) rfl rfl (by rw [decide_eq_false_iff_not]; omega)) ?_
      refine hs_yis rfl rfl (fun w' hw => runs_pick rfl rfl) ?_
      refine hs_is rfl (fun w' hw => runs_pick rfl rfl) ?_
      refine (fun a5 w5 hS5 hB5 _ => ?_)
      refine wpAnyH_done (by kernel_rfl) ?_ _
      have hB := hB.trans (hB5.mono hB.size)
      have hS := hS5
      refine wp_cond_false (hS.eval rfl) (wp_skip ?_)
      refine reg_seq ?_
      refine seq_is hS (by decide) (runs_move rfl) (fun a1 hS => ?_)
      refine seq_is hS (by decide) (runs_add (r := ((i' + 1 + 1 : Nat) : Int)) rfl rfl (by simp [IntKind.wrap, IntKind.bits, IntKind.signed]; omega)) (fun a1 hS => ?_)
      refine seq_is hS (by decide) (runs_assign rfl) (fun a1 hS => ?_)
      exact nil_ok ⟨_, by omega, i' + 1 + 1, by omega, rfl, hB, hS.only _ ⟨rfl, rfl, rfl, rfl, rfl, rfl, trivial⟩⟩
    · skip
      obtain rfl : i = 0 := by omega
      refine qx_seq (reg_guard (fun w2 => Below w'.heap.size w' w2) [.inl (.slice (some ⟨b, o, none⟩) ls.length c), .inl (.int .i64 ((0 : Nat) : Int)), .inl (.pointer (some ⟨b, o + 0 * 3, none⟩)), .inl (.pointer (some ⟨b, o + 0 * 3 + 1, none⟩)), .inl (.int .i64 x.2.1), .inl (.int .i64 (v : Int)), .inl (.bool false), .inl (.bool false), .inl (.int .i64 ((0 : Nat) : Int)), .inl (.bool false), .inl (.bool false), .inl undef, .inl undef, .inl undef, .inl undef, .inl undef, .inl undef, .inl undef, .inl undef, .inl undef, .inl undef, .inl undef, .inl undef, .inl (.bool false), .inl (.bool false)] 25 0 mixed rfl (by kernel_rfl) hS (Below.refl _ _) (fun _ h => h.drew) ?_)
      refine hs_is rfl (fun w' hw => runs_move rfl) ?_
      refine hs_is rfl (fun w' hw => runs_move rfl) ?_
      refine hs_is rfl (fun w' hw => runs_indexAddrG (j := 0) rfl rfl und22 siz45 rfl hlt) ?_
      refine hs_is rfl (fun w' hw => runs_f45 (by decide) rfl) ?_
      refine hs_is rfl (fun w' hw => runs_load rfl und_plain3 ((range_below hrx hw hbw) 1 _ rfl)) ?_
      refine hs_is rfl (fun w' hw => runs_move rfl) ?_
      refine hs_is rfl (fun w' hw => runs_neq (r := false) rfl rfl (by simp [hxv])) ?_
      refine hs_is rfl (fun w' hw => runs_move rfl) ?_
      refine hs_yis rfl rfl (fun w' hw => runs_move rfl) ?_
      refine hs_yis rfl rfl (fun w' hw => runs_gtr (r := false) rfl rfl (by simp)) ?_
      refine hs_yis rfl rfl (fun w' hw => runs_move rfl) ?_
      refine hs_no rfl rfl rfl ?_
      refine hs_no rfl rfl rfl ?_
      refine hs_no rfl rfl rfl ?_
      refine hs_no rfl rfl rfl ?_
      refine hs_no rfl rfl rfl ?_
      refine hs_no rfl rfl rfl ?_
      refine hs_no rfl rfl rfl ?_
      refine hs_no rfl rfl rfl ?_
      refine hs_no rfl rfl rfl ?_
      refine hs_no rfl rfl rfl ?_
      refine hs_no rfl rfl rfl ?_
      refine hs_no rfl rfl rfl ?_
      refine hs_yis rfl rfl (fun w' hw => runs_pick rfl rfl) ?_
      refine hs_is rfl (fun w' hw => runs_pick rfl rfl) ?_
      refine (fun a5 w5 hS5 hB5 _ => ?_)
      refine wpAnyH_done (by kernel_rfl) ?_ _
      have hB := hB.trans (hB5.mono hB.size)
      have hS := hS5
      refine wp_cond_false (hS.eval rfl) (wp_skip ?_)
      refine reg_seq ?_
      refine seq_is hS (by decide) (runs_move rfl) (fun a1 hS => ?_)
      refine seq_is hS (by decide) (runs_add (r := ((0 + 1 : Nat) : Int)) rfl rfl (by rfl)) (fun a1 hS => ?_)
      refine seq_is hS (by decide) (runs_assign rfl) (fun a1 hS => ?_)
      exact nil_ok ⟨_, by omega, 0 + 1, by omega, rfl, hB, hS.only _ ⟨rfl, rfl, rfl, rfl, rfl, rfl, trivial⟩⟩
  · skip
    refine seq_is hS (by decide) (runs_lss (r := false) rfl rfl (by rw [decide_eq_false_iff_not]; omega)) (fun a1 hS => ?_)
    exact nil_ok ⟨_, hS.eval rfl, fun _ => h _ _ hB (hS.only _ ⟨rfl, rfl, rfl, rfl, trivial⟩), fun h => by simp at h⟩
end Go.Proofs.YtdbibjcplakelaaDoor
