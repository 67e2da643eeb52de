/- GraphSides, walked. Conditions: none of our own. -/
import Derived.Test.YtdbibjcplakelaaDoorWSidesA
namespace Go.Proofs.YtdbibjcplakelaaDoor
open Go.RowKit
set_option maxRecDepth 100000

set_option maxHeartbeats 1000000 in
theorem sides_walk (n : Int) (es : List E) (v : Value) (w : World) (hE : Edges w v es) (hk : Kept w) : Ans 7 [gv n v] w (fun u w' => u = .bool true ∧ Below w.heap.size w w') := by
  have hE0 := hE
  obtain ⟨A, c, rfl, hc1, hc2, hA⟩ := id hE
  unfold maxLen at hc2
  refine calls_qx (args := [gv n (.slice A es.length c)]) 130 Tryd.func7 rfl (by kernel_rfl) (by simp) (fun a hS => ?_)
  refine qx_seq (reg_seq ?_)
  refine seq_op hS (by decide) (runs_box rfl) (fun v1 w1 a1 hp1 hS => ?_)
  obtain ⟨rfl, hw1⟩ := hp1
  obtain ⟨hG, hB1⟩ : Has w1 w.heap.size 24 [.int .i64 n, .slice A es.length c] ∧ Below w.heap.size w w1 := by rw [hw1]; exact new_box w 24 [.int .i64 n, .slice A es.length c]
  clear hw1
  have hE := hE0.kept hB1
  have hk1 := hk.on hB1
  generalize hgg : w.heap.size = g at *
  refine seq_is hS (by decide) (runs_assign rfl) (fun a1 hS => ?_)
  refine nil_ok (qx_seq (qx_seq (reg_seq ?_)))
  refine seq_op hS (by decide) (runs_call (args := []) goes10 rfl (awake_any w1 hk1)) (fun v2 w2 a2 hp2 hS => ?_)
  obtain ⟨rfl, hB2⟩ := hp2
  have hG := hG.below hB2 hG.lt
  have hE := hE.kept hB2
  have hk2 := hk1.on hB2
  have hB : Below g w w2 := hB1.trans (hB2.mono (by have := hB1.size; omega))
  refine seq_is hS (by decide) (runs_not (b := true) rfl) (fun a1 hS => ?_)
  refine seq_is hS (by decide) (runs_move rfl) (fun a1 hS => ?_)
  refine seq_yis hS (by decide) rfl (by decide) rfl (runs_f24 (by decide) rfl) (fun a1 hS => ?_)
  refine seq_yis hS (by decide) rfl (by decide) rfl (runs_loadV rfl hG) (fun a1 hS => ?_)
  refine seq_yis hS (by decide) rfl (by decide) rfl (runs_len rfl und22) (fun a1 hS => ?_)
  by_cases h6 : ((es.length : Nat) : Int) > 600
  · skip
    refine seq_yis hS (by decide) rfl (by decide) rfl (runs_gtr (r := true) rfl rfl (by rw [decide_eq_true_eq]; omega)) (fun a1 hS => ?_)
    refine seq_is hS (by decide) (runs_pick rfl rfl) (fun a1 hS => ?_)
    refine seq_is hS (by decide) (runs_move rfl) (fun a1 hS => ?_)
    refine seq_no hS (by decide) rfl (by decide) rfl rfl (fun a1 hS => ?_)
    refine seq_no hS (by decide) rfl (by decide) rfl rfl (fun a1 hS => ?_)
    refine seq_no hS (by decide) rfl (by decide) rfl rfl (fun a1 hS => ?_)
    refine seq_no hS (by decide) rfl (by decide) rfl rfl (fun a1 hS => ?_)
    refine seq_is hS (by decide) (runs_pick rfl rfl) (fun a1 hS => ?_)
    refine nil_ok (wp_cond_true (hS.eval rfl) (qx_seq (reg_seq ?_)))
    refine seq_op hS (by decide) (runs_call (args := []) goes10 rfl (awake_any w2 hk2)) (fun v9 w9 a9 hp9 hS => ?_)
    obtain ⟨rfl, hB9⟩ := hp9
    refine seq_is hS (by decide) (runs_assign rfl) (fun a1 hS => ?_)
    exact nil_ok (qx_ret (ret1 (t := 2) (by kernel_rfl) hS rfl ⟨_, rfl, rfl, hB.trans (hB9.mono (by have := hB.size; omega))⟩))
  · skip
    refine seq_yis hS (by decide) rfl (by decide) rfl (runs_gtr (r := false) rfl rfl (by rw [decide_eq_false_iff_not]; omega)) (fun a1 hS => ?_)
    refine seq_is hS (by decide) (runs_pick rfl rfl) (fun a1 hS => ?_)
    refine seq_is hS (by decide) (runs_move rfl) (fun a1 hS => ?_)
    refine seq_yis hS (by decide) rfl (by decide) rfl (runs_loadG rfl hG) (fun a1 hS => ?_)
    refine seq_yes hS (by decide) rfl (by decide) rfl (runs_call (args := [gv n (.slice A es.length c)]) goes13 rfl (own_any n es (by omega) _ w2 hE)) (fun v3 w3 a3 hp3 hS => ?_)
    obtain ⟨hB3, x3, rfl, hE3⟩ := hp3
    have hE3 := hE3.edges
    have hG := hG.below hB3 hG.lt
    have hE := hE.kept hB3
    have hB := hB.trans (hB3.mono (by have := hB.size; omega))
    refine seq_yes hS (by decide) rfl (by decide) rfl (runs_call (args := [gv n x3]) goes14 rfl (check_any n es x3 w3 hE3)) (fun v4 w4 a4 hp4 hS => ?_)
    obtain ⟨rfl, hB4⟩ := hp4
    have hG := hG.below hB4 hG.lt
    have hE := hE.kept hB4
    have hB := hB.trans (hB4.mono (by have := hB.size; omega))
    have hk4 := (hk2.on hB3).on hB4
    by_cases hc : checkZ n es = 0
    · skip
      refine seq_yis hS (by decide) rfl (by decide) rfl (runs_neq (r := false) rfl rfl (by simp [hc])) (fun a1 hS => ?_)
      refine seq_is hS (by decide) (runs_pick rfl rfl) (fun a1 hS => ?_)
      obtain ⟨kn, rfl, hkn1, hkn2, hel⟩ := norm_small hc
      obtain ⟨hcf, hct⟩ := check_zero hc
      obtain ⟨l, hl⟩ : ∃ l, l = normL kn es := ⟨_, rfl⟩
      have hls : l.Pairwise ltE := by rw [hl]; exact norm_sorted ((twice_iff es).1 hct) kn kn
      have hlp : l.Perm es := by rw [hl]; exact norm_perm hc
      have hlm : ∀ e ∈ l, 0 ≤ e.1 ∧ e.1 < kn ∧ 0 ≤ e.2.1 ∧ e.2.1 < kn := fun e he => by
        have := ((formed_iff _ es).1 hcf).2.2.2 e (hlp.mem_iff.1 he)
        first | exact ⟨this.1, this.2.1, this.2.2.1, this.2.2.2.1⟩ | (unfold okE at this; omega) | (simp [okE] at this; omega)
      have hll := hlp.length_eq
      have hO : ∀ (x : Int) (u : Value) (w0 : World), Edges w0 u es → Ans 16 [gv (kn : Int) u, .int .i64 x] w0 (fun u' w' => Below w0.heap.size w0 w' ∧ EdgesB w0.heap.size w' u' (l.filter (fun e => e.1 == x))) := fun x u w0 h0 => by
        have := out_any kn x es u w0 h0
        rw [if_pos hc, Int.toNat_natCast, ← hl] at this
        exact this
      have hI : ∀ (x : Int) (u : Value) (w0 : World), Edges w0 u es → Ans 17 [gv (kn : Int) u, .int .i64 x] w0 (fun u' w' => Below w0.heap.size w0 w' ∧ EdgesB w0.heap.size w' u' (l.filter (fun e => e.2.1 == x))) := fun x u w0 h0 => by
        have := in_any kn x es u w0 h0
        rw [if_pos hc, Int.toNat_natCast, ← hl] at this
        exact this
      clear hl
      refine nil_ok (wp_cond_false (hS.eval rfl) (wp_skip (qx_seq (reg_seq ?_))))
      refine seq_is hS (by decide) (runs_assign rfl) (fun a1 hS => ?_)
      refine seq_is hS (by decide) (runs_assign rfl) (fun a1 hS => ?_)
      refine nil_ok (qx_seq (qx_seq (reg_seq ?_)))
      refine seq_is hS (by decide) (runs_assign rfl) (fun a1 hS => ?_)
      refine nil_ok (qx_for (fun m a w' => ∃ v : Nat, v ≤ kn ∧ m = kn - v ∧ Below g w w' ∧ Has w' g 24 [.int .i64 kn, .slice A es.length c] ∧ Edges w' (.slice A es.length c) es ∧ Sees 130 [(5, .int .i64 ((v : Nat) : Int)), (3, .int .i64 (((l.filter (fun e => decide (e.1 < ((v : Nat) : Int)))).length : Nat) : Int)), (4, .int .i64 (((l.filter (fun e => decide (e.2.1 < ((v : Nat) : Int)))).length : Nat) : Int)), (1, .pointer (some ⟨g, 0, none⟩))] a) kn ⟨0, by omega, by omega, hB, hG, hE, ?_⟩ ?_)
      · rw [below_none (fun e => e.1) l (fun e he => (hlm e he).1), below_none (fun e => e.2.1) l (fun e he => (hlm e he).2.2.1)]
        exact hS.only _ ⟨rfl, rfl, rfl, rfl, trivial⟩
      clear hG hE hB hS hE3 hB4 hB3 hB2 hB1
      rintro m a w' ⟨v, hv, rfl, hB, hG, hE, hS⟩
      refine reg_seq ?_
      refine seq_is hS (by decide) (runs_move rfl) (fun a1 hS => ?_)
      refine seq_is hS (by decide) (runs_f24 (by decide) rfl) (fun a1 hS => ?_)
      refine seq_is hS (by decide) (runs_loadN rfl hG) (fun a1 hS => ?_)
      by_cases hlt : v < kn
      · skip
        refine seq_is hS (by decide) (runs_lss (r := true) rfl rfl (by rw [decide_eq_true_eq]; omega)) (fun a1 hS => ?_)
        refine nil_ok ⟨_, hS.eval rfl, fun h => by simp at h, fun _ => ?_⟩
        refine qx_seq (qx_block ?_)
        generalize hgs : w'.heap.size = gs at *
        have hgg2 : g < gs := by rw [← hgs]; exact hG.lt
        have hB0 := hB.size
        obtain ⟨w0, rfl⟩ : ∃ w0, w0 = w' := ⟨_, rfl⟩
        refine qx_seq (reg_guard (fun w4 => Below gs w0 w4) [.inl (gv kn (.slice A es.length c)), .inr (fun u w4 => ∃ x, u = gv (kn : Int) x ∧ Edges w4 x es), .inl (.int .i64 (v : Int)), .inr (fun u w4 => Edges w4 u (l.filter (fun e => e.1 == (v : Int)))), .inl (gv kn (.slice A es.length c)), .inr (fun u w4 => ∃ x, u = gv (kn : Int) x ∧ Edges w4 x es), .inl (.int .i64 (v : Int)), .inr (fun u w4 => Edges w4 u (l.filter (fun e => e.2.1 == (v : Int))))] 8 2 mixed rfl (by kernel_rfl) hS (by rw [← hgs]; exact Below.refl _ _) (fun _ h => h.drew) ?_)
        refine hs_is rfl (fun w' hw => runs_loadG rfl (hG.below hw hgg2)) ?_
        refine hs_pr rfl (fun _ _ _ h hb => by obtain ⟨x, h1, h2⟩ := h; exact ⟨x, h1, h2.kept hb⟩) (fun w' hw hq => (runs_call (args := [gv (kn : Int) (.slice A es.length c)]) goes13 rfl (own_any kn es (by omega) _ w' (hE.kept (by rw [hgs]; exact hw)))).mono (by rintro u w5 ⟨h1, x, rfl, h2⟩; exact ⟨⟨x, rfl, h2.edges⟩, hw.trans (h1.mono (by rw [← hgs]; exact hw.size)), h1⟩)) (fun u32 => ?_)
        refine hs_is rfl (fun w' hw => runs_move rfl) ?_
        refine hs_pr rfl (fun _ _ _ h hb => h.kept hb) (fun w' hw hq => (by obtain ⟨x, rfl, hx⟩ := hq (1, _) List.mem_cons_self (by kernel_rfl); exact (runs_call (args := [gv (kn : Int) x, .int .i64 (v : Int)]) goes16 rfl (hO (v : Int) x w' hx)).mono (by rintro u w5 ⟨h1, h2⟩; exact ⟨h2.edges, hw.trans (h1.mono (by rw [← hgs]; exact hw.size)), h1⟩))) (fun u34 => ?_)
        refine hs_is rfl (fun w' hw => runs_loadG rfl (hG.below hw hgg2)) ?_
        refine hs_pr rfl (fun _ _ _ h hb => by obtain ⟨x, h1, h2⟩ := h; exact ⟨x, h1, h2.kept hb⟩) (fun w' hw hq => (runs_call (args := [gv (kn : Int) (.slice A es.length c)]) goes13 rfl (own_any kn es (by omega) _ w' (hE.kept (by rw [hgs]; exact hw)))).mono (by rintro u w5 ⟨h1, x, rfl, h2⟩; exact ⟨⟨x, rfl, h2.edges⟩, hw.trans (h1.mono (by rw [← hgs]; exact hw.size)), h1⟩)) (fun u36 => ?_)
        refine hs_is rfl (fun w' hw => runs_move rfl) ?_
        refine hs_pr rfl (fun _ _ _ h hb => h.kept hb) (fun w' hw hq => (by obtain ⟨x, rfl, hx⟩ := hq (5, _) List.mem_cons_self (by kernel_rfl); exact (runs_call (args := [gv (kn : Int) x, .int .i64 (v : Int)]) goes17 rfl (hI (v : Int) x w' hx)).mono (by rintro u w5 ⟨h1, h2⟩; exact ⟨h2.edges, hw.trans (h1.mono (by rw [← hgs]; exact hw.size)), h1⟩))) (fun u38 => ?_)
        refine (fun a5 w5 hS5 hB5 hq => ?_)
        have hEi := hq (7, _) List.mem_cons_self
        have hEo := hq (3, _) (List.mem_cons_of_mem _ (List.mem_cons_of_mem _ List.mem_cons_self))
        clear hq
        obtain ⟨A6, c6, rfl, _, _, _⟩ := id hEo
        obtain ⟨A7, c7, rfl, _, _, _⟩ := id hEi
        refine tail_op 8 (by kernel_rfl) rfl hS5 (by decide) (runs_assign rfl) (fun v8 w8 a8 hp8 hS8 => ⟨trivial, ?_⟩)
        obtain ⟨rfl, rfl⟩ := hp8
        refine tail_op 9 (by kernel_rfl) rfl hS8 (by decide) (runs_assign rfl) (fun v9 w9 a9 hp9 hS9 => ⟨trivial, ?_⟩)
        obtain ⟨rfl, rfl⟩ := hp9
        refine wpAnyH_done (by kernel_rfl) ?_ _
        have hG := hG.below hB5 hgg2
        have hE := hE.kept (by rw [hgs]; exact hB5)
        have hB := hB.trans (hB5.mono (by omega))
        have hS := hS9.only [(6, .slice A6 (l.filter (fun e => e.1 == (v : Int))).length c6), (7, .slice A7 (l.filter (fun e => e.2.1 == (v : Int))).length c7), (5, .int .i64 (v : Int)), (3, .int .i64 (((l.filter (fun e => decide (e.1 < ((v : Nat) : Int)))).length : Nat) : Int)), (4, .int .i64 (((l.filter (fun e => decide (e.2.1 < ((v : Nat) : Int)))).length : Nat) : Int)), (1, .pointer (some ⟨g, 0, none⟩))] ⟨rfl, rfl, rfl, rfl, rfl, rfl, trivial⟩
        clear hS9 hS8 hS5
        have hfo : (l.filter (fun e => e.1 == (v : Int))).length ≤ l.length := List.length_filter_le _ _
        have hfi : (l.filter (fun e => e.2.1 == (v : Int))).length ≤ l.length := List.length_filter_le _ _
        have hgo : ((l.filter (fun e => decide (e.1 < ((v : Nat) : Int)))).length : Nat) ≤ l.length := List.length_filter_le _ _
        have hgi : ((l.filter (fun e => decide (e.2.1 < ((v : Nat) : Int)))).length : Nat) ≤ l.length := List.length_filter_le _ _
        refine qx_seq (reg_seq ?_)
        refine seq_is hS (by decide) (runs_move rfl) (fun a1 hS => ?_)
        refine seq_is hS (by decide) (runs_move rfl) (fun a1 hS => ?_)
        refine seq_is hS (by decide) (runs_len rfl und22) (fun a1 hS => ?_)
        refine seq_is hS (by decide) (runs_add (r := (((l.filter (fun e => decide (e.1 < ((v + 1 : Nat) : Int)))).length : Nat) : Int)) rfl rfl (by rw [below_step (fun e => e.1) v l]; simp [IntKind.wrap, IntKind.bits, IntKind.signed]; omega)) (fun a1 hS => ?_)
        refine seq_is hS (by decide) (runs_move rfl) (fun a1 hS => ?_)
        refine seq_is hS (by decide) (runs_move rfl) (fun a1 hS => ?_)
        refine seq_is hS (by decide) (runs_len rfl und22) (fun a1 hS => ?_)
        refine seq_is hS (by decide) (runs_add (r := (((l.filter (fun e => decide (e.2.1 < ((v + 1 : Nat) : Int)))).length : Nat) : Int)) rfl rfl (by rw [below_step (fun e => e.2.1) v l]; simp [IntKind.wrap, IntKind.bits, IntKind.signed]; omega)) (fun a1 hS => ?_)
        refine seq_is hS (by decide) (runs_assign rfl) (fun a1 hS => ?_)
        refine seq_is hS (by decide) (runs_assign rfl) (fun a1 hS => ?_)
        refine nil_ok (qx_seq (qx_seq (reg_seq ?_)))
        refine seq_is hS (by decide) (runs_assign rfl) (fun a1 hS => ?_)
        refine nil_ok (out_loop _ _ _ v (l.filter (fun e => e.1 == (v : Int))) A6 c6 (by omega) (.slice A7 (l.filter (fun e => e.2.1 == (v : Int))).length c7) (.int .i64 (((l.filter (fun e => decide (e.1 < ((v + 1 : Nat) : Int)))).length : Nat) : Int)) (.int .i64 (((l.filter (fun e => decide (e.2.1 < ((v + 1 : Nat) : Int)))).length : Nat) : Int)) (.pointer (some ⟨g, 0, none⟩)) w9 _ hEo (fun i x hx => by have := (List.mem_filter.1 (List.mem_of_getElem? hx)).2; rw [beq_iff_eq] at this; exact this) (fun i x y hx hy => (prev_out hls hx hy).2.2) (hS.only _ ⟨rfl, rfl, rfl, rfl, rfl, rfl, rfl, trivial⟩) (fun a10 w10 hB10 hS => ?_))
        have hG := hG.below hB10 hG.lt
        have hE := hE.kept hB10
        have hEi := hEi.kept hB10
        have hB := hB.trans (hB10.mono (by have := hB.size; omega))
        refine qx_seq (reg_seq ?_)
        refine seq_is hS (by decide) (runs_assign rfl) (fun a1 hS => ?_)
        refine nil_ok (in_loop _ _ _ v (l.filter (fun e => e.2.1 == (v : Int))) A7 c7 (by omega) (.int .i64 (((l.filter (fun e => decide (e.1 < ((v + 1 : Nat) : Int)))).length : Nat) : Int)) (.int .i64 (((l.filter (fun e => decide (e.2.1 < ((v + 1 : Nat) : Int)))).length : Nat) : Int)) (.pointer (some ⟨g, 0, none⟩)) w10 _ hEi (fun i x hx => by have := (List.mem_filter.1 (List.mem_of_getElem? hx)).2; rw [beq_iff_eq] at this; exact this) (fun i x y hx hy => (prev_in hls hx hy).2.2) (hS.only _ ⟨rfl, rfl, rfl, rfl, rfl, rfl, trivial⟩) (fun a11 w11 hB11 hS => ?_))
        have hG := hG.below hB11 hG.lt
        have hE := hE.kept hB11
        have hB := hB.trans (hB11.mono (by have := hB.size; omega))
        refine reg_seq ?_
        refine seq_is hS (by decide) (runs_move rfl) (fun a1 hS => ?_)
        refine seq_is hS (by decide) (runs_add (r := ((v + 1 : Nat) : Int)) rfl rfl (by simp [IntKind.wrap, IntKind.bits, IntKind.signed]; omega)) (fun a1 hS => ?_)
        refine seq_is hS (by decide) (runs_assign rfl) (fun a1 hS => ?_)
        exact nil_ok ⟨_, by omega, v + 1, by omega, rfl, hB, hG, hE, hS.only _ ⟨rfl, rfl, rfl, rfl, trivial⟩⟩
      · skip
        refine seq_is hS (by decide) (runs_lss (r := false) rfl rfl (by rw [decide_eq_false_iff_not]; omega)) (fun a1 hS => ?_)
        refine nil_ok ⟨_, hS.eval rfl, fun _ => ?_, fun h => by simp at h⟩
        obtain rfl : v = kn := by omega
        rw [below_all (fun e => e.1) l v (fun e he => (hlm e he).2.1), below_all (fun e => e.2.1) l v (fun e he => (hlm e he).2.2.2), hll] at hS
        have hz : l.filter (fun e => e.1 == (v : Int)) = [] := List.filter_eq_nil_iff.2 (fun e he => by rw [beq_iff_eq]; have := (hlm e he).2.1; omega)
        generalize hgs : w'.heap.size = gs at *
        have hgg2 : g < gs := by rw [← hgs]; exact hG.lt
        have hB0 := hB.size
        have hS := hS.only [(3, .int .i64 ((es.length : Nat) : Int)), (4, .int .i64 ((es.length : Nat) : Int)), (1, .pointer (some ⟨g, 0, none⟩))] ⟨rfl, rfl, rfl, trivial⟩
        obtain ⟨w0, rfl⟩ : ∃ w0, w0 = w' := ⟨_, rfl⟩
        refine qx_seq (reg_guard (fun w4 => Below gs w0 w4) [.inl (.int .i64 ((es.length : Nat) : Int)), .inl (.pointer (some ⟨g, 0 + 1, none⟩)), .inl (.slice A es.length c), .inl (.int .i64 ((es.length : Nat) : Int)), .inl (.bool true), .inl (.bool true), .inl (.int .i64 ((es.length : Nat) : Int)), .inl (.pointer (some ⟨g, 0 + 1, none⟩)), .inl (.slice A es.length c), .inl (.int .i64 ((es.length : Nat) : Int)), .inl (.bool true), .inl (.bool true), .inl (.bool true), .inl (gv v (.slice A es.length c)), .inr (fun u w4 => ∃ x, u = gv (v : Int) x ∧ Edges w4 x es), .inl (.pointer (some ⟨g, 0 + 0, none⟩)), .inl (.int .i64 v), .inr (fun u w4 => ∃ A c, u = .slice A 0 c), .inl (.int .i64 0), .inl (.bool true), .inl (.bool true)] 21 1 mixed rfl (by kernel_rfl) hS (by rw [← hgs]; exact Below.refl _ _) (fun _ h => h.drew) ?_)
        refine hs_is rfl (fun w' hw => runs_move rfl) ?_
        refine hs_is rfl (fun w' hw => runs_f24 (by decide) rfl) ?_
        refine hs_is rfl (fun w' hw => runs_loadV rfl (hG.below hw hgg2)) ?_
        refine hs_is rfl (fun w' hw => runs_len rfl und22) ?_
        refine hs_is rfl (fun w' hw => runs_eql (r := true) rfl rfl (by simp)) ?_
        refine hs_is rfl (fun w' hw => runs_move rfl) ?_
        refine hs_yis rfl rfl (fun w' hw => runs_move rfl) ?_
        refine hs_yis rfl rfl (fun w' hw => runs_f24 (by decide) rfl) ?_
        refine hs_yis rfl rfl (fun w' hw => runs_loadV rfl (hG.below hw hgg2)) ?_
        refine hs_yis rfl rfl (fun w' hw => runs_len rfl und22) ?_
        refine hs_yis rfl rfl (fun w' hw => runs_eql (r := true) rfl rfl (by simp)) ?_
        refine hs_is rfl (fun w' hw => runs_pick rfl rfl) ?_
        refine hs_is rfl (fun w' hw => runs_move rfl) ?_
        refine hs_yis rfl rfl (fun w' hw => runs_loadG rfl (hG.below hw hgg2)) ?_
        refine hs_ypr rfl rfl (fun _ _ _ h hb => by obtain ⟨x, h1, h2⟩ := h; exact ⟨x, h1, h2.kept hb⟩) (fun w' hw hq => (runs_call (args := [gv (v : Int) (.slice A es.length c)]) goes13 rfl (own_any v es (by omega) _ w' (hE.kept (by rw [hgs]; exact hw)))).mono (by rintro u w5 ⟨h1, x, rfl, h2⟩; exact ⟨⟨x, rfl, h2.edges⟩, hw.trans (h1.mono (by rw [← hgs]; exact hw.size)), h1⟩)) (fun u123 => ?_)
        refine hs_yis rfl rfl (fun w' hw => runs_f24 (by decide) rfl) ?_
        refine hs_yis rfl rfl (fun w' hw => runs_loadN rfl (hG.below hw hgg2)) ?_
        refine hs_ypr rfl rfl (fun _ _ _ h _ => h) (fun w' hw hq => (by obtain ⟨x, rfl, hx⟩ := hq (14, _) List.mem_cons_self (by kernel_rfl); exact (runs_call (args := [gv (v : Int) x, .int .i64 (v : Int)]) goes16 rfl (hO (v : Int) x w' hx)).mono (by rintro u w5 ⟨h1, h2⟩; rw [hz] at h2; obtain ⟨A8, c8, rfl, _⟩ := h2; exact ⟨⟨A8, c8, rfl⟩, hw.trans (h1.mono (by rw [← hgs]; exact hw.size)), h1⟩))) (fun u126 => ?_)
        refine hs_yval rfl rfl (fun w' hw hq => (by obtain ⟨A8, c8, rfl⟩ := hq (17, _) List.mem_cons_self (by kernel_rfl); exact (runs_len (m := 0) rfl und22).mono (by rintro u w5 ⟨rfl, rfl⟩; exact ⟨rfl, hw, Below.refl _ _⟩))) ?_
        refine hs_yis rfl rfl (fun w' hw => runs_eql (r := true) rfl rfl (by simp)) ?_
        refine hs_is rfl (fun w' hw => runs_pick rfl rfl) ?_
        refine (fun a5 w5 hS5 hB5 hq => ?_)
        refine tail_op 21 (by kernel_rfl) rfl hS5 (by decide) (runs_assign rfl) (fun v8 w8 a8 hp8 hS8 => ⟨trivial, ?_⟩)
        obtain ⟨rfl, rfl⟩ := hp8
        refine wpAnyH_done (by kernel_rfl) ?_ _
        exact qx_ret (ret1 (t := 2) (by kernel_rfl) hS8 rfl ⟨_, rfl, rfl, hB.trans (hB5.mono (by omega))⟩)
    · skip
      refine seq_yis hS (by decide) rfl (by decide) rfl (runs_neq (r := true) rfl rfl (by simp [hc])) (fun a1 hS => ?_)
      refine seq_is hS (by decide) (runs_pick rfl rfl) (fun a1 hS => ?_)
      refine nil_ok (wp_cond_true (hS.eval rfl) (qx_seq (reg_seq ?_)))
      refine seq_op hS (by decide) (runs_call (args := []) goes10 rfl (awake_any w4 hk4)) (fun v9 w9 a9 hp9 hS => ?_)
      obtain ⟨rfl, hB9⟩ := hp9
      refine seq_is hS (by decide) (runs_assign rfl) (fun a1 hS => ?_)
      exact nil_ok (qx_ret (ret1 (t := 2) (by kernel_rfl) hS rfl ⟨_, rfl, rfl, hB.trans (hB9.mono (by have := hB.size; omega))⟩))
end Go.Proofs.YtdbibjcplakelaaDoor
