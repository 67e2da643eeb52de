/- modillionlaw07.ProgSteps, walked. Conditions: none of our own. -/
import Derived.Test.YtfceckdhoaabnaaSAwake
import Derived.Test.YtfceckdhoaabnaaSFactsB
import Derived.Test.YtfceckdhoaabnaaSRStep
namespace Go.Proofs.Ytfceckdhoaabnaa
open Go.RowKit
set_option maxRecDepth 100000

theorem rstep_is {n : Int} {es : List E} {v : Value} {tg : ByteArray} {src steps at_ : Int} {x y : Vx} {l : List E} {e : Int} (w : World) (hE : Edges w v es) (h : stepL n es (kindL tg.data.toList) src steps at_ x = (y, l, e)) :
    Ans 14 [gv n v, jv tg src steps, .int .i64 at_, vv x] w (fun u w' => Below w.heap.size w w' ∧ ∃ sv, u = .tuple #[vv y, sv, .int .i64 e] ∧ w'.ownsRow w.heap.size 48 3 sv l.length (cellsE l)) := by
  have := rstep_any n es v tg src steps at_ x w hE
  rw [h] at this
  exact this
set_option maxHeartbeats 1000000 in
theorem steps_any (n : Int) (es : List E) (v : Value) (tg : ByteArray) (src steps at_ : Int) (x : Vx) (w : World) (hE : Edges w v es) : Ans 3 [gv n v, jv tg src steps, .int .i64 at_, vv x] w (fun u w' => u = .bool true ∧ Below w.heap.size w w') := by
  obtain ⟨A, c, rfl, h1, h2, hA⟩ := hE
  have hE : Edges w (.slice A es.length c) es := ⟨A, c, rfl, h1, h2, hA⟩
  refine calls_qx (args := [gv n (.slice A es.length c), .agg (jc tg src steps).toArray, .int .i64 at_, .agg (vc x).toArray]) 68 Try.func3 rfl (by kernel_rfl) (by simp) (fun a hS => ?_)
  have hB := Below.refl w.heap.size w
  have hEb := hE
  refine qx_seq (reg_seq ?_)
  refine seq_op hS (by decide) (runs_boxB (cs := [.int .i64 n, .slice A es.length c]) rfl rfl) (fun v1 w1 a1 hp hS => ?_)
  obtain ⟨rfl, hM1, hB1⟩ := hp
  have hB := hB.trans (hB1.mono hB.size)
  have hE := hEb.kept hB
  refine seq_op hS (by decide) (runs_boxB (cs := jc tg src steps) rfl rfl) (fun v3 w3 a1 hp hS => ?_)
  obtain ⟨rfl, hM3, hB3⟩ := hp
  have hB := hB.trans (hB3.mono hB.size)
  have hM1 := hM1.below hB3 hM1.lt
  have hE := hEb.kept hB
  refine seq_op hS (by decide) (runs_boxB (cs := vc x) rfl rfl) (fun v5 w5 a1 hp hS => ?_)
  obtain ⟨rfl, hM5, hB5⟩ := hp
  have hB := hB.trans (hB5.mono hB.size)
  have hM1 := hM1.below hB5 hM1.lt
  have hM3 := hM3.below hB5 hM3.lt
  have hE := hEb.kept hB
  refine seq_is hS (by decide) (runs_assign rfl) (fun a1 hS => ?_)
  refine nil_ok (qx_seq (qx_seq (reg_seq ?_)))
  refine seq_op hS (by decide) (runs_call (args := []) goes10 rfl (awake_any w5)) (fun v7 w7 a1 hp hS => ?_)
  obtain ⟨rfl, hB7⟩ := hp
  have hB := hB.trans (hB7.mono hB.size)
  have hM1 := hM1.below hB7 hM1.lt
  have hM3 := hM3.below hB7 hM3.lt
  have hM5 := hM5.below hB7 hM5.lt
  have hE := hEb.kept hB
  refine seq_is hS (by decide) (runs_not (b := true) rfl) (fun a1 hS => ?_)
  refine seq_is hS (by decide) (runs_move rfl) (fun a1 hS => ?_)
  refine seq_yis hS (by decide) rfl (by decide) rfl (runs_fieldK fo24_1 rfl) (fun a1 hS => ?_)
  refine seq_yis hS (by decide) rfl (by decide) rfl (runs_load rfl pl22 (hM1.at rfl)) (fun a1 hS => ?_)
  refine seq_yis hS (by decide) rfl (by decide) rfl (runs_len rfl und22) (fun a1 hS => ?_)
  by_cases h100 : ((es.length : Nat) : Int) > 100
  · skip
    refine seq_yis hS (by decide) rfl (by decide) rfl (runs_gtr (r := true) rfl rfl (by rw [decide_eq_true_eq]; omega)) (fun a1 hS => ?_)
    refine seq_is hS (by decide) (runs_pick rfl rfl) (fun a1 hS => ?_)
    refine nil_ok (wp_cond_true (hS.eval rfl) (qx_seq (reg_seq ?_)))
    refine seq_op hS (by decide) (runs_call (args := []) goes10 rfl (awake_any w7)) (fun v9 w9 a1 hp hS => ?_)
    obtain ⟨rfl, hB9⟩ := hp
    have hB := hB.trans (hB9.mono hB.size)
    have hM1 := hM1.below hB9 hM1.lt
    have hM3 := hM3.below hB9 hM3.lt
    have hM5 := hM5.below hB9 hM5.lt
    have hE := hEb.kept hB
    refine seq_is hS (by decide) (runs_assign rfl) (fun a1 hS => ?_)
    exact nil_ok (qx_ret (ret1 (t := 8) (by kernel_rfl) hS rfl ⟨_, rfl, rfl, hB⟩))
  · skip
    refine seq_yis hS (by decide) rfl (by decide) rfl (runs_gtr (r := false) rfl rfl (by rw [decide_eq_false_iff_not]; omega)) (fun a1 hS => ?_)
    refine seq_is hS (by decide) (runs_pick rfl rfl) (fun a1 hS => ?_)
    refine nil_ok (wp_cond_false (hS.eval rfl) (wp_skip (qx_seq (reg_seq ?_))))
    refine seq_is hS (by decide) (runs_assign rfl) (fun a1 hS => ?_)
    refine nil_ok (qx_seq (qx_seq (reg_seq ?_)))
    refine seq_is hS (by decide) (runs_loadRow rfl hM1 Try.underlying24 rfl (by rw [sz24]; rfl)) (fun a1 hS => ?_)
    refine seq_is hS (by decide) (runs_loadRow rfl hM3 Try.underlying26 rfl (by rw [sz26]; rfl)) (fun a1 hS => ?_)
    refine seq_op hS (by decide) (runs_call (args := [gv n (.slice A es.length c), .agg (jc tg src steps).toArray]) goes11 rfl (right_any n es _ tg src steps w7 hE)) (fun v11 w11 a1 hp hS => ?_)
    obtain ⟨rfl, hB11⟩ := hp
    have hB := hB.trans (hB11.mono hB.size)
    have hM1 := hM1.below hB11 hM1.lt
    have hM3 := hM3.below hB11 hM3.lt
    have hM5 := hM5.below hB11 hM5.lt
    have hE := hEb.kept hB
    refine nil_ok (?_)
    by_cases hj : jobB n es (kindL tg.data.toList) src steps = true
    · skip
      rw [hj] at hS
      refine wp_cond_true (hS.eval rfl) (reg_seq ?_)
      refine seq_is hS (by decide) (runs_assign rfl) (fun a1 hS => ?_)
      obtain ⟨Y, LL, ER, hst⟩ : ∃ Y LL ER, stepL n es (kindL tg.data.toList) src steps at_ x = (Y, LL, ER) := ⟨_, _, _, rfl⟩
      refine nil_ok (qx_seq (reg_v (KF (w11.heap.size) 28 (vc Y)) (fun w' => KF (w11.heap.size) 28 (vc Y) w11 w') [.inl (gv n (.slice A es.length c)), .inr (fun _ => fun v w' => ∃ y, v = gv n y ∧ w'.ownsRow w11.heap.size 46 3 y es.length (cellsE es)), .inl (.agg (jc tg src steps).toArray), .inl (.int .i64 at_), .inl (.agg (vc x).toArray), .inr (fun _ => fun v w' => ∃ sv, v = .tuple #[vv Y, sv, .int .i64 ER] ∧ w'.ownsRow w11.heap.size 48 3 sv (LL).length (cellsE (LL))), .inr (fun _ => fun v w' => ∃ sv, v = .tuple #[vv Y, sv, .int .i64 ER] ∧ w'.ownsRow w11.heap.size 48 3 sv (LL).length (cellsE (LL))), .inl (.agg (vc Y).toArray), .inr (fun _ => fun v w' => w'.ownsRow w11.heap.size 48 3 v (LL).length (cellsE (LL))), .inl (.int .i64 ER), .inr (fun _ => fun v w' => ∃ g, v = .pointer (some ⟨g, 0, none⟩) ∧ w11.heap.size ≤ g ∧ ∃ cs : List Value, cs.length = 5 ∧ Has w' g 28 cs), .inr (fun vs _ => fun w' => ∃ g, vs 10 = .pointer (some ⟨g, 0, none⟩) ∧ w11.heap.size ≤ g ∧ Has w' g 28 (vc Y)), .inr (fun _ => fun v w' => w'.ownsRow w11.heap.size 48 3 v (LL).length (cellsE (LL))), .inl (.int .i64 ER)] 14 0 ⟨trivial, fun _ _ _ => rfl, trivial, trivial, trivial, fun _ _ _ => rfl, fun _ _ _ => rfl, trivial, fun _ _ _ => rfl, trivial, fun _ _ _ => rfl, fun vs vs' h => by simp only [h 10 (by kernel_rfl)], fun _ _ _ => rfl, trivial, trivial⟩ mixed rfl (by kernel_rfl) hS (KF.refl _ _ _ _) (fun _ h => h.drew) ?_))
      refine fun vs => ?_
      refine vs_is rfl (fun w' hw => runs_loadRow rfl (hw.other _ _ _ (by decide) hM1) Try.underlying24 rfl (by rw [sz24]; rfl)) ?_
      refine vs_pr rfl (fun _ _ _ h hk => by obtain ⟨y, h1, h2⟩ := h; exact ⟨y, h1, hk.owns h2 (by decide)⟩) (fun w' hw hq => (runs_call (args := [gv n (.slice A es.length c)]) goes13 rfl (ownR_any n es (by omega) _ w' (hE.kept hw.below))).mono (by rintro v w5 ⟨hb, y, h1, h2⟩; exact ⟨⟨y, h1, owns_mono h2 hw.below.size⟩, hw.more (Nat.le_refl _) hb, KF.of hb hw.below.size⟩)) (fun vg evg => ?_)
      refine vs_is rfl (fun w' hw => runs_loadRow rfl (hw.other _ _ _ (by decide) hM3) Try.underlying26 rfl (by rw [sz26]; rfl)) ?_
      refine vs_is rfl (fun w' hw => runs_move rfl) ?_
      refine vs_is rfl (fun w' hw => runs_loadRow rfl (hM5.below hw.below (hM5.lt)) Try.underlying28 rfl (by rw [sz28]; rfl)) ?_
      refine vs_pr rfl (fun _ _ _ h hk => by obtain ⟨sv, h1, h2⟩ := h; exact ⟨sv, h1, hk.owns h2 (by decide)⟩) (fun w' hw hq => (by obtain ⟨y, rfl, hgy⟩ := hq (1, _) List.mem_cons_self (by kernel_rfl); exact (runs_call (args := [gv n y, .agg (jc tg src steps).toArray, .int .i64 at_, .agg (vc x).toArray]) goes12 rfl (step_is w' (edges_ownE hgy rfl) hst)).mono (by rintro v w5 ⟨hb, sv, h1, h2⟩; exact ⟨⟨sv, h1, owns_mono h2 hw.below.size⟩, hw.more (Nat.le_refl _) hb, KF.of hb hw.below.size⟩))) (fun vc1 evc1 => ?_)
      refine vs_pr rfl (fun _ _ _ h hk => by obtain ⟨sv, h1, h2⟩ := h; exact ⟨sv, h1, hk.owns h2 (by decide)⟩) (fun w' hw hq => (by obtain ⟨sv, rfl, h2⟩ := hq (5, _) List.mem_cons_self (by kernel_rfl); exact (runs_move rfl).mono (by rintro v w5 ⟨rfl, rfl⟩; exact ⟨⟨sv, rfl, h2⟩, hw, KF.refl _ _ _ _⟩))) (fun vc2 evc2 => ?_)
      refine vs_val rfl (fun w' hw hq => (by obtain ⟨sv, rfl, _⟩ := hq (6, _) List.mem_cons_self (by kernel_rfl); exact (runs_extract rfl rfl).mono (by rintro v w5 ⟨rfl, rfl⟩; exact ⟨rfl, hw, KF.refl _ _ _ _⟩))) ?_
      refine vs_pr rfl (fun _ _ _ h hk => hk.owns h (by decide)) (fun w' hw hq => (by obtain ⟨sv, rfl, h2⟩ := hq (6, _) List.mem_cons_self (by kernel_rfl); exact (runs_extract rfl rfl).mono (by rintro v w5 ⟨rfl, rfl⟩; exact ⟨h2, hw, KF.refl _ _ _ _⟩))) (fun sl esl => ?_)
      refine vs_val rfl (fun w' hw hq => (by obtain ⟨sv, rfl, _⟩ := hq (6, _) (List.mem_cons_of_mem _ List.mem_cons_self) (by kernel_rfl); exact (runs_extract rfl rfl).mono (by rintro v w5 ⟨rfl, rfl⟩; exact ⟨rfl, hw, KF.refl _ _ _ _⟩))) ?_
      refine vs_pr rfl (fun _ _ _ h hk => by obtain ⟨g, h1, h2, cs, h3, h4⟩ := h; obtain ⟨cs', h5, h6⟩ := hk.len _ _ h4; exact ⟨g, h1, h2, cs', h5.trans h3, h6⟩) (fun w' hw hq => (runs_allocB (cs := [.int .i64 0, .int .i64 0, .bool false, .bool false, .int .i64 0]) zo28 rfl).mono (by rintro v w5 ⟨rfl, h2, h3⟩; exact ⟨⟨_, rfl, hw.below.size, _, rfl, h2⟩, hw.more (Nat.le_refl _) h3, KF.of h3 hw.below.size⟩)) (fun va eva => ?_)
      refine vs_none rfl (fun w1 w2 h hk => by obtain ⟨g, h1, h2, h3⟩ := h; exact ⟨g, h1, h2, hk.fin _ h3⟩) (fun w' hw hq => (by obtain ⟨g, rfl, hBg, cs, hcs, hg⟩ := hq (10, _) List.mem_cons_self (by kernel_rfl); exact (runs_storeB (cs := vc Y) rfl rfl hg (hcs.trans rfl) rfl sz28).mono (by rintro v w2 ⟨h1, h2⟩; have hk := KF.store (F := vc Y) hg hBg (hcs.trans rfl) h1 h2; exact ⟨⟨g, eva, hBg, h1⟩, hw.trans hk, hk⟩))) (fun _ _ => ?_)
      refine vs_pr rfl (fun _ _ _ h hk => hk.owns h (by decide)) (fun w' hw hq => (by have h2 := hq (8, _) (List.mem_cons_of_mem _ (List.mem_cons_of_mem _ List.mem_cons_self)) (by kernel_rfl); exact (runs_assign rfl).mono (by rintro v w5 ⟨rfl, rfl⟩; exact ⟨h2, hw, KF.refl _ _ _ _⟩))) (fun sm esm => ?_)
      refine vs_is rfl (fun w' hw => runs_assign rfl) ?_
      refine (fun a13 w13 hS hK13 hq => ?_)
      obtain ⟨gs, hgs, hgBs, hYs⟩ := (hq (11, _) (List.mem_cons_of_mem _ List.mem_cons_self))
      rw [eva] at hgs
      subst hgs
      have hOwn := (hq (12, _) List.mem_cons_self)
      clear hq
      have hB := hB.trans (hK13.below.mono (hB.size))
      have hM1 := hK13.other _ _ _ (by decide) hM1
      have hM3 := hK13.other _ _ _ (by decide) hM3
      have hM5 := hM5.below hK13.below (hM5.lt)
      have hE := hEb.kept hB
      obtain ⟨A2, c2, hsm, hc21, hc22, _⟩ := edges_ownE hOwn rfl
      unfold maxLen at hc22
      subst hsm
      refine wpAnyH_done (by kernel_rfl) ?_ _
      refine qx_seq (reg_seq ?_)
      refine seq_is hS (by decide) (runs_loadRow rfl hM1 Try.underlying24 rfl (by rw [sz24]; rfl)) (fun a1 hS => ?_)
      refine seq_is hS (by decide) (runs_loadRow rfl hM3 Try.underlying26 rfl (by rw [sz26]; rfl)) (fun a1 hS => ?_)
      refine seq_is hS (by decide) (runs_move rfl) (fun a1 hS => ?_)
      refine seq_is hS (by decide) (runs_loadRow rfl hM5 Try.underlying28 rfl (by rw [sz28]; rfl)) (fun a1 hS => ?_)
      refine seq_op hS (by decide) (runs_call (args := [gv n (.slice A es.length c), .agg (jc tg src steps).toArray, .int .i64 at_, .agg (vc x).toArray]) goes14 rfl (rstep_is w13 hE hst)) (fun v15 w15 a1 hp hS => ?_)
      obtain ⟨hB15, svr, rfl, hown2⟩ := hp
      have hB := hB.trans (hB15.mono hB.size)
      have hM1 := hM1.below hB15 hM1.lt
      have hM3 := hM3.below hB15 hM3.lt
      have hM5 := hM5.below hB15 hM5.lt
      have hYs := hYs.below hB15 hYs.lt
      have hE := hEb.kept hB
      have hOwn := owns_kept hOwn hB15
      refine seq_is hS (by decide) (runs_move rfl) (fun a1 hS => ?_)
      refine seq_is hS (by decide) (runs_extract rfl rfl) (fun a1 hS => ?_)
      refine seq_is hS (by decide) (runs_extract rfl rfl) (fun a1 hS => ?_)
      refine seq_is hS (by decide) (runs_extract rfl rfl) (fun a1 hS => ?_)
      refine seq_op hS (by decide) (runs_allocB (cs := [.int .i64 0, .int .i64 0, .bool false, .bool false, .int .i64 0]) zo28 rfl) (fun v17 w17 a1 hp hS => ?_)
      obtain ⟨rfl, hM17, hB17⟩ := hp
      have hLhM17 : w.heap.size ≤ w15.heap.size := hB.size
      have hNhM5hM17 : w3.heap.size ≠ w15.heap.size := by have := hM5.lt; omega
      have hNhYshM17 : gs ≠ w15.heap.size := by have := hYs.lt; omega
      have hB := hB.trans (hB17.mono hB.size)
      have hM1 := hM1.below hB17 hM1.lt
      have hM3 := hM3.below hB17 hM3.lt
      have hM5 := hM5.below hB17 hM5.lt
      have hYs := hYs.below hB17 hYs.lt
      have hE := hEb.kept hB
      have hOwn := owns_kept hOwn hB17
      have hown2 := owns_kept hown2 hB17
      refine seq_none hS (runs_storeB (cs := vc Y) rfl rfl hM17 rfl rfl sz28) (fun v19 w19 a1 hp hS => ?_)
      have hQ19 := hM17
      obtain ⟨hM17, hU19⟩ := hp
      have hB := But.new hB hU19 (fun i e => by rw [e]; exact hLhM17) (Nat.le_refl _)
      have hM1 := hM1.but hU19 (has_ne hM1 hQ19 (by decide))
      have hM3 := hM3.but hU19 (has_ne hM3 hQ19 (by decide))
      have hM5 := hM5.but hU19 (hNhM5hM17)
      have hYs := hYs.but hU19 (hNhYshM17)
      have hE := hEb.kept hB
      have hOwn := owns_but hOwn hU19 (fun i old ho e => by subst e; exact has_ne ho hQ19 (by decide) rfl)
      have hown2 := owns_but hown2 hU19 (fun i old ho e => by subst e; exact has_ne ho hQ19 (by decide) rfl)
      refine seq_is hS (by decide) (runs_assign rfl) (fun a1 hS => ?_)
      refine seq_is hS (by decide) (runs_assign rfl) (fun a1 hS => ?_)
      refine nil_ok (qx_seq (reg_guard (fun w' => Below w19.heap.size w19 w') [.inl (gv n (.slice A es.length c)), .inr (fun v w' => ∃ y, v = gv n y ∧ w'.ownsRow w19.heap.size 46 3 y es.length (cellsE es)), .inl (.agg (jc tg src steps).toArray), .inl (.int .i64 0), .inl (.int .i64 0), .inl (.bool true), .inl (.bool true), .inl (.agg (vc Y).toArray), .inl (.agg (vc Y).toArray), .inl (.bool true), .inl (.bool true), .inl (.bool true), .inl (.slice A2 LL.length c2), .inl (svr), .inl (.bool true), .inl (.bool true), .inl (.bool true), .inl (.int .i64 ER), .inl (.int .i64 ER), .inl (.bool true), .inl (.bool true), .inl (.bool true)] 22 0 mixed rfl (by kernel_rfl) hS (Below.refl _ _) (fun _ h => h.drew) ?_))
      refine hs_is rfl (fun w' hw => runs_loadRow rfl (hM1.below hw hM1.lt) Try.underlying24 rfl (by rw [sz24]; rfl)) ?_
      refine hs_pr rfl (fun _ _ _ h hb => by obtain ⟨y, h1, h2⟩ := h; exact ⟨y, h1, owns_kept h2 hb⟩) (fun w' hw hq => (runs_call (args := [gv n (.slice A es.length c)]) goes13 rfl (ownR_any n es (by omega) _ w' (hE.kept hw))).mono (by rintro v w5 ⟨hb, y, h1, h2⟩; exact ⟨⟨y, h1, owns_mono h2 hw.size⟩, hw.trans (hb.mono hw.size), hb⟩)) (fun vg => ?_)
      refine hs_is rfl (fun w' hw => runs_loadRow rfl (hM3.below hw hM3.lt) Try.underlying26 rfl (by rw [sz26]; rfl)) ?_
      refine hs_val rfl (fun w' hw hq => (by obtain ⟨y, rfl, hgy⟩ := hq (1, _) List.mem_cons_self (by kernel_rfl); exact (runs_call (args := [gv n y, .agg (jc tg src steps).toArray]) goes15 rfl (pcheck_any n es y tg src steps w' (edges_ownE hgy rfl))).mono (by rintro u w5 ⟨rfl, hb⟩; exact ⟨by rw [if_pos hj], hw.trans (hb.mono hw.size), hb⟩))) ?_
      refine hs_is rfl (fun w' hw => runs_move rfl) ?_
      refine hs_is rfl (fun w' hw => runs_eql (r := true) rfl rfl rfl) ?_
      refine hs_is rfl (fun w' hw => runs_move rfl) ?_
      refine hs_yis rfl rfl (fun w' hw => runs_loadRow rfl (hYs.below hw hYs.lt) Try.underlying28 rfl (by rw [sz28]; rfl)) ?_
      refine hs_yis rfl rfl (fun w' hw => runs_loadRow rfl (hM17.below hw hM17.lt) Try.underlying28 rfl (by rw [sz28]; rfl)) ?_
      refine hs_yis rfl rfl (fun w' hw => runs_eqV (a := Y) (b := Y) (r := true) rfl rfl (by simp)) ?_
      refine hs_is rfl (fun w' hw => runs_pick rfl rfl) ?_
      refine hs_is rfl (fun w' hw => runs_move rfl) ?_
      refine hs_yis rfl rfl (fun w' hw => runs_move rfl) ?_
      refine hs_yis rfl rfl (fun w' hw => runs_move rfl) ?_
      refine hs_yval rfl rfl (fun w' hw hq => (runs_call (args := [.slice A2 LL.length c2, svr]) goes16 rfl (msame_any LL LL _ _ w' ((edges_ownE hOwn rfl).kept hw) ((edges_ownE hown2 rfl).kept hw))).mono (by rintro u w5 ⟨rfl, hb⟩; exact ⟨by simp, hw.trans (hb.mono hw.size), hb⟩)) ?_
      refine hs_is rfl (fun w' hw => runs_pick rfl rfl) ?_
      refine hs_is rfl (fun w' hw => runs_move rfl) ?_
      refine hs_yis rfl rfl (fun w' hw => runs_move rfl) ?_
      refine hs_yis rfl rfl (fun w' hw => runs_move rfl) ?_
      refine hs_yis rfl rfl (fun w' hw => runs_eql (r := true) rfl rfl (by simp)) ?_
      refine hs_is rfl (fun w' hw => runs_pick rfl rfl) ?_
      refine hs_is rfl (fun w' hw => runs_assign rfl) ?_
      refine (fun a21 w21 hS hB21 hq => ?_)

      clear hq
      have hB := hB.trans (hB21.mono hB.size)
      have hM1 := hM1.below hB21 hM1.lt
      have hM3 := hM3.below hB21 hM3.lt
      have hM5 := hM5.below hB21 hM5.lt
      have hYs := hYs.below hB21 hYs.lt
      have hE := hEb.kept hB
      have hOwn := owns_kept hOwn hB21
      have hown2 := owns_kept hown2 hB21
      refine wpAnyH_done (by kernel_rfl) ?_ _
      exact qx_ret (ret1 (t := 8) (by kernel_rfl) hS rfl ⟨_, rfl, rfl, hB⟩)
    · skip
      rw [Bool.eq_false_iff.2 hj] at hS
      obtain ⟨Y, LL, ER, hst⟩ : ∃ Y LL ER, stepL n es (kindL tg.data.toList) src steps at_ x = (Y, LL, ER) := ⟨_, _, _, rfl⟩
      refine wp_cond_false (hS.eval rfl) (wp_skip (qx_seq (reg_v (KF (w11.heap.size) 28 (vc Y)) (fun w' => KF (w11.heap.size) 28 (vc Y) w11 w') [.inl (gv n (.slice A es.length c)), .inr (fun _ => fun v w' => ∃ y, v = gv n y ∧ w'.ownsRow w11.heap.size 46 3 y es.length (cellsE es)), .inl (.agg (jc tg src steps).toArray), .inl (.int .i64 at_), .inl (.agg (vc x).toArray), .inr (fun _ => fun v w' => ∃ sv, v = .tuple #[vv Y, sv, .int .i64 ER] ∧ w'.ownsRow w11.heap.size 48 3 sv (LL).length (cellsE (LL))), .inr (fun _ => fun v w' => ∃ sv, v = .tuple #[vv Y, sv, .int .i64 ER] ∧ w'.ownsRow w11.heap.size 48 3 sv (LL).length (cellsE (LL))), .inl (.agg (vc Y).toArray), .inr (fun _ => fun v w' => w'.ownsRow w11.heap.size 48 3 v (LL).length (cellsE (LL))), .inl (.int .i64 ER), .inr (fun _ => fun v w' => ∃ g, v = .pointer (some ⟨g, 0, none⟩) ∧ w11.heap.size ≤ g ∧ ∃ cs : List Value, cs.length = 5 ∧ Has w' g 28 cs), .inr (fun vs _ => fun w' => ∃ g, vs 10 = .pointer (some ⟨g, 0, none⟩) ∧ w11.heap.size ≤ g ∧ Has w' g 28 (vc Y)), .inr (fun _ => fun v w' => w'.ownsRow w11.heap.size 48 3 v (LL).length (cellsE (LL))), .inl (.int .i64 ER)] 14 0 ⟨trivial, fun _ _ _ => rfl, trivial, trivial, trivial, fun _ _ _ => rfl, fun _ _ _ => rfl, trivial, fun _ _ _ => rfl, trivial, fun _ _ _ => rfl, fun vs vs' h => by simp only [h 10 (by kernel_rfl)], fun _ _ _ => rfl, trivial, trivial⟩ mixed rfl (by kernel_rfl) hS (KF.refl _ _ _ _) (fun _ h => h.drew) ?_)))
      refine fun vs => ?_
      refine vs_is rfl (fun w' hw => runs_loadRow rfl (hw.other _ _ _ (by decide) hM1) Try.underlying24 rfl (by rw [sz24]; rfl)) ?_
      refine vs_pr rfl (fun _ _ _ h hk => by obtain ⟨y, h1, h2⟩ := h; exact ⟨y, h1, hk.owns h2 (by decide)⟩) (fun w' hw hq => (runs_call (args := [gv n (.slice A es.length c)]) goes13 rfl (ownR_any n es (by omega) _ w' (hE.kept hw.below))).mono (by rintro v w5 ⟨hb, y, h1, h2⟩; exact ⟨⟨y, h1, owns_mono h2 hw.below.size⟩, hw.more (Nat.le_refl _) hb, KF.of hb hw.below.size⟩)) (fun vg evg => ?_)
      refine vs_is rfl (fun w' hw => runs_loadRow rfl (hw.other _ _ _ (by decide) hM3) Try.underlying26 rfl (by rw [sz26]; rfl)) ?_
      refine vs_is rfl (fun w' hw => runs_move rfl) ?_
      refine vs_is rfl (fun w' hw => runs_loadRow rfl (hM5.below hw.below (hM5.lt)) Try.underlying28 rfl (by rw [sz28]; rfl)) ?_
      refine vs_pr rfl (fun _ _ _ h hk => by obtain ⟨sv, h1, h2⟩ := h; exact ⟨sv, h1, hk.owns h2 (by decide)⟩) (fun w' hw hq => (by obtain ⟨y, rfl, hgy⟩ := hq (1, _) List.mem_cons_self (by kernel_rfl); exact (runs_call (args := [gv n y, .agg (jc tg src steps).toArray, .int .i64 at_, .agg (vc x).toArray]) goes12 rfl (step_is w' (edges_ownE hgy rfl) hst)).mono (by rintro v w5 ⟨hb, sv, h1, h2⟩; exact ⟨⟨sv, h1, owns_mono h2 hw.below.size⟩, hw.more (Nat.le_refl _) hb, KF.of hb hw.below.size⟩))) (fun vc1 evc1 => ?_)
      refine vs_pr rfl (fun _ _ _ h hk => by obtain ⟨sv, h1, h2⟩ := h; exact ⟨sv, h1, hk.owns h2 (by decide)⟩) (fun w' hw hq => (by obtain ⟨sv, rfl, h2⟩ := hq (5, _) List.mem_cons_self (by kernel_rfl); exact (runs_move rfl).mono (by rintro v w5 ⟨rfl, rfl⟩; exact ⟨⟨sv, rfl, h2⟩, hw, KF.refl _ _ _ _⟩))) (fun vc2 evc2 => ?_)
      refine vs_val rfl (fun w' hw hq => (by obtain ⟨sv, rfl, _⟩ := hq (6, _) List.mem_cons_self (by kernel_rfl); exact (runs_extract rfl rfl).mono (by rintro v w5 ⟨rfl, rfl⟩; exact ⟨rfl, hw, KF.refl _ _ _ _⟩))) ?_
      refine vs_pr rfl (fun _ _ _ h hk => hk.owns h (by decide)) (fun w' hw hq => (by obtain ⟨sv, rfl, h2⟩ := hq (6, _) List.mem_cons_self (by kernel_rfl); exact (runs_extract rfl rfl).mono (by rintro v w5 ⟨rfl, rfl⟩; exact ⟨h2, hw, KF.refl _ _ _ _⟩))) (fun sl esl => ?_)
      refine vs_val rfl (fun w' hw hq => (by obtain ⟨sv, rfl, _⟩ := hq (6, _) (List.mem_cons_of_mem _ List.mem_cons_self) (by kernel_rfl); exact (runs_extract rfl rfl).mono (by rintro v w5 ⟨rfl, rfl⟩; exact ⟨rfl, hw, KF.refl _ _ _ _⟩))) ?_
      refine vs_pr rfl (fun _ _ _ h hk => by obtain ⟨g, h1, h2, cs, h3, h4⟩ := h; obtain ⟨cs', h5, h6⟩ := hk.len _ _ h4; exact ⟨g, h1, h2, cs', h5.trans h3, h6⟩) (fun w' hw hq => (runs_allocB (cs := [.int .i64 0, .int .i64 0, .bool false, .bool false, .int .i64 0]) zo28 rfl).mono (by rintro v w5 ⟨rfl, h2, h3⟩; exact ⟨⟨_, rfl, hw.below.size, _, rfl, h2⟩, hw.more (Nat.le_refl _) h3, KF.of h3 hw.below.size⟩)) (fun va eva => ?_)
      refine vs_none rfl (fun w1 w2 h hk => by obtain ⟨g, h1, h2, h3⟩ := h; exact ⟨g, h1, h2, hk.fin _ h3⟩) (fun w' hw hq => (by obtain ⟨g, rfl, hBg, cs, hcs, hg⟩ := hq (10, _) List.mem_cons_self (by kernel_rfl); exact (runs_storeB (cs := vc Y) rfl rfl hg (hcs.trans rfl) rfl sz28).mono (by rintro v w2 ⟨h1, h2⟩; have hk := KF.store (F := vc Y) hg hBg (hcs.trans rfl) h1 h2; exact ⟨⟨g, eva, hBg, h1⟩, hw.trans hk, hk⟩))) (fun _ _ => ?_)
      refine vs_pr rfl (fun _ _ _ h hk => hk.owns h (by decide)) (fun w' hw hq => (by have h2 := hq (8, _) (List.mem_cons_of_mem _ (List.mem_cons_of_mem _ List.mem_cons_self)) (by kernel_rfl); exact (runs_assign rfl).mono (by rintro v w5 ⟨rfl, rfl⟩; exact ⟨h2, hw, KF.refl _ _ _ _⟩))) (fun sm esm => ?_)
      refine vs_is rfl (fun w' hw => runs_assign rfl) ?_
      refine (fun a23 w23 hS hK23 hq => ?_)
      obtain ⟨gs, hgs, hgBs, hYs⟩ := (hq (11, _) (List.mem_cons_of_mem _ List.mem_cons_self))
      rw [eva] at hgs
      subst hgs
      have hOwn := (hq (12, _) List.mem_cons_self)
      clear hq
      have hB := hB.trans (hK23.below.mono (hB.size))
      have hM1 := hK23.other _ _ _ (by decide) hM1
      have hM3 := hK23.other _ _ _ (by decide) hM3
      have hM5 := hM5.below hK23.below (hM5.lt)
      have hE := hEb.kept hB
      obtain ⟨A2, c2, hsm, hc21, hc22, _⟩ := edges_ownE hOwn rfl
      unfold maxLen at hc22
      subst hsm
      refine wpAnyH_done (by kernel_rfl) ?_ _
      refine qx_seq (reg_seq ?_)
      refine seq_is hS (by decide) (runs_loadRow rfl hM1 Try.underlying24 rfl (by rw [sz24]; rfl)) (fun a1 hS => ?_)
      refine seq_is hS (by decide) (runs_loadRow rfl hM3 Try.underlying26 rfl (by rw [sz26]; rfl)) (fun a1 hS => ?_)
      refine seq_is hS (by decide) (runs_move rfl) (fun a1 hS => ?_)
      refine seq_is hS (by decide) (runs_loadRow rfl hM5 Try.underlying28 rfl (by rw [sz28]; rfl)) (fun a1 hS => ?_)
      refine seq_op hS (by decide) (runs_call (args := [gv n (.slice A es.length c), .agg (jc tg src steps).toArray, .int .i64 at_, .agg (vc x).toArray]) goes14 rfl (rstep_is w23 hE hst)) (fun v25 w25 a1 hp hS => ?_)
      obtain ⟨hB25, svr, rfl, hown2⟩ := hp
      have hB := hB.trans (hB25.mono hB.size)
      have hM1 := hM1.below hB25 hM1.lt
      have hM3 := hM3.below hB25 hM3.lt
      have hYs := hYs.below hB25 hYs.lt
      have hE := hEb.kept hB
      have hOwn := owns_kept hOwn hB25
      refine seq_is hS (by decide) (runs_move rfl) (fun a1 hS => ?_)
      refine seq_is hS (by decide) (runs_extract rfl rfl) (fun a1 hS => ?_)
      refine seq_is hS (by decide) (runs_extract rfl rfl) (fun a1 hS => ?_)
      refine seq_is hS (by decide) (runs_extract rfl rfl) (fun a1 hS => ?_)
      refine seq_op hS (by decide) (runs_allocB (cs := [.int .i64 0, .int .i64 0, .bool false, .bool false, .int .i64 0]) zo28 rfl) (fun v27 w27 a1 hp hS => ?_)
      obtain ⟨rfl, hM27, hB27⟩ := hp
      have hLhM27 : w.heap.size ≤ w25.heap.size := hB.size
      have hNhYshM27 : gs ≠ w25.heap.size := by have := hYs.lt; omega
      have hB := hB.trans (hB27.mono hB.size)
      have hM1 := hM1.below hB27 hM1.lt
      have hM3 := hM3.below hB27 hM3.lt
      have hYs := hYs.below hB27 hYs.lt
      have hE := hEb.kept hB
      have hOwn := owns_kept hOwn hB27
      have hown2 := owns_kept hown2 hB27
      refine seq_none hS (runs_storeB (cs := vc Y) rfl rfl hM27 rfl rfl sz28) (fun v29 w29 a1 hp hS => ?_)
      have hQ29 := hM27
      obtain ⟨hM27, hU29⟩ := hp
      have hB := But.new hB hU29 (fun i e => by rw [e]; exact hLhM27) (Nat.le_refl _)
      have hM1 := hM1.but hU29 (has_ne hM1 hQ29 (by decide))
      have hM3 := hM3.but hU29 (has_ne hM3 hQ29 (by decide))
      have hYs := hYs.but hU29 (hNhYshM27)
      have hE := hEb.kept hB
      have hOwn := owns_but hOwn hU29 (fun i old ho e => by subst e; exact has_ne ho hQ29 (by decide) rfl)
      have hown2 := owns_but hown2 hU29 (fun i old ho e => by subst e; exact has_ne ho hQ29 (by decide) rfl)
      refine seq_is hS (by decide) (runs_assign rfl) (fun a1 hS => ?_)
      refine seq_is hS (by decide) (runs_assign rfl) (fun a1 hS => ?_)
      refine nil_ok (qx_seq (reg_guard (fun w' => Below w29.heap.size w29 w') [.inl (gv n (.slice A es.length c)), .inr (fun v w' => ∃ y, v = gv n y ∧ w'.ownsRow w29.heap.size 46 3 y es.length (cellsE es)), .inl (.agg (jc tg src steps).toArray), .inl (.int .i64 70), .inl (.int .i64 70), .inl (.bool true), .inl (.bool true), .inl (.agg (vc Y).toArray), .inl (.agg (vc Y).toArray), .inl (.bool true), .inl (.bool true), .inl (.bool true), .inl (.slice A2 LL.length c2), .inl (svr), .inl (.bool true), .inl (.bool true), .inl (.bool true), .inl (.int .i64 ER), .inl (.int .i64 ER), .inl (.bool true), .inl (.bool true), .inl (.bool true)] 22 0 mixed rfl (by kernel_rfl) hS (Below.refl _ _) (fun _ h => h.drew) ?_))
      refine hs_is rfl (fun w' hw => runs_loadRow rfl (hM1.below hw hM1.lt) Try.underlying24 rfl (by rw [sz24]; rfl)) ?_
      refine hs_pr rfl (fun _ _ _ h hb => by obtain ⟨y, h1, h2⟩ := h; exact ⟨y, h1, owns_kept h2 hb⟩) (fun w' hw hq => (runs_call (args := [gv n (.slice A es.length c)]) goes13 rfl (ownR_any n es (by omega) _ w' (hE.kept hw))).mono (by rintro v w5 ⟨hb, y, h1, h2⟩; exact ⟨⟨y, h1, owns_mono h2 hw.size⟩, hw.trans (hb.mono hw.size), hb⟩)) (fun vg => ?_)
      refine hs_is rfl (fun w' hw => runs_loadRow rfl (hM3.below hw hM3.lt) Try.underlying26 rfl (by rw [sz26]; rfl)) ?_
      refine hs_val rfl (fun w' hw hq => (by obtain ⟨y, rfl, hgy⟩ := hq (1, _) List.mem_cons_self (by kernel_rfl); exact (runs_call (args := [gv n y, .agg (jc tg src steps).toArray]) goes15 rfl (pcheck_any n es y tg src steps w' (edges_ownE hgy rfl))).mono (by rintro u w5 ⟨rfl, hb⟩; exact ⟨by rw [if_neg hj], hw.trans (hb.mono hw.size), hb⟩))) ?_
      refine hs_is rfl (fun w' hw => runs_move rfl) ?_
      refine hs_is rfl (fun w' hw => runs_eql (r := true) rfl rfl rfl) ?_
      refine hs_is rfl (fun w' hw => runs_move rfl) ?_
      refine hs_yis rfl rfl (fun w' hw => runs_loadRow rfl (hYs.below hw hYs.lt) Try.underlying28 rfl (by rw [sz28]; rfl)) ?_
      refine hs_yis rfl rfl (fun w' hw => runs_loadRow rfl (hM27.below hw hM27.lt) Try.underlying28 rfl (by rw [sz28]; rfl)) ?_
      refine hs_yis rfl rfl (fun w' hw => runs_eqV (a := Y) (b := Y) (r := true) rfl rfl (by simp)) ?_
      refine hs_is rfl (fun w' hw => runs_pick rfl rfl) ?_
      refine hs_is rfl (fun w' hw => runs_move rfl) ?_
      refine hs_yis rfl rfl (fun w' hw => runs_move rfl) ?_
      refine hs_yis rfl rfl (fun w' hw => runs_move rfl) ?_
      refine hs_yval rfl rfl (fun w' hw hq => (runs_call (args := [.slice A2 LL.length c2, svr]) goes16 rfl (msame_any LL LL _ _ w' ((edges_ownE hOwn rfl).kept hw) ((edges_ownE hown2 rfl).kept hw))).mono (by rintro u w5 ⟨rfl, hb⟩; exact ⟨by simp, hw.trans (hb.mono hw.size), hb⟩)) ?_
      refine hs_is rfl (fun w' hw => runs_pick rfl rfl) ?_
      refine hs_is rfl (fun w' hw => runs_move rfl) ?_
      refine hs_yis rfl rfl (fun w' hw => runs_move rfl) ?_
      refine hs_yis rfl rfl (fun w' hw => runs_move rfl) ?_
      refine hs_yis rfl rfl (fun w' hw => runs_eql (r := true) rfl rfl (by simp)) ?_
      refine hs_is rfl (fun w' hw => runs_pick rfl rfl) ?_
      refine hs_is rfl (fun w' hw => runs_assign rfl) ?_
      refine (fun a31 w31 hS hB31 hq => ?_)

      clear hq
      have hB := hB.trans (hB31.mono hB.size)
      have hown2 := owns_kept hown2 hB31
      refine wpAnyH_done (by kernel_rfl) ?_ _
      exact qx_ret (ret1 (t := 8) (by kernel_rfl) hS rfl ⟨_, rfl, rfl, hB⟩)
end Go.Proofs.Ytfceckdhoaabnaa
