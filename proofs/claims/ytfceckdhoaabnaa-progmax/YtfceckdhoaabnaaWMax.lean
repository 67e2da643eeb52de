/- modillionlaw07.ProgMax, walked. Conditions: none of our own. -/
import Derived.Test.YtfceckdhoaabnaaSAwake
import Derived.Test.YtfceckdhoaabnaaSFacts
namespace Go.Proofs.Ytfceckdhoaabnaa
open Go.RowKit
set_option maxRecDepth 100000

set_option maxHeartbeats 1000000 in
theorem max_any (n : Int) (es : List E) (v : Value) (tg : ByteArray) (src steps at_ : Int) (x : Vx) (w : World) (hE : Edges w v es) : Ans 7 [gv n v, jv tg src steps, .int .i64 at_, vv x] w (fun u w' => u = .bool true ∧ Below w.heap.size w w') := by
  obtain ⟨A, c, rfl, h1, h2, hA⟩ := hE
  have hE : Edges w (.slice A es.length c) es := ⟨A, c, rfl, h1, h2, hA⟩
  refine calls_qx (args := [gv n (.slice A es.length c), .agg (jc tg src steps).toArray, .int .i64 at_, .agg (vc x).toArray]) 62 Try.func7 rfl (by kernel_rfl) (by simp) (fun a hS => ?_)
  have hB := Below.refl w.heap.size w
  have hEb := hE
  refine qx_seq (reg_seq ?_)
  refine seq_op hS (by decide) (runs_boxB (cs := [.int .i64 n, .slice A es.length c]) rfl rfl) (fun v1 w1 a1 hp hS => ?_)
  obtain ⟨rfl, hM1, hB1⟩ := hp
  have hB := hB.trans (hB1.mono hB.size)
  have hE := hEb.kept hB
  refine seq_op hS (by decide) (runs_boxB (cs := jc tg src steps) rfl rfl) (fun v3 w3 a1 hp hS => ?_)
  obtain ⟨rfl, hM3, hB3⟩ := hp
  have hB := hB.trans (hB3.mono hB.size)
  have hM1 := hM1.below hB3 hM1.lt
  have hE := hEb.kept hB
  refine seq_op hS (by decide) (runs_boxB (cs := vc x) rfl rfl) (fun v5 w5 a1 hp hS => ?_)
  obtain ⟨rfl, hM5, hB5⟩ := hp
  have hB := hB.trans (hB5.mono hB.size)
  have hM1 := hM1.below hB5 hM1.lt
  have hM3 := hM3.below hB5 hM3.lt
  have hE := hEb.kept hB
  refine seq_is hS (by decide) (runs_assign rfl) (fun a1 hS => ?_)
  refine nil_ok (qx_seq (qx_seq (reg_seq ?_)))
  refine seq_op hS (by decide) (runs_call (args := []) goes10 rfl (awake_any w5)) (fun v7 w7 a1 hp hS => ?_)
  obtain ⟨rfl, hB7⟩ := hp
  have hB := hB.trans (hB7.mono hB.size)
  have hM1 := hM1.below hB7 hM1.lt
  have hM3 := hM3.below hB7 hM3.lt
  have hM5 := hM5.below hB7 hM5.lt
  have hE := hEb.kept hB
  refine seq_is hS (by decide) (runs_not (b := true) rfl) (fun a1 hS => ?_)
  refine seq_is hS (by decide) (runs_move rfl) (fun a1 hS => ?_)
  refine seq_yis hS (by decide) rfl (by decide) rfl (runs_fieldK fo24_1 rfl) (fun a1 hS => ?_)
  refine seq_yis hS (by decide) rfl (by decide) rfl (runs_load rfl pl22 (hM1.at rfl)) (fun a1 hS => ?_)
  refine seq_yis hS (by decide) rfl (by decide) rfl (runs_len rfl und22) (fun a1 hS => ?_)
  by_cases h100 : ((es.length : Nat) : Int) > 100
  · skip
    refine seq_yis hS (by decide) rfl (by decide) rfl (runs_gtr (r := true) rfl rfl (by rw [decide_eq_true_eq]; omega)) (fun a1 hS => ?_)
    refine seq_is hS (by decide) (runs_pick rfl rfl) (fun a1 hS => ?_)
    refine nil_ok (wp_cond_true (hS.eval rfl) (qx_seq (reg_seq ?_)))
    refine seq_op hS (by decide) (runs_call (args := []) goes10 rfl (awake_any w7)) (fun v9 w9 a1 hp hS => ?_)
    obtain ⟨rfl, hB9⟩ := hp
    have hB := hB.trans (hB9.mono hB.size)
    have hM1 := hM1.below hB9 hM1.lt
    have hM3 := hM3.below hB9 hM3.lt
    have hM5 := hM5.below hB9 hM5.lt
    have hE := hEb.kept hB
    refine seq_is hS (by decide) (runs_assign rfl) (fun a1 hS => ?_)
    exact nil_ok (qx_ret (ret1 (t := 8) (by kernel_rfl) hS rfl ⟨_, rfl, rfl, hB⟩))
  · skip
    refine seq_yis hS (by decide) rfl (by decide) rfl (runs_gtr (r := false) rfl rfl (by rw [decide_eq_false_iff_not]; omega)) (fun a1 hS => ?_)
    refine seq_is hS (by decide) (runs_pick rfl rfl) (fun a1 hS => ?_)
    obtain ⟨Y, LL, ER, hst⟩ : ∃ Y LL ER, stepL n es (kindL tg.data.toList) src steps at_ x = (Y, LL, ER) := ⟨_, _, _, rfl⟩
    refine nil_ok (wp_cond_false (hS.eval rfl) (wp_skip (qx_seq (reg_v (KF (w7.heap.size) 28 (vc Y)) (fun w' => KF (w7.heap.size) 28 (vc Y) w7 w') [.inl (gv n (.slice A es.length c)), .inr (fun _ => fun v w' => ∃ y, v = gv n y ∧ w'.ownsRow w7.heap.size 46 3 y es.length (cellsE es)), .inl (.agg (jc tg src steps).toArray), .inl (.int .i64 at_), .inl (.agg (vc x).toArray), .inr (fun _ => fun v w' => ∃ sv, v = .tuple #[vv Y, sv, .int .i64 ER] ∧ w'.ownsRow w7.heap.size 48 3 sv (LL).length (cellsE (LL))), .inr (fun _ => fun v w' => ∃ sv, v = .tuple #[vv Y, sv, .int .i64 ER] ∧ w'.ownsRow w7.heap.size 48 3 sv (LL).length (cellsE (LL))), .inl (.agg (vc Y).toArray), .inr (fun _ => fun v w' => w'.ownsRow w7.heap.size 48 3 v (LL).length (cellsE (LL))), .inl (.int .i64 ER), .inr (fun _ => fun v w' => ∃ g, v = .pointer (some ⟨g, 0, none⟩) ∧ w7.heap.size ≤ g ∧ ∃ cs : List Value, cs.length = 5 ∧ Has w' g 28 cs), .inr (fun vs _ => fun w' => ∃ g, vs 10 = .pointer (some ⟨g, 0, none⟩) ∧ w7.heap.size ≤ g ∧ Has w' g 28 (vc Y)), .inr (fun _ => fun v w' => w'.ownsRow w7.heap.size 48 3 v (LL).length (cellsE (LL))), .inl (.int .i64 ER)] 14 0 ⟨trivial, fun _ _ _ => rfl, trivial, trivial, trivial, fun _ _ _ => rfl, fun _ _ _ => rfl, trivial, fun _ _ _ => rfl, trivial, fun _ _ _ => rfl, fun vs vs' h => by simp only [h 10 (by kernel_rfl)], fun _ _ _ => rfl, trivial, trivial⟩ mixed rfl (by kernel_rfl) hS (KF.refl _ _ _ _) (fun _ h => h.drew) ?_))))
    refine fun vs => ?_
    refine vs_is rfl (fun w' hw => runs_loadRow rfl (hw.other _ _ _ (by decide) hM1) Try.underlying24 rfl (by rw [sz24]; rfl)) ?_
    refine vs_pr rfl (fun _ _ _ h hk => by obtain ⟨y, h1, h2⟩ := h; exact ⟨y, h1, hk.owns h2 (by decide)⟩) (fun w' hw hq => (runs_call (args := [gv n (.slice A es.length c)]) goes13 rfl (ownR_any n es (by omega) _ w' (hE.kept hw.below))).mono (by rintro v w5 ⟨hb, y, h1, h2⟩; exact ⟨⟨y, h1, owns_mono h2 hw.below.size⟩, hw.more (Nat.le_refl _) hb, KF.of hb hw.below.size⟩)) (fun vg evg => ?_)
    refine vs_is rfl (fun w' hw => runs_loadRow rfl (hw.other _ _ _ (by decide) hM3) Try.underlying26 rfl (by rw [sz26]; rfl)) ?_
    refine vs_is rfl (fun w' hw => runs_move rfl) ?_
    refine vs_is rfl (fun w' hw => runs_loadRow rfl (hM5.below hw.below (hM5.lt)) Try.underlying28 rfl (by rw [sz28]; rfl)) ?_
    refine vs_pr rfl (fun _ _ _ h hk => by obtain ⟨sv, h1, h2⟩ := h; exact ⟨sv, h1, hk.owns h2 (by decide)⟩) (fun w' hw hq => (by obtain ⟨y, rfl, hgy⟩ := hq (1, _) List.mem_cons_self (by kernel_rfl); exact (runs_call (args := [gv n y, .agg (jc tg src steps).toArray, .int .i64 at_, .agg (vc x).toArray]) goes12 rfl (step_is w' (edges_ownE hgy rfl) hst)).mono (by rintro v w5 ⟨hb, sv, h1, h2⟩; exact ⟨⟨sv, h1, owns_mono h2 hw.below.size⟩, hw.more (Nat.le_refl _) hb, KF.of hb hw.below.size⟩))) (fun vc1 evc1 => ?_)
    refine vs_pr rfl (fun _ _ _ h hk => by obtain ⟨sv, h1, h2⟩ := h; exact ⟨sv, h1, hk.owns h2 (by decide)⟩) (fun w' hw hq => (by obtain ⟨sv, rfl, h2⟩ := hq (5, _) List.mem_cons_self (by kernel_rfl); exact (runs_move rfl).mono (by rintro v w5 ⟨rfl, rfl⟩; exact ⟨⟨sv, rfl, h2⟩, hw, KF.refl _ _ _ _⟩))) (fun vc2 evc2 => ?_)
    refine vs_val rfl (fun w' hw hq => (by obtain ⟨sv, rfl, _⟩ := hq (6, _) List.mem_cons_self (by kernel_rfl); exact (runs_extract rfl rfl).mono (by rintro v w5 ⟨rfl, rfl⟩; exact ⟨rfl, hw, KF.refl _ _ _ _⟩))) ?_
    refine vs_pr rfl (fun _ _ _ h hk => hk.owns h (by decide)) (fun w' hw hq => (by obtain ⟨sv, rfl, h2⟩ := hq (6, _) List.mem_cons_self (by kernel_rfl); exact (runs_extract rfl rfl).mono (by rintro v w5 ⟨rfl, rfl⟩; exact ⟨h2, hw, KF.refl _ _ _ _⟩))) (fun sl esl => ?_)
    refine vs_val rfl (fun w' hw hq => (by obtain ⟨sv, rfl, _⟩ := hq (6, _) (List.mem_cons_of_mem _ List.mem_cons_self) (by kernel_rfl); exact (runs_extract rfl rfl).mono (by rintro v w5 ⟨rfl, rfl⟩; exact ⟨rfl, hw, KF.refl _ _ _ _⟩))) ?_
    refine vs_pr rfl (fun _ _ _ h hk => by obtain ⟨g, h1, h2, cs, h3, h4⟩ := h; obtain ⟨cs', h5, h6⟩ := hk.len _ _ h4; exact ⟨g, h1, h2, cs', h5.trans h3, h6⟩) (fun w' hw hq => (runs_allocB (cs := [.int .i64 0, .int .i64 0, .bool false, .bool false, .int .i64 0]) zo28 rfl).mono (by rintro v w5 ⟨rfl, h2, h3⟩; exact ⟨⟨_, rfl, hw.below.size, _, rfl, h2⟩, hw.more (Nat.le_refl _) h3, KF.of h3 hw.below.size⟩)) (fun va eva => ?_)
    refine vs_none rfl (fun w1 w2 h hk => by obtain ⟨g, h1, h2, h3⟩ := h; exact ⟨g, h1, h2, hk.fin _ h3⟩) (fun w' hw hq => (by obtain ⟨g, rfl, hBg, cs, hcs, hg⟩ := hq (10, _) List.mem_cons_self (by kernel_rfl); exact (runs_storeB (cs := vc Y) rfl rfl hg (hcs.trans rfl) rfl sz28).mono (by rintro v w2 ⟨h1, h2⟩; have hk := KF.store (F := vc Y) hg hBg (hcs.trans rfl) h1 h2; exact ⟨⟨g, eva, hBg, h1⟩, hw.trans hk, hk⟩))) (fun _ _ => ?_)
    refine vs_pr rfl (fun _ _ _ h hk => hk.owns h (by decide)) (fun w' hw hq => (by have h2 := hq (8, _) (List.mem_cons_of_mem _ (List.mem_cons_of_mem _ List.mem_cons_self)) (by kernel_rfl); exact (runs_assign rfl).mono (by rintro v w5 ⟨rfl, rfl⟩; exact ⟨h2, hw, KF.refl _ _ _ _⟩))) (fun sm esm => ?_)
    refine vs_is rfl (fun w' hw => runs_assign rfl) ?_
    refine (fun a11 w11 hS hK11 hq => ?_)
    obtain ⟨gs, hgs, hgBs, hYs⟩ := (hq (11, _) (List.mem_cons_of_mem _ List.mem_cons_self))
    rw [eva] at hgs
    subst hgs
    have hOwn := (hq (12, _) List.mem_cons_self)
    clear hq
    have hB := hB.trans (hK11.below.mono (hB.size))
    have hM3 := hK11.other _ _ _ (by decide) hM3
    have hM5 := hM5.below hK11.below (hM5.lt)
    obtain ⟨A2, c2, hsm, hc21, hc22, _⟩ := edges_ownE hOwn rfl
    unfold maxLen at hc22
    subst hsm
    refine wpAnyH_done (by kernel_rfl) ?_ _
    refine qx_seq (qx_seq (reg_seq ?_))
    refine seq_is hS (by decide) (runs_move rfl) (fun a1 hS => ?_)
    by_cases he : ER ≠ 0
    · skip
      refine seq_is hS (by decide) (runs_neq (r := true) rfl rfl (by simpa using he)) (fun a1 hS => ?_)
      refine nil_ok (wp_cond_true (hS.eval rfl) (qx_seq (reg_seq ?_)))
      refine seq_is hS (by decide) (runs_assign rfl) (fun a1 hS => ?_)
      exact nil_ok (qx_ret (ret1 (t := 8) (by kernel_rfl) hS rfl ⟨_, rfl, rfl, hB⟩))
    · skip
      refine seq_is hS (by decide) (runs_neq (r := false) rfl rfl (by simpa using he)) (fun a1 hS => ?_)
      refine nil_ok (wp_cond_false (hS.eval rfl) (wp_skip (qx_seq (qx_seq (?_)))))
      rcases kind_cases tg.data.toList with hk | hk | hk | hk | hk | hk | hk | hk
      · skip
        refine reg_seq ?_
        refine seq_is hS (by decide) (runs_fieldK fo26_0 rfl) (fun a1 hS => ?_)
        refine seq_is hS (by decide) (runs_load rfl pl9 (hM3.at rfl)) (fun a1 hS => ?_)
        refine nil_ok (qx_block (qx_seq (reg_seq ?_)))
        refine seq_is hS (by decide) (runs_eqStr (r := false) rfl rfl ((is1 _).trans (by rw [hk]; rfl))) (fun a1 hS => ?_)
        refine seq_is hS (by decide) (runs_assign rfl) (fun a1 hS => ?_)
        refine nil_ok (wp_cond_false (hS.eval rfl) (qx_seq (reg_seq ?_)))
        refine seq_is hS (by decide) (runs_eqStr (r := false) rfl rfl ((is2 _).trans (by rw [hk]; rfl))) (fun a1 hS => ?_)
        refine seq_is hS (by decide) (runs_assign rfl) (fun a1 hS => ?_)
        refine nil_ok (wp_cond_false (hS.eval rfl) (qx_seq (qx_seq (reg_seq ?_))))
        refine seq_is hS (by decide) (runs_eqStr (r := false) rfl rfl ((is3 _).trans (by rw [hk]; rfl))) (fun a1 hS => ?_)
        refine seq_is hS (by decide) (runs_assign rfl) (fun a1 hS => ?_)
        refine nil_ok (wp_cond_false (hS.eval rfl) (reg_seq ?_))
        refine seq_is hS (by decide) (runs_eqStr (r := false) rfl rfl ((is4 _).trans (by rw [hk]; rfl))) (fun a1 hS => ?_)
        refine seq_is hS (by decide) (runs_assign rfl) (fun a1 hS => ?_)
        refine nil_ok (wp_cond_false (hS.eval rfl) (wp_skip (qx_seq (reg_seq ?_))))
        refine seq_is hS (by decide) (runs_assign rfl) (fun a1 hS => ?_)
        exact nil_ok (qx_ret (ret1 (t := 8) (by kernel_rfl) hS rfl ⟨_, rfl, rfl, hB⟩))
      · skip
        refine reg_seq ?_
        refine seq_is hS (by decide) (runs_fieldK fo26_0 rfl) (fun a1 hS => ?_)
        refine seq_is hS (by decide) (runs_load rfl pl9 (hM3.at rfl)) (fun a1 hS => ?_)
        refine nil_ok (qx_block (qx_seq (reg_seq ?_)))
        refine seq_is hS (by decide) (runs_eqStr (r := true) rfl rfl ((is1 _).trans (by rw [hk]; rfl))) (fun a1 hS => ?_)
        refine seq_is hS (by decide) (runs_assign rfl) (fun a1 hS => ?_)
        refine nil_ok (wp_cond_true (hS.eval rfl) (qx_seq (reg_seq ?_)))
        refine seq_is hS (by decide) (runs_fieldK fo28_1 rfl) (fun a1 hS => ?_)
        refine seq_is hS (by decide) (runs_load rfl pl2 (hYs.at rfl)) (fun a1 hS => ?_)
        refine seq_is hS (by decide) (runs_fieldK fo28_1 rfl) (fun a1 hS => ?_)
        refine seq_is hS (by decide) (runs_load rfl pl2 (hM5.at rfl)) (fun a1 hS => ?_)
        refine seq_is hS (by decide) (runs_geq (r := true) rfl rfl (by rw [decide_eq_true_eq]; exact step_max (hk ▸ hst) (Classical.not_not.1 he))) (fun a1 hS => ?_)
        refine seq_is hS (by decide) (runs_assign rfl) (fun a1 hS => ?_)
        exact nil_ok (qx_ret (ret1 (t := 8) (by kernel_rfl) hS rfl ⟨_, rfl, rfl, hB⟩))
      · skip
        refine reg_seq ?_
        refine seq_is hS (by decide) (runs_fieldK fo26_0 rfl) (fun a1 hS => ?_)
        refine seq_is hS (by decide) (runs_load rfl pl9 (hM3.at rfl)) (fun a1 hS => ?_)
        refine nil_ok (qx_block (qx_seq (reg_seq ?_)))
        refine seq_is hS (by decide) (runs_eqStr (r := false) rfl rfl ((is1 _).trans (by rw [hk]; rfl))) (fun a1 hS => ?_)
        refine seq_is hS (by decide) (runs_assign rfl) (fun a1 hS => ?_)
        refine nil_ok (wp_cond_false (hS.eval rfl) (qx_seq (reg_seq ?_)))
        refine seq_is hS (by decide) (runs_eqStr (r := true) rfl rfl ((is2 _).trans (by rw [hk]; rfl))) (fun a1 hS => ?_)
        refine seq_is hS (by decide) (runs_assign rfl) (fun a1 hS => ?_)
        refine nil_ok (wp_cond_true (hS.eval rfl) (qx_seq (reg_seq ?_)))
        refine seq_is hS (by decide) (runs_fieldK fo28_1 rfl) (fun a1 hS => ?_)
        refine seq_is hS (by decide) (runs_load rfl pl2 (hYs.at rfl)) (fun a1 hS => ?_)
        refine seq_is hS (by decide) (runs_fieldK fo28_1 rfl) (fun a1 hS => ?_)
        refine seq_is hS (by decide) (runs_load rfl pl2 (hM5.at rfl)) (fun a1 hS => ?_)
        refine seq_is hS (by decide) (runs_leq (r := true) rfl rfl (by rw [decide_eq_true_eq]; exact step_label (hk ▸ hst) (Classical.not_not.1 he))) (fun a1 hS => ?_)
        refine seq_is hS (by decide) (runs_assign rfl) (fun a1 hS => ?_)
        exact nil_ok (qx_ret (ret1 (t := 8) (by kernel_rfl) hS rfl ⟨_, rfl, rfl, hB⟩))
      · skip
        refine reg_seq ?_
        refine seq_is hS (by decide) (runs_fieldK fo26_0 rfl) (fun a1 hS => ?_)
        refine seq_is hS (by decide) (runs_load rfl pl9 (hM3.at rfl)) (fun a1 hS => ?_)
        refine nil_ok (qx_block (qx_seq (reg_seq ?_)))
        refine seq_is hS (by decide) (runs_eqStr (r := false) rfl rfl ((is1 _).trans (by rw [hk]; rfl))) (fun a1 hS => ?_)
        refine seq_is hS (by decide) (runs_assign rfl) (fun a1 hS => ?_)
        refine nil_ok (wp_cond_false (hS.eval rfl) (qx_seq (reg_seq ?_)))
        refine seq_is hS (by decide) (runs_eqStr (r := false) rfl rfl ((is2 _).trans (by rw [hk]; rfl))) (fun a1 hS => ?_)
        refine seq_is hS (by decide) (runs_assign rfl) (fun a1 hS => ?_)
        refine nil_ok (wp_cond_false (hS.eval rfl) (qx_seq (qx_seq (reg_seq ?_))))
        refine seq_is hS (by decide) (runs_eqStr (r := true) rfl rfl ((is3 _).trans (by rw [hk]; rfl))) (fun a1 hS => ?_)
        refine seq_is hS (by decide) (runs_assign rfl) (fun a1 hS => ?_)
        refine nil_ok (wp_cond_true (hS.eval rfl) (wp_skip (wp_cond_true (hS.eval rfl) (qx_seq (reg_seq ?_)))))
        refine seq_is hS (by decide) (runs_fieldK fo28_1 rfl) (fun a1 hS => ?_)
        refine seq_is hS (by decide) (runs_load rfl pl2 (hYs.at rfl)) (fun a1 hS => ?_)
        refine seq_is hS (by decide) (runs_fieldK fo28_1 rfl) (fun a1 hS => ?_)
        refine seq_is hS (by decide) (runs_load rfl pl2 (hM5.at rfl)) (fun a1 hS => ?_)
        by_cases hle : Y.val ≤ x.val
        · skip
          refine seq_is hS (by decide) (runs_leq (r := true) rfl rfl (by rw [decide_eq_true_eq]; omega)) (fun a1 hS => ?_)
          refine seq_is hS (by decide) (runs_move rfl) (fun a1 hS => ?_)
          refine seq_no hS (by decide) rfl (by decide) rfl rfl (fun a1 hS => ?_)
          refine seq_no hS (by decide) rfl (by decide) rfl rfl (fun a1 hS => ?_)
          refine seq_no hS (by decide) rfl (by decide) rfl rfl (fun a1 hS => ?_)
          refine seq_is hS (by decide) (runs_pick rfl rfl) (fun a1 hS => ?_)
          refine seq_is hS (by decide) (runs_assign rfl) (fun a1 hS => ?_)
          exact nil_ok (qx_ret (ret1 (t := 8) (by kernel_rfl) hS rfl ⟨_, rfl, rfl, hB⟩))
        · skip
          refine seq_is hS (by decide) (runs_leq (r := false) rfl rfl (by rw [decide_eq_false_iff_not]; omega)) (fun a1 hS => ?_)
          refine seq_is hS (by decide) (runs_move rfl) (fun a1 hS => ?_)
          refine seq_yis hS (by decide) rfl (by decide) rfl (runs_fieldK fo28_1 rfl) (fun a1 hS => ?_)
          refine seq_yis hS (by decide) rfl (by decide) rfl (runs_load rfl pl2 (hM5.at rfl)) (fun a1 hS => ?_)
          refine seq_yis hS (by decide) rfl (by decide) rfl (runs_lss (r := true) rfl rfl (by rw [decide_eq_true_eq]; exact (step_near (by omega) hst (Classical.not_not.1 he)).resolve_left hle)) (fun a1 hS => ?_)
          refine seq_is hS (by decide) (runs_pick rfl rfl) (fun a1 hS => ?_)
          refine seq_is hS (by decide) (runs_assign rfl) (fun a1 hS => ?_)
          exact nil_ok (qx_ret (ret1 (t := 8) (by kernel_rfl) hS rfl ⟨_, rfl, rfl, hB⟩))
      · skip
        refine reg_seq ?_
        refine seq_is hS (by decide) (runs_fieldK fo26_0 rfl) (fun a1 hS => ?_)
        refine seq_is hS (by decide) (runs_load rfl pl9 (hM3.at rfl)) (fun a1 hS => ?_)
        refine nil_ok (qx_block (qx_seq (reg_seq ?_)))
        refine seq_is hS (by decide) (runs_eqStr (r := false) rfl rfl ((is1 _).trans (by rw [hk]; rfl))) (fun a1 hS => ?_)
        refine seq_is hS (by decide) (runs_assign rfl) (fun a1 hS => ?_)
        refine nil_ok (wp_cond_false (hS.eval rfl) (qx_seq (reg_seq ?_)))
        refine seq_is hS (by decide) (runs_eqStr (r := false) rfl rfl ((is2 _).trans (by rw [hk]; rfl))) (fun a1 hS => ?_)
        refine seq_is hS (by decide) (runs_assign rfl) (fun a1 hS => ?_)
        refine nil_ok (wp_cond_false (hS.eval rfl) (qx_seq (qx_seq (reg_seq ?_))))
        refine seq_is hS (by decide) (runs_eqStr (r := false) rfl rfl ((is3 _).trans (by rw [hk]; rfl))) (fun a1 hS => ?_)
        refine seq_is hS (by decide) (runs_assign rfl) (fun a1 hS => ?_)
        refine nil_ok (wp_cond_false (hS.eval rfl) (reg_seq ?_))
        refine seq_is hS (by decide) (runs_eqStr (r := true) rfl rfl ((is4 _).trans (by rw [hk]; rfl))) (fun a1 hS => ?_)
        refine seq_is hS (by decide) (runs_assign rfl) (fun a1 hS => ?_)
        refine nil_ok (wp_cond_true (hS.eval rfl) (qx_seq (reg_seq ?_)))
        refine seq_is hS (by decide) (runs_fieldK fo28_1 rfl) (fun a1 hS => ?_)
        refine seq_is hS (by decide) (runs_load rfl pl2 (hYs.at rfl)) (fun a1 hS => ?_)
        refine seq_is hS (by decide) (runs_fieldK fo28_1 rfl) (fun a1 hS => ?_)
        refine seq_is hS (by decide) (runs_load rfl pl2 (hM5.at rfl)) (fun a1 hS => ?_)
        by_cases hle : Y.val ≤ x.val
        · skip
          refine seq_is hS (by decide) (runs_leq (r := true) rfl rfl (by rw [decide_eq_true_eq]; omega)) (fun a1 hS => ?_)
          refine seq_is hS (by decide) (runs_move rfl) (fun a1 hS => ?_)
          refine seq_no hS (by decide) rfl (by decide) rfl rfl (fun a1 hS => ?_)
          refine seq_no hS (by decide) rfl (by decide) rfl rfl (fun a1 hS => ?_)
          refine seq_no hS (by decide) rfl (by decide) rfl rfl (fun a1 hS => ?_)
          refine seq_is hS (by decide) (runs_pick rfl rfl) (fun a1 hS => ?_)
          refine seq_is hS (by decide) (runs_assign rfl) (fun a1 hS => ?_)
          exact nil_ok (qx_ret (ret1 (t := 8) (by kernel_rfl) hS rfl ⟨_, rfl, rfl, hB⟩))
        · skip
          refine seq_is hS (by decide) (runs_leq (r := false) rfl rfl (by rw [decide_eq_false_iff_not]; omega)) (fun a1 hS => ?_)
          refine seq_is hS (by decide) (runs_move rfl) (fun a1 hS => ?_)
          refine seq_yis hS (by decide) rfl (by decide) rfl (runs_fieldK fo28_1 rfl) (fun a1 hS => ?_)
          refine seq_yis hS (by decide) rfl (by decide) rfl (runs_load rfl pl2 (hM5.at rfl)) (fun a1 hS => ?_)
          refine seq_yis hS (by decide) rfl (by decide) rfl (runs_lss (r := true) rfl rfl (by rw [decide_eq_true_eq]; exact (step_near (by omega) hst (Classical.not_not.1 he)).resolve_left hle)) (fun a1 hS => ?_)
          refine seq_is hS (by decide) (runs_pick rfl rfl) (fun a1 hS => ?_)
          refine seq_is hS (by decide) (runs_assign rfl) (fun a1 hS => ?_)
          exact nil_ok (qx_ret (ret1 (t := 8) (by kernel_rfl) hS rfl ⟨_, rfl, rfl, hB⟩))
      · skip
        refine reg_seq ?_
        refine seq_is hS (by decide) (runs_fieldK fo26_0 rfl) (fun a1 hS => ?_)
        refine seq_is hS (by decide) (runs_load rfl pl9 (hM3.at rfl)) (fun a1 hS => ?_)
        refine nil_ok (qx_block (qx_seq (reg_seq ?_)))
        refine seq_is hS (by decide) (runs_eqStr (r := false) rfl rfl ((is1 _).trans (by rw [hk]; rfl))) (fun a1 hS => ?_)
        refine seq_is hS (by decide) (runs_assign rfl) (fun a1 hS => ?_)
        refine nil_ok (wp_cond_false (hS.eval rfl) (qx_seq (reg_seq ?_)))
        refine seq_is hS (by decide) (runs_eqStr (r := false) rfl rfl ((is2 _).trans (by rw [hk]; rfl))) (fun a1 hS => ?_)
        refine seq_is hS (by decide) (runs_assign rfl) (fun a1 hS => ?_)
        refine nil_ok (wp_cond_false (hS.eval rfl) (qx_seq (qx_seq (reg_seq ?_))))
        refine seq_is hS (by decide) (runs_eqStr (r := false) rfl rfl ((is3 _).trans (by rw [hk]; rfl))) (fun a1 hS => ?_)
        refine seq_is hS (by decide) (runs_assign rfl) (fun a1 hS => ?_)
        refine nil_ok (wp_cond_false (hS.eval rfl) (reg_seq ?_))
        refine seq_is hS (by decide) (runs_eqStr (r := false) rfl rfl ((is4 _).trans (by rw [hk]; rfl))) (fun a1 hS => ?_)
        refine seq_is hS (by decide) (runs_assign rfl) (fun a1 hS => ?_)
        refine nil_ok (wp_cond_false (hS.eval rfl) (wp_skip (qx_seq (reg_seq ?_))))
        refine seq_is hS (by decide) (runs_assign rfl) (fun a1 hS => ?_)
        exact nil_ok (qx_ret (ret1 (t := 8) (by kernel_rfl) hS rfl ⟨_, rfl, rfl, hB⟩))
      · skip
        refine reg_seq ?_
        refine seq_is hS (by decide) (runs_fieldK fo26_0 rfl) (fun a1 hS => ?_)
        refine seq_is hS (by decide) (runs_load rfl pl9 (hM3.at rfl)) (fun a1 hS => ?_)
        refine nil_ok (qx_block (qx_seq (reg_seq ?_)))
        refine seq_is hS (by decide) (runs_eqStr (r := false) rfl rfl ((is1 _).trans (by rw [hk]; rfl))) (fun a1 hS => ?_)
        refine seq_is hS (by decide) (runs_assign rfl) (fun a1 hS => ?_)
        refine nil_ok (wp_cond_false (hS.eval rfl) (qx_seq (reg_seq ?_)))
        refine seq_is hS (by decide) (runs_eqStr (r := false) rfl rfl ((is2 _).trans (by rw [hk]; rfl))) (fun a1 hS => ?_)
        refine seq_is hS (by decide) (runs_assign rfl) (fun a1 hS => ?_)
        refine nil_ok (wp_cond_false (hS.eval rfl) (qx_seq (qx_seq (reg_seq ?_))))
        refine seq_is hS (by decide) (runs_eqStr (r := false) rfl rfl ((is3 _).trans (by rw [hk]; rfl))) (fun a1 hS => ?_)
        refine seq_is hS (by decide) (runs_assign rfl) (fun a1 hS => ?_)
        refine nil_ok (wp_cond_false (hS.eval rfl) (reg_seq ?_))
        refine seq_is hS (by decide) (runs_eqStr (r := false) rfl rfl ((is4 _).trans (by rw [hk]; rfl))) (fun a1 hS => ?_)
        refine seq_is hS (by decide) (runs_assign rfl) (fun a1 hS => ?_)
        refine nil_ok (wp_cond_false (hS.eval rfl) (wp_skip (qx_seq (reg_seq ?_))))
        refine seq_is hS (by decide) (runs_assign rfl) (fun a1 hS => ?_)
        exact nil_ok (qx_ret (ret1 (t := 8) (by kernel_rfl) hS rfl ⟨_, rfl, rfl, hB⟩))
      · skip
        refine reg_seq ?_
        refine seq_is hS (by decide) (runs_fieldK fo26_0 rfl) (fun a1 hS => ?_)
        refine seq_is hS (by decide) (runs_load rfl pl9 (hM3.at rfl)) (fun a1 hS => ?_)
        refine nil_ok (qx_block (qx_seq (reg_seq ?_)))
        refine seq_is hS (by decide) (runs_eqStr (r := false) rfl rfl ((is1 _).trans (by rw [hk]; rfl))) (fun a1 hS => ?_)
        refine seq_is hS (by decide) (runs_assign rfl) (fun a1 hS => ?_)
        refine nil_ok (wp_cond_false (hS.eval rfl) (qx_seq (reg_seq ?_)))
        refine seq_is hS (by decide) (runs_eqStr (r := false) rfl rfl ((is2 _).trans (by rw [hk]; rfl))) (fun a1 hS => ?_)
        refine seq_is hS (by decide) (runs_assign rfl) (fun a1 hS => ?_)
        refine nil_ok (wp_cond_false (hS.eval rfl) (qx_seq (qx_seq (reg_seq ?_))))
        refine seq_is hS (by decide) (runs_eqStr (r := false) rfl rfl ((is3 _).trans (by rw [hk]; rfl))) (fun a1 hS => ?_)
        refine seq_is hS (by decide) (runs_assign rfl) (fun a1 hS => ?_)
        refine nil_ok (wp_cond_false (hS.eval rfl) (reg_seq ?_))
        refine seq_is hS (by decide) (runs_eqStr (r := false) rfl rfl ((is4 _).trans (by rw [hk]; rfl))) (fun a1 hS => ?_)
        refine seq_is hS (by decide) (runs_assign rfl) (fun a1 hS => ?_)
        refine nil_ok (wp_cond_false (hS.eval rfl) (wp_skip (qx_seq (reg_seq ?_))))
        refine seq_is hS (by decide) (runs_assign rfl) (fun a1 hS => ?_)
        exact nil_ok (qx_ret (ret1 (t := 8) (by kernel_rfl) hS rfl ⟨_, rfl, rfl, hB⟩))
end Go.Proofs.Ytfceckdhoaabnaa
