/- modillionlaw07.ProgRanks, walked. Conditions: none of our own. -/
import Derived.Test.YtfceckdhoaabnaaSAwake
import Derived.Test.YtfceckdhoaabnaaSFacts
namespace Go.Proofs.Ytfceckdhoaabnaa
open Go.RowKit
set_option maxRecDepth 100000

theorem runs_eqBool {ty t' : TypeId} {L : List (Nat × Value)} {w : World} {x y : Operand} {a b r : Bool} (hx : vals L x = some (.bool a)) (hy : vals L y = some (.bool b)) (hr : (a == b) = r) : Runs Try.prog (.binOp .eql 4 x y t') ty L w (Is (.bool r) w) :=
  runs_bin hx hy rfl (by subst hr; cases a <;> cases b <;> rfl)
set_option maxHeartbeats 1000000 in
theorem ranks_any (n : Int) (es : List E) (v : Value) (tg : ByteArray) (src steps at_ : Int) (x : Vx) (w : World) (hE : Edges w v es) : Ans 9 [gv n v, jv tg src steps, .int .i64 at_, vv x] w (fun u w' => u = .bool true ∧ Below w.heap.size w w') := by
  obtain ⟨A, c, rfl, h1, h2, hA⟩ := hE
  have hE : Edges w (.slice A es.length c) es := ⟨A, c, rfl, h1, h2, hA⟩
  have hk6 : kindL (⟨#[114, 97, 110, 107]⟩ : ByteArray).data.toList = 6 := by decide
  refine calls_qx (args := [gv n (.slice A es.length c), .agg (jc tg src steps).toArray, .int .i64 at_, .agg (vc x).toArray]) 75 Try.func9 rfl (by kernel_rfl) (by simp) (fun a hS => ?_)
  have hB := Below.refl w.heap.size w
  have hEb := hE
  refine qx_seq (reg_seq ?_)
  refine seq_op hS (by decide) (runs_boxB (cs := [.int .i64 n, .slice A es.length c]) rfl rfl) (fun v1 w1 a1 hp hS => ?_)
  obtain ⟨rfl, hM1, hB1⟩ := hp
  have hB := hB.trans (hB1.mono hB.size)
  have hE := hEb.kept hB
  refine seq_op hS (by decide) (runs_boxB (cs := jc tg src steps) rfl rfl) (fun v3 w3 a1 hp hS => ?_)
  obtain ⟨rfl, hM3, hB3⟩ := hp
  have hLhM3 : w.heap.size ≤ w1.heap.size := hB.size
  have hB := hB.trans (hB3.mono hB.size)
  have hM1 := hM1.below hB3 hM1.lt
  have hE := hEb.kept hB
  refine seq_op hS (by decide) (runs_boxB (cs := vc x) rfl rfl) (fun v5 w5 a1 hp hS => ?_)
  obtain ⟨rfl, hM5, hB5⟩ := hp
  have hB := hB.trans (hB5.mono hB.size)
  have hM1 := hM1.below hB5 hM1.lt
  have hM3 := hM3.below hB5 hM3.lt
  have hE := hEb.kept hB
  refine seq_is hS (by decide) (runs_assign rfl) (fun a1 hS => ?_)
  refine nil_ok (qx_seq (qx_seq (reg_seq ?_)))
  refine seq_op hS (by decide) (runs_call (args := []) goes10 rfl (awake_any w5)) (fun v7 w7 a1 hp hS => ?_)
  obtain ⟨rfl, hB7⟩ := hp
  have hB := hB.trans (hB7.mono hB.size)
  have hM1 := hM1.below hB7 hM1.lt
  have hM3 := hM3.below hB7 hM3.lt
  have hM5 := hM5.below hB7 hM5.lt
  have hE := hEb.kept hB
  refine seq_is hS (by decide) (runs_not (b := true) rfl) (fun a1 hS => ?_)
  refine seq_is hS (by decide) (runs_move rfl) (fun a1 hS => ?_)
  refine seq_yis hS (by decide) rfl (by decide) rfl (runs_fieldK fo24_1 rfl) (fun a1 hS => ?_)
  refine seq_yis hS (by decide) rfl (by decide) rfl (runs_load rfl pl22 (hM1.at rfl)) (fun a1 hS => ?_)
  refine seq_yis hS (by decide) rfl (by decide) rfl (runs_len rfl und22) (fun a1 hS => ?_)
  by_cases h100 : ((es.length : Nat) : Int) > 100
  · skip
    refine seq_yis hS (by decide) rfl (by decide) rfl (runs_gtr (r := true) rfl rfl (by rw [decide_eq_true_eq]; omega)) (fun a1 hS => ?_)
    refine seq_is hS (by decide) (runs_pick rfl rfl) (fun a1 hS => ?_)
    refine nil_ok (wp_cond_true (hS.eval rfl) (qx_seq (reg_seq ?_)))
    refine seq_op hS (by decide) (runs_call (args := []) goes10 rfl (awake_any w7)) (fun v9 w9 a1 hp hS => ?_)
    obtain ⟨rfl, hB9⟩ := hp
    have hB := hB.trans (hB9.mono hB.size)
    have hM1 := hM1.below hB9 hM1.lt
    have hM3 := hM3.below hB9 hM3.lt
    have hM5 := hM5.below hB9 hM5.lt
    have hE := hEb.kept hB
    refine seq_is hS (by decide) (runs_assign rfl) (fun a1 hS => ?_)
    exact nil_ok (qx_ret (ret1 (t := 8) (by kernel_rfl) hS rfl ⟨_, rfl, rfl, hB⟩))
  · skip
    refine seq_yis hS (by decide) rfl (by decide) rfl (runs_gtr (r := false) rfl rfl (by rw [decide_eq_false_iff_not]; omega)) (fun a1 hS => ?_)
    refine seq_is hS (by decide) (runs_pick rfl rfl) (fun a1 hS => ?_)
    refine nil_ok (wp_cond_false (hS.eval rfl) (wp_skip (qx_seq (reg_seq ?_))))
    refine seq_is hS (by decide) (runs_fieldK fo26_0 rfl) (fun a1 hS => ?_)
    refine seq_none hS (runs_storeC rfl rfl rfl s1_9 hM3 rfl) (fun v11 w11 a1 hp hS => ?_)
    have hQ11 := hM3
    obtain ⟨hM3, hU11⟩ := hp
    have hB := But.new hB hU11 (fun i e => by rw [e]; exact hLhM3) (Nat.le_refl _)
    have hM1 := hM1.but hU11 (has_ne hM1 hQ11 (by decide))
    have hM5 := hM5.but hU11 (has_ne hM5 hQ11 (by decide))
    have hE := hEb.kept hB
    obtain ⟨Y, LL, ER, hst⟩ : ∃ Y LL ER, stepL n es (kindL (⟨#[114, 97, 110, 107]⟩ : ByteArray).data.toList) src steps at_ x = (Y, LL, ER) := ⟨_, _, _, rfl⟩
    refine nil_ok (qx_seq (reg_v (KF (w11.heap.size) 28 (vc Y)) (fun w' => KF (w11.heap.size) 28 (vc Y) w11 w') [.inl (gv n (.slice A es.length c)), .inr (fun _ => fun v w' => ∃ y, v = gv n y ∧ w'.ownsRow w11.heap.size 46 3 y es.length (cellsE es)), .inl (.agg #[.string ⟨#[114, 97, 110, 107]⟩, .int .i64 src, .int .i64 steps]), .inl (.int .i64 at_), .inl (.agg (vc x).toArray), .inr (fun _ => fun v w' => ∃ sv, v = .tuple #[vv Y, sv, .int .i64 ER] ∧ w'.ownsRow w11.heap.size 48 3 sv (LL).length (cellsE (LL))), .inr (fun _ => fun v w' => ∃ sv, v = .tuple #[vv Y, sv, .int .i64 ER] ∧ w'.ownsRow w11.heap.size 48 3 sv (LL).length (cellsE (LL))), .inl (.agg (vc Y).toArray), .inr (fun _ => fun v w' => w'.ownsRow w11.heap.size 48 3 v (LL).length (cellsE (LL))), .inl (.int .i64 ER), .inr (fun _ => fun v w' => ∃ g, v = .pointer (some ⟨g, 0, none⟩) ∧ w11.heap.size ≤ g ∧ ∃ cs : List Value, cs.length = 5 ∧ Has w' g 28 cs), .inr (fun vs _ => fun w' => ∃ g, vs 10 = .pointer (some ⟨g, 0, none⟩) ∧ w11.heap.size ≤ g ∧ Has w' g 28 (vc Y)), .inr (fun _ => fun v w' => w'.ownsRow w11.heap.size 48 3 v (LL).length (cellsE (LL))), .inl (.int .i64 ER)] 14 0 ⟨trivial, fun _ _ _ => rfl, trivial, trivial, trivial, fun _ _ _ => rfl, fun _ _ _ => rfl, trivial, fun _ _ _ => rfl, trivial, fun _ _ _ => rfl, fun vs vs' h => by simp only [h 10 (by kernel_rfl)], fun _ _ _ => rfl, trivial, trivial⟩ mixed rfl (by kernel_rfl) hS (KF.refl _ _ _ _) (fun _ h => h.drew) ?_))
    refine fun vs => ?_
    refine vs_is rfl (fun w' hw => runs_loadRow rfl (hw.other _ _ _ (by decide) hM1) Try.underlying24 rfl (by rw [sz24]; rfl)) ?_
    refine vs_pr rfl (fun _ _ _ h hk => by obtain ⟨y, h1, h2⟩ := h; exact ⟨y, h1, hk.owns h2 (by decide)⟩) (fun w' hw hq => (runs_call (args := [gv n (.slice A es.length c)]) goes13 rfl (ownR_any n es (by omega) _ w' (hE.kept hw.below))).mono (by rintro v w5 ⟨hb, y, h1, h2⟩; exact ⟨⟨y, h1, owns_mono h2 hw.below.size⟩, hw.more (Nat.le_refl _) hb, KF.of hb hw.below.size⟩)) (fun vg evg => ?_)
    refine vs_is rfl (fun w' hw => runs_loadRow rfl (hw.other _ _ _ (by decide) hM3) Try.underlying26 rfl (by rw [sz26]; rfl)) ?_
    refine vs_is rfl (fun w' hw => runs_move rfl) ?_
    refine vs_is rfl (fun w' hw => runs_loadRow rfl (hM5.below hw.below (hM5.lt)) Try.underlying28 rfl (by rw [sz28]; rfl)) ?_
    refine vs_pr rfl (fun _ _ _ h hk => by obtain ⟨sv, h1, h2⟩ := h; exact ⟨sv, h1, hk.owns h2 (by decide)⟩) (fun w' hw hq => (by obtain ⟨y, rfl, hgy⟩ := hq (1, _) List.mem_cons_self (by kernel_rfl); exact (runs_call (args := [gv n y, .agg #[.string ⟨#[114, 97, 110, 107]⟩, .int .i64 src, .int .i64 steps], .int .i64 at_, .agg (vc x).toArray]) goes12 rfl (step_is w' (edges_ownE hgy rfl) hst)).mono (by rintro v w5 ⟨hb, sv, h1, h2⟩; exact ⟨⟨sv, h1, owns_mono h2 hw.below.size⟩, hw.more (Nat.le_refl _) hb, KF.of hb hw.below.size⟩))) (fun vc1 evc1 => ?_)
    refine vs_pr rfl (fun _ _ _ h hk => by obtain ⟨sv, h1, h2⟩ := h; exact ⟨sv, h1, hk.owns h2 (by decide)⟩) (fun w' hw hq => (by obtain ⟨sv, rfl, h2⟩ := hq (5, _) List.mem_cons_self (by kernel_rfl); exact (runs_move rfl).mono (by rintro v w5 ⟨rfl, rfl⟩; exact ⟨⟨sv, rfl, h2⟩, hw, KF.refl _ _ _ _⟩))) (fun vc2 evc2 => ?_)
    refine vs_val rfl (fun w' hw hq => (by obtain ⟨sv, rfl, _⟩ := hq (6, _) List.mem_cons_self (by kernel_rfl); exact (runs_extract rfl rfl).mono (by rintro v w5 ⟨rfl, rfl⟩; exact ⟨rfl, hw, KF.refl _ _ _ _⟩))) ?_
    refine vs_pr rfl (fun _ _ _ h hk => hk.owns h (by decide)) (fun w' hw hq => (by obtain ⟨sv, rfl, h2⟩ := hq (6, _) List.mem_cons_self (by kernel_rfl); exact (runs_extract rfl rfl).mono (by rintro v w5 ⟨rfl, rfl⟩; exact ⟨h2, hw, KF.refl _ _ _ _⟩))) (fun sl esl => ?_)
    refine vs_val rfl (fun w' hw hq => (by obtain ⟨sv, rfl, _⟩ := hq (6, _) (List.mem_cons_of_mem _ List.mem_cons_self) (by kernel_rfl); exact (runs_extract rfl rfl).mono (by rintro v w5 ⟨rfl, rfl⟩; exact ⟨rfl, hw, KF.refl _ _ _ _⟩))) ?_
    refine vs_pr rfl (fun _ _ _ h hk => by obtain ⟨g, h1, h2, cs, h3, h4⟩ := h; obtain ⟨cs', h5, h6⟩ := hk.len _ _ h4; exact ⟨g, h1, h2, cs', h5.trans h3, h6⟩) (fun w' hw hq => (runs_allocB (cs := [.int .i64 0, .int .i64 0, .bool false, .bool false, .int .i64 0]) zo28 rfl).mono (by rintro v w5 ⟨rfl, h2, h3⟩; exact ⟨⟨_, rfl, hw.below.size, _, rfl, h2⟩, hw.more (Nat.le_refl _) h3, KF.of h3 hw.below.size⟩)) (fun va eva => ?_)
    refine vs_none rfl (fun w1 w2 h hk => by obtain ⟨g, h1, h2, h3⟩ := h; exact ⟨g, h1, h2, hk.fin _ h3⟩) (fun w' hw hq => (by obtain ⟨g, rfl, hBg, cs, hcs, hg⟩ := hq (10, _) List.mem_cons_self (by kernel_rfl); exact (runs_storeB (cs := vc Y) rfl rfl hg (hcs.trans rfl) rfl sz28).mono (by rintro v w2 ⟨h1, h2⟩; have hk := KF.store (F := vc Y) hg hBg (hcs.trans rfl) h1 h2; exact ⟨⟨g, eva, hBg, h1⟩, hw.trans hk, hk⟩))) (fun _ _ => ?_)
    refine vs_pr rfl (fun _ _ _ h hk => hk.owns h (by decide)) (fun w' hw hq => (by have h2 := hq (8, _) (List.mem_cons_of_mem _ (List.mem_cons_of_mem _ List.mem_cons_self)) (by kernel_rfl); exact (runs_assign rfl).mono (by rintro v w5 ⟨rfl, rfl⟩; exact ⟨h2, hw, KF.refl _ _ _ _⟩))) (fun sm esm => ?_)
    refine vs_is rfl (fun w' hw => runs_assign rfl) ?_
    refine (fun a13 w13 hS hK13 hq => ?_)
    obtain ⟨gs, hgs, hgBs, hYs⟩ := (hq (11, _) (List.mem_cons_of_mem _ List.mem_cons_self))
    rw [eva] at hgs
    subst hgs
    have hOwn := (hq (12, _) List.mem_cons_self)
    clear hq
    have hB := hB.trans (hK13.below.mono (hB.size))
    have hM3 := hK13.other _ _ _ (by decide) hM3
    have hM5 := hM5.below hK13.below (hM5.lt)
    obtain ⟨A2, c2, hsm, hc21, hc22, _⟩ := edges_ownE hOwn rfl
    unfold maxLen at hc22
    subst hsm
    refine wpAnyH_done (by kernel_rfl) ?_ _
    refine qx_seq (qx_seq (reg_seq ?_))
    refine seq_is hS (by decide) (runs_move rfl) (fun a1 hS => ?_)
    by_cases he : ER ≠ 0
    · skip
      refine seq_is hS (by decide) (runs_neq (r := true) rfl rfl (by simpa using he)) (fun a1 hS => ?_)
      refine seq_is hS (by decide) (runs_move rfl) (fun a1 hS => ?_)
      refine seq_no hS (by decide) rfl (by decide) rfl rfl (fun a1 hS => ?_)
      refine seq_no hS (by decide) rfl (by decide) rfl rfl (fun a1 hS => ?_)
      refine seq_no hS (by decide) rfl (by decide) rfl rfl (fun a1 hS => ?_)
      refine seq_no hS (by decide) rfl (by decide) rfl rfl (fun a1 hS => ?_)
      refine seq_skip2 hS (by decide) rfl (by decide) rfl (fun a1 hS => ?_)
      refine seq_skip2 hS (by decide) rfl (by decide) rfl (fun a1 hS => ?_)
      refine seq_skip2 hS (by decide) rfl (by decide) rfl (fun a1 hS => ?_)
      refine seq_no hS (by decide) rfl (by decide) rfl rfl (fun a1 hS => ?_)
      refine seq_is hS (by decide) (runs_pick rfl rfl) (fun a1 hS => ?_)
      refine nil_ok (wp_cond_true (hS.eval rfl) (qx_seq (reg_seq ?_)))
      refine seq_is hS (by decide) (runs_move rfl) (fun a1 hS => ?_)
      refine seq_is hS (by decide) (runs_len rfl und32) (fun a1 hS => ?_)
      have hl0 : LL = [] := (step_err hst he).2
      refine seq_is hS (by decide) (runs_eql (r := true) rfl rfl (by rw [hl0]; rfl)) (fun a1 hS => ?_)
      refine seq_is hS (by decide) (runs_assign rfl) (fun a1 hS => ?_)
      exact nil_ok (qx_ret (ret1 (t := 8) (by kernel_rfl) hS rfl ⟨_, rfl, rfl, hB⟩))
    · skip
      refine seq_is hS (by decide) (runs_neq (r := false) rfl rfl (by simpa using he)) (fun a1 hS => ?_)
      refine seq_is hS (by decide) (runs_move rfl) (fun a1 hS => ?_)
      refine seq_yis hS (by decide) rfl (by decide) rfl (runs_fieldK fo28_2 rfl) (fun a1 hS => ?_)
      by_cases q1 : x.act = true
      · skip
        refine seq_yis hS (by decide) rfl (by decide) rfl (runs_load rfl pl4 ((hM5.at rfl).trans (by rw [q1]))) (fun a1 hS => ?_)
        refine seq_yis hS (by decide) rfl (by decide) rfl (runs_not (b := true) rfl) (fun a1 hS => ?_)
        refine seq_yis hS (by decide) rfl (by decide) rfl (runs_move rfl) (fun a1 hS => ?_)
        refine seq_no hS (by decide) rfl (by decide) rfl rfl (fun a1 hS => ?_)
        refine seq_no hS (by decide) rfl (by decide) rfl rfl (fun a1 hS => ?_)
        refine seq_no hS (by decide) rfl (by decide) rfl rfl (fun a1 hS => ?_)
        refine seq_yis hS (by decide) rfl (by decide) rfl (runs_pick rfl rfl) (fun a1 hS => ?_)
        refine seq_is hS (by decide) (runs_pick rfl rfl) (fun a1 hS => ?_)
        refine nil_ok (wp_cond_false (hS.eval rfl) (wp_skip (qx_seq (reg_seq ?_))))
        refine seq_is hS (by decide) (runs_fieldK fo28_2 rfl) (fun a1 hS => ?_)
        refine seq_is hS (by decide) (runs_load rfl pl4 (hYs.at rfl)) (fun a1 hS => ?_)
        refine seq_is hS (by decide) (runs_move rfl) (fun a1 hS => ?_)
        refine seq_is hS (by decide) (runs_fieldK fo26_2 rfl) (fun a1 hS => ?_)
        refine seq_is hS (by decide) (runs_load rfl pl3 (hM3.at rfl)) (fun a1 hS => ?_)
        have hok := step_ok hst (Classical.not_not.1 he)
        have hrk := step_rank (hk6 ▸ hst) (Classical.not_not.1 he) (by first | exact .inl q1 | exact .inr q2)
        refine seq_is hS (by decide) (runs_sub rfl rfl (wrap64 (by have := (job_iff.1 hok.1.1).2.2.2.2; omega) (by have := (job_iff.1 hok.1.1).2.2.2.2; omega))) (fun a1 hS => ?_)
        refine seq_is hS (by decide) (runs_lss (r := decide (at_ < steps - 1)) rfl rfl rfl) (fun a1 hS => ?_)
        refine seq_is hS (by decide) (runs_eqBool (r := true) rfl rfl (by rw [hrk.1]; simp)) (fun a1 hS => ?_)
        refine seq_is hS (by decide) (runs_move rfl) (fun a1 hS => ?_)
        refine seq_yis hS (by decide) rfl (by decide) rfl (runs_fieldK fo28_2 rfl) (fun a1 hS => ?_)
        by_cases qa : Y.act = true
        · skip
          refine seq_yis hS (by decide) rfl (by decide) rfl (runs_load rfl pl4 ((hYs.at rfl).trans (by rw [qa]))) (fun a1 hS => ?_)
          refine seq_yis hS (by decide) rfl (by decide) rfl (runs_move rfl) (fun a1 hS => ?_)
          refine seq_no hS (by decide) rfl (by decide) rfl rfl (fun a1 hS => ?_)
          refine seq_no hS (by decide) rfl (by decide) rfl rfl (fun a1 hS => ?_)
          refine seq_no hS (by decide) rfl (by decide) rfl rfl (fun a1 hS => ?_)
          refine seq_yis hS (by decide) rfl (by decide) rfl (runs_pick rfl rfl) (fun a1 hS => ?_)
          refine seq_is hS (by decide) (runs_pick rfl rfl) (fun a1 hS => ?_)
          refine seq_is hS (by decide) (runs_move rfl) (fun a1 hS => ?_)
          refine seq_yis hS (by decide) rfl (by decide) rfl (runs_move rfl) (fun a1 hS => ?_)
          by_cases q0 : at_ > 0
          · skip
            refine seq_yis hS (by decide) rfl (by decide) rfl (runs_gtr (r := true) rfl rfl (by rw [decide_eq_true_eq]; omega)) (fun a1 hS => ?_)
            refine seq_yis hS (by decide) rfl (by decide) rfl (runs_move rfl) (fun a1 hS => ?_)
            refine seq_no hS (by decide) rfl (by decide) rfl rfl (fun a1 hS => ?_)
            refine seq_no hS (by decide) rfl (by decide) rfl rfl (fun a1 hS => ?_)
            refine seq_no hS (by decide) rfl (by decide) rfl rfl (fun a1 hS => ?_)
            refine seq_no hS (by decide) rfl (by decide) rfl rfl (fun a1 hS => ?_)
            refine seq_no hS (by decide) rfl (by decide) rfl rfl (fun a1 hS => ?_)
            refine seq_yis hS (by decide) rfl (by decide) rfl (runs_pick rfl rfl) (fun a1 hS => ?_)
            refine seq_is hS (by decide) (runs_pick rfl rfl) (fun a1 hS => ?_)
            refine seq_is hS (by decide) (runs_assign rfl) (fun a1 hS => ?_)
            exact nil_ok (qx_ret (ret1 (t := 8) (by kernel_rfl) hS rfl ⟨_, rfl, rfl, hB⟩))
          · skip
            refine seq_yis hS (by decide) rfl (by decide) rfl (runs_gtr (r := false) rfl rfl (by rw [decide_eq_false_iff_not]; omega)) (fun a1 hS => ?_)
            refine seq_yis hS (by decide) rfl (by decide) rfl (runs_move rfl) (fun a1 hS => ?_)
            refine seq_yis hS (by decide) rfl (by decide) rfl (runs_fieldK fo28_1 rfl) (fun a1 hS => ?_)
            refine seq_yis hS (by decide) rfl (by decide) rfl (runs_load rfl pl2 (hYs.at rfl)) (fun a1 hS => ?_)
            refine seq_yis hS (by decide) rfl (by decide) rfl (runs_fieldK fo28_1 rfl) (fun a1 hS => ?_)
            refine seq_yis hS (by decide) rfl (by decide) rfl (runs_load rfl pl2 (hM5.at rfl)) (fun a1 hS => ?_)
            refine seq_yis hS (by decide) rfl (by decide) rfl (runs_eql (r := true) rfl rfl (by rw [hrk.2.2 q0]; simp)) (fun a1 hS => ?_)
            refine seq_yis hS (by decide) rfl (by decide) rfl (runs_pick rfl rfl) (fun a1 hS => ?_)
            refine seq_is hS (by decide) (runs_pick rfl rfl) (fun a1 hS => ?_)
            refine seq_is hS (by decide) (runs_assign rfl) (fun a1 hS => ?_)
            exact nil_ok (qx_ret (ret1 (t := 8) (by kernel_rfl) hS rfl ⟨_, rfl, rfl, hB⟩))
        · skip
          refine seq_yis hS (by decide) rfl (by decide) rfl (runs_load rfl pl4 ((hYs.at rfl).trans (by rw [Bool.eq_false_iff.2 qa]))) (fun a1 hS => ?_)
          refine seq_yis hS (by decide) rfl (by decide) rfl (runs_move rfl) (fun a1 hS => ?_)
          refine seq_yis hS (by decide) rfl (by decide) rfl (runs_move rfl) (fun a1 hS => ?_)
          refine seq_yis hS (by decide) rfl (by decide) rfl (runs_len rfl und32) (fun a1 hS => ?_)
          refine seq_yis hS (by decide) rfl (by decide) rfl (runs_eql (r := true) rfl rfl (by rw [hrk.2.1 (Bool.eq_false_iff.2 qa)]; rfl)) (fun a1 hS => ?_)
          refine seq_yis hS (by decide) rfl (by decide) rfl (runs_pick rfl rfl) (fun a1 hS => ?_)
          refine seq_is hS (by decide) (runs_pick rfl rfl) (fun a1 hS => ?_)
          refine seq_is hS (by decide) (runs_move rfl) (fun a1 hS => ?_)
          refine seq_yis hS (by decide) rfl (by decide) rfl (runs_move rfl) (fun a1 hS => ?_)
          by_cases q0 : at_ > 0
          · skip
            refine seq_yis hS (by decide) rfl (by decide) rfl (runs_gtr (r := true) rfl rfl (by rw [decide_eq_true_eq]; omega)) (fun a1 hS => ?_)
            refine seq_yis hS (by decide) rfl (by decide) rfl (runs_move rfl) (fun a1 hS => ?_)
            refine seq_no hS (by decide) rfl (by decide) rfl rfl (fun a1 hS => ?_)
            refine seq_no hS (by decide) rfl (by decide) rfl rfl (fun a1 hS => ?_)
            refine seq_no hS (by decide) rfl (by decide) rfl rfl (fun a1 hS => ?_)
            refine seq_no hS (by decide) rfl (by decide) rfl rfl (fun a1 hS => ?_)
            refine seq_no hS (by decide) rfl (by decide) rfl rfl (fun a1 hS => ?_)
            refine seq_yis hS (by decide) rfl (by decide) rfl (runs_pick rfl rfl) (fun a1 hS => ?_)
            refine seq_is hS (by decide) (runs_pick rfl rfl) (fun a1 hS => ?_)
            refine seq_is hS (by decide) (runs_assign rfl) (fun a1 hS => ?_)
            exact nil_ok (qx_ret (ret1 (t := 8) (by kernel_rfl) hS rfl ⟨_, rfl, rfl, hB⟩))
          · skip
            refine seq_yis hS (by decide) rfl (by decide) rfl (runs_gtr (r := false) rfl rfl (by rw [decide_eq_false_iff_not]; omega)) (fun a1 hS => ?_)
            refine seq_yis hS (by decide) rfl (by decide) rfl (runs_move rfl) (fun a1 hS => ?_)
            refine seq_yis hS (by decide) rfl (by decide) rfl (runs_fieldK fo28_1 rfl) (fun a1 hS => ?_)
            refine seq_yis hS (by decide) rfl (by decide) rfl (runs_load rfl pl2 (hYs.at rfl)) (fun a1 hS => ?_)
            refine seq_yis hS (by decide) rfl (by decide) rfl (runs_fieldK fo28_1 rfl) (fun a1 hS => ?_)
            refine seq_yis hS (by decide) rfl (by decide) rfl (runs_load rfl pl2 (hM5.at rfl)) (fun a1 hS => ?_)
            refine seq_yis hS (by decide) rfl (by decide) rfl (runs_eql (r := true) rfl rfl (by rw [hrk.2.2 q0]; simp)) (fun a1 hS => ?_)
            refine seq_yis hS (by decide) rfl (by decide) rfl (runs_pick rfl rfl) (fun a1 hS => ?_)
            refine seq_is hS (by decide) (runs_pick rfl rfl) (fun a1 hS => ?_)
            refine seq_is hS (by decide) (runs_assign rfl) (fun a1 hS => ?_)
            exact nil_ok (qx_ret (ret1 (t := 8) (by kernel_rfl) hS rfl ⟨_, rfl, rfl, hB⟩))
      · skip
        refine seq_yis hS (by decide) rfl (by decide) rfl (runs_load rfl pl4 ((hM5.at rfl).trans (by rw [Bool.eq_false_iff.2 q1]))) (fun a1 hS => ?_)
        refine seq_yis hS (by decide) rfl (by decide) rfl (runs_not (b := false) rfl) (fun a1 hS => ?_)
        refine seq_yis hS (by decide) rfl (by decide) rfl (runs_move rfl) (fun a1 hS => ?_)
        refine seq_yis hS (by decide) rfl (by decide) rfl (runs_fieldK fo28_3 rfl) (fun a1 hS => ?_)
        by_cases q2 : x.has = true
        · skip
          refine seq_yis hS (by decide) rfl (by decide) rfl (runs_load rfl pl4 ((hM5.at rfl).trans (by rw [q2]))) (fun a1 hS => ?_)
          refine seq_yis hS (by decide) rfl (by decide) rfl (runs_not (b := true) rfl) (fun a1 hS => ?_)
          refine seq_yis hS (by decide) rfl (by decide) rfl (runs_pick rfl rfl) (fun a1 hS => ?_)
          refine seq_is hS (by decide) (runs_pick rfl rfl) (fun a1 hS => ?_)
          refine nil_ok (wp_cond_false (hS.eval rfl) (wp_skip (qx_seq (reg_seq ?_))))
          refine seq_is hS (by decide) (runs_fieldK fo28_2 rfl) (fun a1 hS => ?_)
          refine seq_is hS (by decide) (runs_load rfl pl4 (hYs.at rfl)) (fun a1 hS => ?_)
          refine seq_is hS (by decide) (runs_move rfl) (fun a1 hS => ?_)
          refine seq_is hS (by decide) (runs_fieldK fo26_2 rfl) (fun a1 hS => ?_)
          refine seq_is hS (by decide) (runs_load rfl pl3 (hM3.at rfl)) (fun a1 hS => ?_)
          have hok := step_ok hst (Classical.not_not.1 he)
          have hrk := step_rank (hk6 ▸ hst) (Classical.not_not.1 he) (by first | exact .inl q1 | exact .inr q2)
          refine seq_is hS (by decide) (runs_sub rfl rfl (wrap64 (by have := (job_iff.1 hok.1.1).2.2.2.2; omega) (by have := (job_iff.1 hok.1.1).2.2.2.2; omega))) (fun a1 hS => ?_)
          refine seq_is hS (by decide) (runs_lss (r := decide (at_ < steps - 1)) rfl rfl rfl) (fun a1 hS => ?_)
          refine seq_is hS (by decide) (runs_eqBool (r := true) rfl rfl (by rw [hrk.1]; simp)) (fun a1 hS => ?_)
          refine seq_is hS (by decide) (runs_move rfl) (fun a1 hS => ?_)
          refine seq_yis hS (by decide) rfl (by decide) rfl (runs_fieldK fo28_2 rfl) (fun a1 hS => ?_)
          by_cases qa : Y.act = true
          · skip
            refine seq_yis hS (by decide) rfl (by decide) rfl (runs_load rfl pl4 ((hYs.at rfl).trans (by rw [qa]))) (fun a1 hS => ?_)
            refine seq_yis hS (by decide) rfl (by decide) rfl (runs_move rfl) (fun a1 hS => ?_)
            refine seq_no hS (by decide) rfl (by decide) rfl rfl (fun a1 hS => ?_)
            refine seq_no hS (by decide) rfl (by decide) rfl rfl (fun a1 hS => ?_)
            refine seq_no hS (by decide) rfl (by decide) rfl rfl (fun a1 hS => ?_)
            refine seq_yis hS (by decide) rfl (by decide) rfl (runs_pick rfl rfl) (fun a1 hS => ?_)
            refine seq_is hS (by decide) (runs_pick rfl rfl) (fun a1 hS => ?_)
            refine seq_is hS (by decide) (runs_move rfl) (fun a1 hS => ?_)
            refine seq_yis hS (by decide) rfl (by decide) rfl (runs_move rfl) (fun a1 hS => ?_)
            by_cases q0 : at_ > 0
            · skip
              refine seq_yis hS (by decide) rfl (by decide) rfl (runs_gtr (r := true) rfl rfl (by rw [decide_eq_true_eq]; omega)) (fun a1 hS => ?_)
              refine seq_yis hS (by decide) rfl (by decide) rfl (runs_move rfl) (fun a1 hS => ?_)
              refine seq_no hS (by decide) rfl (by decide) rfl rfl (fun a1 hS => ?_)
              refine seq_no hS (by decide) rfl (by decide) rfl rfl (fun a1 hS => ?_)
              refine seq_no hS (by decide) rfl (by decide) rfl rfl (fun a1 hS => ?_)
              refine seq_no hS (by decide) rfl (by decide) rfl rfl (fun a1 hS => ?_)
              refine seq_no hS (by decide) rfl (by decide) rfl rfl (fun a1 hS => ?_)
              refine seq_yis hS (by decide) rfl (by decide) rfl (runs_pick rfl rfl) (fun a1 hS => ?_)
              refine seq_is hS (by decide) (runs_pick rfl rfl) (fun a1 hS => ?_)
              refine seq_is hS (by decide) (runs_assign rfl) (fun a1 hS => ?_)
              exact nil_ok (qx_ret (ret1 (t := 8) (by kernel_rfl) hS rfl ⟨_, rfl, rfl, hB⟩))
            · skip
              refine seq_yis hS (by decide) rfl (by decide) rfl (runs_gtr (r := false) rfl rfl (by rw [decide_eq_false_iff_not]; omega)) (fun a1 hS => ?_)
              refine seq_yis hS (by decide) rfl (by decide) rfl (runs_move rfl) (fun a1 hS => ?_)
              refine seq_yis hS (by decide) rfl (by decide) rfl (runs_fieldK fo28_1 rfl) (fun a1 hS => ?_)
              refine seq_yis hS (by decide) rfl (by decide) rfl (runs_load rfl pl2 (hYs.at rfl)) (fun a1 hS => ?_)
              refine seq_yis hS (by decide) rfl (by decide) rfl (runs_fieldK fo28_1 rfl) (fun a1 hS => ?_)
              refine seq_yis hS (by decide) rfl (by decide) rfl (runs_load rfl pl2 (hM5.at rfl)) (fun a1 hS => ?_)
              refine seq_yis hS (by decide) rfl (by decide) rfl (runs_eql (r := true) rfl rfl (by rw [hrk.2.2 q0]; simp)) (fun a1 hS => ?_)
              refine seq_yis hS (by decide) rfl (by decide) rfl (runs_pick rfl rfl) (fun a1 hS => ?_)
              refine seq_is hS (by decide) (runs_pick rfl rfl) (fun a1 hS => ?_)
              refine seq_is hS (by decide) (runs_assign rfl) (fun a1 hS => ?_)
              exact nil_ok (qx_ret (ret1 (t := 8) (by kernel_rfl) hS rfl ⟨_, rfl, rfl, hB⟩))
          · skip
            refine seq_yis hS (by decide) rfl (by decide) rfl (runs_load rfl pl4 ((hYs.at rfl).trans (by rw [Bool.eq_false_iff.2 qa]))) (fun a1 hS => ?_)
            refine seq_yis hS (by decide) rfl (by decide) rfl (runs_move rfl) (fun a1 hS => ?_)
            refine seq_yis hS (by decide) rfl (by decide) rfl (runs_move rfl) (fun a1 hS => ?_)
            refine seq_yis hS (by decide) rfl (by decide) rfl (runs_len rfl und32) (fun a1 hS => ?_)
            refine seq_yis hS (by decide) rfl (by decide) rfl (runs_eql (r := true) rfl rfl (by rw [hrk.2.1 (Bool.eq_false_iff.2 qa)]; rfl)) (fun a1 hS => ?_)
            refine seq_yis hS (by decide) rfl (by decide) rfl (runs_pick rfl rfl) (fun a1 hS => ?_)
            refine seq_is hS (by decide) (runs_pick rfl rfl) (fun a1 hS => ?_)
            refine seq_is hS (by decide) (runs_move rfl) (fun a1 hS => ?_)
            refine seq_yis hS (by decide) rfl (by decide) rfl (runs_move rfl) (fun a1 hS => ?_)
            by_cases q0 : at_ > 0
            · skip
              refine seq_yis hS (by decide) rfl (by decide) rfl (runs_gtr (r := true) rfl rfl (by rw [decide_eq_true_eq]; omega)) (fun a1 hS => ?_)
              refine seq_yis hS (by decide) rfl (by decide) rfl (runs_move rfl) (fun a1 hS => ?_)
              refine seq_no hS (by decide) rfl (by decide) rfl rfl (fun a1 hS => ?_)
              refine seq_no hS (by decide) rfl (by decide) rfl rfl (fun a1 hS => ?_)
              refine seq_no hS (by decide) rfl (by decide) rfl rfl (fun a1 hS => ?_)
              refine seq_no hS (by decide) rfl (by decide) rfl rfl (fun a1 hS => ?_)
              refine seq_no hS (by decide) rfl (by decide) rfl rfl (fun a1 hS => ?_)
              refine seq_yis hS (by decide) rfl (by decide) rfl (runs_pick rfl rfl) (fun a1 hS => ?_)
              refine seq_is hS (by decide) (runs_pick rfl rfl) (fun a1 hS => ?_)
              refine seq_is hS (by decide) (runs_assign rfl) (fun a1 hS => ?_)
              exact nil_ok (qx_ret (ret1 (t := 8) (by kernel_rfl) hS rfl ⟨_, rfl, rfl, hB⟩))
            · skip
              refine seq_yis hS (by decide) rfl (by decide) rfl (runs_gtr (r := false) rfl rfl (by rw [decide_eq_false_iff_not]; omega)) (fun a1 hS => ?_)
              refine seq_yis hS (by decide) rfl (by decide) rfl (runs_move rfl) (fun a1 hS => ?_)
              refine seq_yis hS (by decide) rfl (by decide) rfl (runs_fieldK fo28_1 rfl) (fun a1 hS => ?_)
              refine seq_yis hS (by decide) rfl (by decide) rfl (runs_load rfl pl2 (hYs.at rfl)) (fun a1 hS => ?_)
              refine seq_yis hS (by decide) rfl (by decide) rfl (runs_fieldK fo28_1 rfl) (fun a1 hS => ?_)
              refine seq_yis hS (by decide) rfl (by decide) rfl (runs_load rfl pl2 (hM5.at rfl)) (fun a1 hS => ?_)
              refine seq_yis hS (by decide) rfl (by decide) rfl (runs_eql (r := true) rfl rfl (by rw [hrk.2.2 q0]; simp)) (fun a1 hS => ?_)
              refine seq_yis hS (by decide) rfl (by decide) rfl (runs_pick rfl rfl) (fun a1 hS => ?_)
              refine seq_is hS (by decide) (runs_pick rfl rfl) (fun a1 hS => ?_)
              refine seq_is hS (by decide) (runs_assign rfl) (fun a1 hS => ?_)
              exact nil_ok (qx_ret (ret1 (t := 8) (by kernel_rfl) hS rfl ⟨_, rfl, rfl, hB⟩))
        · skip
          refine seq_yis hS (by decide) rfl (by decide) rfl (runs_load rfl pl4 ((hM5.at rfl).trans (by rw [Bool.eq_false_iff.2 q2]))) (fun a1 hS => ?_)
          refine seq_yis hS (by decide) rfl (by decide) rfl (runs_not (b := false) rfl) (fun a1 hS => ?_)
          refine seq_yis hS (by decide) rfl (by decide) rfl (runs_pick rfl rfl) (fun a1 hS => ?_)
          refine seq_is hS (by decide) (runs_pick rfl rfl) (fun a1 hS => ?_)
          refine nil_ok (wp_cond_true (hS.eval rfl) (qx_seq (reg_seq ?_)))
          refine seq_is hS (by decide) (runs_move rfl) (fun a1 hS => ?_)
          refine seq_is hS (by decide) (runs_len rfl und32) (fun a1 hS => ?_)
          have hl0 : LL = [] := by rcases (step_ok hst (Classical.not_not.1 he)).2 with h | h; exact h.2.2.2; rcases h.1 with h | h; exact absurd h q1; exact absurd h q2
          refine seq_is hS (by decide) (runs_eql (r := true) rfl rfl (by rw [hl0]; rfl)) (fun a1 hS => ?_)
          refine seq_is hS (by decide) (runs_assign rfl) (fun a1 hS => ?_)
          exact nil_ok (qx_ret (ret1 (t := 8) (by kernel_rfl) hS rfl ⟨_, rfl, rfl, hB⟩))
end Go.Proofs.Ytfceckdhoaabnaa
