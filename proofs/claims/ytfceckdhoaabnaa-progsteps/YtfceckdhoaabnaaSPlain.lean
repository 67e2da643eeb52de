/- The document's step of a vertex that has something to do. Conditions: none of our own. -/
import Derived.Test.YtfceckdhoaabnaaSRight
namespace Go.Proofs.Ytfceckdhoaabnaa
open Go.RowKit
set_option maxRecDepth 100000

theorem allF_0 (val : Int) : allF val 0 = fun _ => val := by funext x; simp [allF]
theorem allF_1 (val : Int) : allF val 1 = fun _ => val + 1 := by funext x; simp [allF]
theorem allF_2 (val : Int) : allF val 2 = fun x => val + x := by funext x; simp [allF]
set_option maxHeartbeats 1000000 in
theorem rplain_any (l : List E) (hsm : l.length ≤ 600) (v : Value) (tg : ByteArray) (src steps at_ : Int) (x : Vx) (w : World) (hE : Edges w v l) (hkn : kindL tg.data.toList ≠ 0) (hgv : great x.val = false) (hgi : great x.inn = false) (hlw : ∀ e ∈ l, 0 ≤ e.2.2 ∧ e.2.2 ≤ 1048576) (hs1 : 1 ≤ steps) (hs2 : steps ≤ 64) (hat : 0 ≤ at_) :
    Ans 30 [jv tg src steps, .int .i64 at_, vv x, v] w (fun u w' => Below w.heap.size w w' ∧ ∃ sv, u = .tuple #[vv ⟨x.id, (runL (kindL tg.data.toList) (at_ == 0) (at_ == steps - 1) (x.id == src) x.has (if x.has = true then x.inn else 0) x.val l).1.1, (runL (kindL tg.data.toList) (at_ == 0) (at_ == steps - 1) (x.id == src) x.has (if x.has = true then x.inn else 0) x.val l).1.2, false, 0⟩, sv] ∧ w'.ownsRow w.heap.size 48 3 sv (runL (kindL tg.data.toList) (at_ == 0) (at_ == steps - 1) (x.id == src) x.has (if x.has = true then x.inn else 0) x.val l).2.length (cellsE (runL (kindL tg.data.toList) (at_ == 0) (at_ == steps - 1) (x.id == src) x.has (if x.has = true then x.inn else 0) x.val l).2)) := by
  obtain ⟨A, c, rfl, h1, h2, hA⟩ := hE
  have hE : Edges w (.slice A l.length c) l := ⟨A, c, rfl, h1, h2, hA⟩
  obtain ⟨hv1, hv2⟩ := great_no hgv
  obtain ⟨hi1, hi2⟩ := great_no hgi
  rcases kind_cases tg.data.toList with hk | hk | hk | hk | hk | hk | hk | hk
  · exact absurd hk hkn
  · skip
    refine calls_qx (args := [.agg (jc tg src steps).toArray, .int .i64 at_, .agg (vc x).toArray, .slice A l.length c]) 163 Try.func30 rfl (by kernel_rfl) (by simp) (fun a hS => ?_)
    have hB := Below.refl w.heap.size w
    have hEb := hE
    refine qx_seq (reg_seq ?_)
    refine seq_op hS (by decide) (runs_boxB (cs := jc tg src steps) rfl rfl) (fun v1 w1 a1 hp hS => ?_)
    obtain ⟨rfl, hM1, hB1⟩ := hp
    have hB := hB.trans (hB1.mono hB.size)
    have hE := hEb.kept hB
    refine seq_op hS (by decide) (runs_boxB (cs := vc x) rfl rfl) (fun v3 w3 a1 hp hS => ?_)
    obtain ⟨rfl, hM3, hB3⟩ := hp
    have hB := hB.trans (hB3.mono hB.size)
    have hM1 := hM1.below hB3 hM1.lt
    have hE := hEb.kept hB
    refine seq_op hS (by decide) (runs_allocB (cs := [.int .i64 0, .int .i64 0, .bool false, .bool false, .int .i64 0]) zo28 rfl) (fun v5 w5 a1 hp hS => ?_)
    obtain ⟨rfl, hM5, hB5⟩ := hp
    have hLhM5 : w.heap.size ≤ w3.heap.size := hB.size
    have hNhM3hM5 : w1.heap.size ≠ w3.heap.size := by have := hM3.lt; omega
    have hB := hB.trans (hB5.mono hB.size)
    have hM1 := hM1.below hB5 hM1.lt
    have hM3 := hM3.below hB5 hM3.lt
    have hE := hEb.kept hB
    refine seq_is hS (by decide) (runs_assign rfl) (fun a1 hS => ?_)
    refine nil_ok (qx_seq (reg_seq ?_))
    refine seq_is hS (by decide) (runs_fieldK fo28_0 rfl) (fun a1 hS => ?_)
    refine seq_is hS (by decide) (runs_load rfl pl3 (hM3.at rfl)) (fun a1 hS => ?_)
    refine seq_is hS (by decide) (runs_fieldK fo28_1 rfl) (fun a1 hS => ?_)
    refine seq_is hS (by decide) (runs_load rfl pl2 (hM3.at rfl)) (fun a1 hS => ?_)
    refine seq_is hS (by decide) (runs_buildK (pv := [(0, .int .i64 x.id), (1, .int .i64 x.val)]) (cells := #[.int .i64 x.id, .int .i64 x.val, .bool false, .bool false, .int .i64 0]) rfl (by kernel_rfl)) (fun a1 hS => ?_)
    refine seq_op hS (by decide) (runs_allocB (cs := [.int .i64 0, .int .i64 0, .bool false, .bool false, .int .i64 0]) zo28 rfl) (fun v7 w7 a1 hp hS => ?_)
    obtain ⟨rfl, hM7, hB7⟩ := hp
    have hLhM7 : w.heap.size ≤ w5.heap.size := hB.size
    have hNhM3hM7 : w1.heap.size ≠ w5.heap.size := by have := hM3.lt; omega
    have hNhM5hM7 : w3.heap.size ≠ w5.heap.size := by have := hM5.lt; omega
    have hB := hB.trans (hB7.mono hB.size)
    have hM1 := hM1.below hB7 hM1.lt
    have hM3 := hM3.below hB7 hM3.lt
    have hM5 := hM5.below hB7 hM5.lt
    have hE := hEb.kept hB
    refine seq_none hS (runs_storeB (cs := [.int .i64 x.id, .int .i64 x.val, .bool false, .bool false, .int .i64 0]) rfl rfl hM7 rfl rfl sz28) (fun v9 w9 a1 hp hS => ?_)
    have hQ9 := hM7
    obtain ⟨hM7, hU9⟩ := hp
    have hB := But.new hB hU9 (fun i e => by rw [e]; exact hLhM7) (Nat.le_refl _)
    have hM1 := hM1.but hU9 (has_ne hM1 hQ9 (by decide))
    have hM3 := hM3.but hU9 (hNhM3hM7)
    have hM5 := hM5.but hU9 (hNhM5hM7)
    have hE := hEb.kept hB
    refine nil_ok (qx_seq (reg_seq ?_))
    refine seq_is hS (by decide) (runs_fieldK fo28_4 rfl) (fun a1 hS => ?_)
    refine seq_is hS (by decide) (runs_load rfl pl2 (hM3.at rfl)) (fun a1 hS => ?_)
    refine seq_is hS (by decide) (runs_assign rfl) (fun a1 hS => ?_)
    refine nil_ok (qx_seq (qx_seq (reg_seq ?_)))
    refine seq_is hS (by decide) (runs_fieldK fo28_3 rfl) (fun a1 hS => ?_)
    by_cases hh : x.has = true
    · skip
      refine seq_is hS (by decide) (runs_load rfl pl4 ((hM3.at rfl).trans (by rw [hh]))) (fun a1 hS => ?_)
      refine seq_is hS (by decide) (runs_not (b := true) rfl) (fun a1 hS => ?_)
      refine nil_ok (wp_cond_false (hS.eval rfl) (wp_skip (qx_seq (qx_seq (reg_seq ?_)))))
      refine seq_is hS (by decide) (runs_fieldK fo26_0 rfl) (fun a1 hS => ?_)
      refine seq_is hS (by decide) (runs_load rfl pl9 (hM1.at rfl)) (fun a1 hS => ?_)
      refine nil_ok (qx_block (qx_seq (qx_seq (reg_seq ?_))))
      refine seq_is hS (by decide) (runs_eqStr (r := true) rfl rfl ((is1 _).trans (by rw [hk]; rfl))) (fun a1 hS => ?_)
      refine seq_is hS (by decide) (runs_assign rfl) (fun a1 hS => ?_)
      refine nil_ok (wp_cond_true (hS.eval rfl) (wp_skip (wp_cond_true (hS.eval rfl) (qx_seq (qx_seq (reg_seq ?_))))))
      refine seq_is hS (by decide) (runs_move rfl) (fun a1 hS => ?_)
      by_cases a0 : at_ = 0
      · skip
        refine seq_is hS (by decide) (runs_eql (r := true) rfl rfl (by simp [a0])) (fun a1 hS => ?_)
        have hBw := hB.size
        refine nil_ok (wp_cond_true (hS.eval rfl) (qx_seq (reg_guard (fun w' => Below w9.heap.size w9 w') [.inl (.agg #[.int .i64 x.id, .int .i64 x.val, .bool false, .bool false, .int .i64 0]), .inl (.slice A l.length c), .inl (.pointer (some ⟨w1.heap.size, 0 + 1, none⟩)), .inl (.int .i64 x.val), .inr (fun u w' => w'.ownsRow w.heap.size 48 3 u (sendTo l (allF x.val 0)).length (cellsE (sendTo l (allF x.val 0))))] 5 2 mixed rfl (by kernel_rfl) hS (Below.refl _ _) (fun _ h => h.drew) ?_)))
        refine hs_is rfl (fun w' hw => runs_loadRow rfl (hM7.below hw hM7.lt) Try.underlying28 rfl (by rw [sz28]; rfl)) ?_
        refine hs_is rfl (fun w' hw => runs_move rfl) ?_
        refine hs_is rfl (fun w' hw => runs_fieldK fo28_1 rfl) ?_
        refine hs_is rfl (fun w' hw => runs_load rfl pl2 ((hM3.below hw hM3.lt).at rfl)) ?_
        refine hs_pr rfl (fun _ _ _ h hb => owns_kept h hb) (fun w' hw hq => (runs_call (args := [.slice A l.length c, .int .i64 x.val, .int .i64 0]) goes39 rfl (rall_any l hsm _ x.val 0 w' (hE.kept hw) (by omega) (by omega) hlw)).mono (by rintro u w5 ⟨hb, h3⟩; exact ⟨owns_mono h3 (Nat.le_trans hBw hw.size), hw.trans (hb.mono hw.size), hb⟩)) (fun sr => ?_)
        refine (fun a11 w11 hS hB11 hq => ?_)
        have hSent := (hq (4, _) List.mem_cons_self)
        clear hq
        have hB := hB.trans (hB11.mono hB.size)
        have hM1 := hM1.below hB11 hM1.lt
        have hM3 := hM3.below hB11 hM3.lt
        have hM5 := hM5.below hB11 hM5.lt
        have hM7 := hM7.below hB11 hM7.lt
        have hE := hEb.kept hB
        refine tail_none 5 (by kernel_rfl) rfl hS (runs_storeB (cs := [.int .i64 x.id, .int .i64 x.val, .bool false, .bool false, .int .i64 0]) rfl rfl hM5 rfl rfl sz28) (fun v13 w13 a13 hp hS => ⟨trivial, ?_⟩)
        have hQ13 := hM5
        obtain ⟨hM5, hU13⟩ := hp
        have hB := But.new hB hU13 (fun i e => by rw [e]; exact hLhM5) (Nat.le_refl _)
        have hM1 := hM1.but hU13 (has_ne hM1 hQ13 (by decide))
        have hM3 := hM3.but hU13 (hNhM3hM5)
        have hM7 := hM7.but hU13 ((Ne.symm hNhM5hM7))
        have hE := hEb.kept hB
        have hSent := owns_but hSent hU13 (fun i old ho e => by subst e; exact has_ne ho hQ13 (by decide) rfl)
        refine tail_op 6 (by kernel_rfl) rfl hS (by decide) (runs_assign rfl) (fun v15 w15 a15 hp hS => ⟨trivial, ?_⟩)
        obtain ⟨rfl, rfl⟩ := hp
        refine wpAnyH_done (by kernel_rfl) ?_ _
        have e0 : (at_ == 0) = true := by rw [beq_iff_eq]; exact a0
        have hfin : runL (kindL tg.data.toList) (at_ == 0) (at_ == steps - 1) (x.id == src) x.has (if x.has = true then x.inn else 0) x.val l = ((x.val, false), sendTo l (allF x.val 0)) := by rw [hk, e0]; simp [runL, bestL, allF_0, -decide_eq_true_eq]
        rw [hfin]
        exact qx_ret (retRow2 (p := 8) (t := 9) (ty := 28) (by kernel_rfl) hS rfl rfl hM5 Try.underlying28 rfl (by rw [sz28]; rfl) ⟨_, rfl, hB, _, rfl, hSent⟩)
      · skip
        refine seq_is hS (by decide) (runs_eql (r := false) rfl rfl (by simp [a0])) (fun a1 hS => ?_)
        refine nil_ok (wp_cond_false (hS.eval rfl) (wp_skip (qx_seq (qx_seq (reg_seq ?_)))))
        refine seq_is hS (by decide) (runs_fieldK fo28_3 rfl) (fun a1 hS => ?_)
        refine seq_is hS (by decide) (runs_load rfl pl4 ((hM3.at rfl).trans (by rw [hh]))) (fun a1 hS => ?_)
        refine seq_is hS (by decide) (runs_move rfl) (fun a1 hS => ?_)
        refine seq_yis hS (by decide) rfl (by decide) rfl (runs_fieldK fo26_0 rfl) (fun a1 hS => ?_)
        refine seq_yis hS (by decide) rfl (by decide) rfl (runs_load rfl pl9 (hM1.at rfl)) (fun a1 hS => ?_)
        refine seq_yis hS (by decide) rfl (by decide) rfl (runs_eqStr (r := true) rfl rfl ((is1 _).trans (by rw [hk]; rfl))) (fun a1 hS => ?_)
        refine seq_yis hS (by decide) rfl (by decide) rfl (runs_move rfl) (fun a1 hS => ?_)
        refine seq_yis hS (by decide) rfl (by decide) rfl (runs_move rfl) (fun a1 hS => ?_)
        refine seq_yis hS (by decide) rfl (by decide) rfl (runs_fieldK fo28_1 rfl) (fun a1 hS => ?_)
        refine seq_yis hS (by decide) rfl (by decide) rfl (runs_load rfl pl2 (hM3.at rfl)) (fun a1 hS => ?_)
        by_cases g1 : x.inn > x.val
        · skip
          refine seq_yis hS (by decide) rfl (by decide) rfl (runs_gtr (r := true) rfl rfl (by rw [decide_eq_true_eq]; omega)) (fun a1 hS => ?_)
          refine seq_yis hS (by decide) rfl (by decide) rfl (runs_pick rfl rfl) (fun a1 hS => ?_)
          refine seq_yis hS (by decide) rfl (by decide) rfl (runs_move rfl) (fun a1 hS => ?_)
          refine seq_no hS (by decide) rfl (by decide) rfl rfl (fun a1 hS => ?_)
          refine seq_no hS (by decide) rfl (by decide) rfl rfl (fun a1 hS => ?_)
          refine seq_no hS (by decide) rfl (by decide) rfl rfl (fun a1 hS => ?_)
          refine seq_no hS (by decide) rfl (by decide) rfl rfl (fun a1 hS => ?_)
          refine seq_skip2 hS (by decide) rfl (by decide) rfl (fun a1 hS => ?_)
          refine seq_skip2 hS (by decide) rfl (by decide) rfl (fun a1 hS => ?_)
          refine seq_skip2 hS (by decide) rfl (by decide) rfl (fun a1 hS => ?_)
          refine seq_skip2 hS (by decide) rfl (by decide) rfl (fun a1 hS => ?_)
          refine seq_no hS (by decide) rfl (by decide) rfl rfl (fun a1 hS => ?_)
          refine seq_yis hS (by decide) rfl (by decide) rfl (runs_pick rfl rfl) (fun a1 hS => ?_)
          refine seq_is hS (by decide) (runs_pick rfl rfl) (fun a1 hS => ?_)
          refine nil_ok (wp_cond_true (hS.eval rfl) (qx_seq (reg_seq ?_)))
          refine seq_is hS (by decide) (runs_move rfl) (fun a1 hS => ?_)
          refine seq_is hS (by decide) (runs_fieldK fo28_1 rfl) (fun a1 hS => ?_)
          refine seq_none hS (runs_storeC rfl rfl rfl s1_2 hM7 rfl) (fun v16 w16 a1 hp hS => ?_)
          have hQ16 := hM7
          obtain ⟨hM7, hU16⟩ := hp
          have hB := But.new hB hU16 (fun i e => by rw [e]; exact hLhM7) (Nat.le_refl _)
          have hM1 := hM1.but hU16 (has_ne hM1 hQ16 (by decide))
          have hM3 := hM3.but hU16 (hNhM3hM7)
          have hM5 := hM5.but hU16 (hNhM5hM7)
          have hE := hEb.kept hB
          have hBw := hB.size
          refine nil_ok (qx_seq (reg_guard (fun w' => Below w16.heap.size w16 w') [.inl (.agg #[.int .i64 x.id, .int .i64 x.inn, .bool false, .bool false, .int .i64 0]), .inl (.slice A l.length c), .inl (.int .i64 x.inn), .inr (fun u w' => w'.ownsRow w.heap.size 48 3 u (sendTo l (allF x.inn 0)).length (cellsE (sendTo l (allF x.inn 0))))] 4 2 mixed rfl (by kernel_rfl) hS (Below.refl _ _) (fun _ h => h.drew) ?_))
          refine hs_is rfl (fun w' hw => runs_loadRow rfl (hM7.below hw hM7.lt) Try.underlying28 rfl (by rw [sz28]; rfl)) ?_
          refine hs_is rfl (fun w' hw => runs_move rfl) ?_
          refine hs_is rfl (fun w' hw => runs_move rfl) ?_
          refine hs_pr rfl (fun _ _ _ h hb => owns_kept h hb) (fun w' hw hq => (runs_call (args := [.slice A l.length c, .int .i64 x.inn, .int .i64 0]) goes39 rfl (rall_any l hsm _ x.inn 0 w' (hE.kept hw) (by omega) (by omega) hlw)).mono (by rintro u w5 ⟨hb, h3⟩; exact ⟨owns_mono h3 (Nat.le_trans hBw hw.size), hw.trans (hb.mono hw.size), hb⟩)) (fun sr => ?_)
          refine (fun a18 w18 hS hB18 hq => ?_)
          have hSent := (hq (3, _) List.mem_cons_self)
          clear hq
          have hB := hB.trans (hB18.mono hB.size)
          have hM1 := hM1.below hB18 hM1.lt
          have hM3 := hM3.below hB18 hM3.lt
          have hM5 := hM5.below hB18 hM5.lt
          have hM7 := hM7.below hB18 hM7.lt
          have hE := hEb.kept hB
          refine tail_none 4 (by kernel_rfl) rfl hS (runs_storeB (cs := [.int .i64 x.id, .int .i64 x.inn, .bool false, .bool false, .int .i64 0]) rfl rfl hM5 rfl rfl sz28) (fun v20 w20 a20 hp hS => ⟨trivial, ?_⟩)
          have hQ20 := hM5
          obtain ⟨hM5, hU20⟩ := hp
          have hB := But.new hB hU20 (fun i e => by rw [e]; exact hLhM5) (Nat.le_refl _)
          have hM1 := hM1.but hU20 (has_ne hM1 hQ20 (by decide))
          have hM3 := hM3.but hU20 (hNhM3hM5)
          have hM7 := hM7.but hU20 ((Ne.symm hNhM5hM7))
          have hE := hEb.kept hB
          have hSent := owns_but hSent hU20 (fun i old ho e => by subst e; exact has_ne ho hQ20 (by decide) rfl)
          refine tail_op 5 (by kernel_rfl) rfl hS (by decide) (runs_assign rfl) (fun v22 w22 a22 hp hS => ⟨trivial, ?_⟩)
          obtain ⟨rfl, rfl⟩ := hp
          refine wpAnyH_done (by kernel_rfl) ?_ _
          have e0 : (at_ == 0) = false := by rw [beq_eq_false_iff_ne]; exact a0
          have hfin : runL (kindL tg.data.toList) (at_ == 0) (at_ == steps - 1) (x.id == src) x.has (if x.has = true then x.inn else 0) x.val l = ((x.inn, false), sendTo l (allF x.inn 0)) := by rw [hk, e0]; simp [runL, bestL, allF_0, -decide_eq_true_eq, hh, g1]
          rw [hfin]
          exact qx_ret (retRow2 (p := 8) (t := 9) (ty := 28) (by kernel_rfl) hS rfl rfl hM5 Try.underlying28 rfl (by rw [sz28]; rfl) ⟨_, rfl, hB, _, rfl, hSent⟩)
        · skip
          refine seq_yis hS (by decide) rfl (by decide) rfl (runs_gtr (r := false) rfl rfl (by rw [decide_eq_false_iff_not]; omega)) (fun a1 hS => ?_)
          refine seq_yis hS (by decide) rfl (by decide) rfl (runs_pick rfl rfl) (fun a1 hS => ?_)
          refine seq_yis hS (by decide) rfl (by decide) rfl (runs_move rfl) (fun a1 hS => ?_)
          refine seq_yis hS (by decide) rfl (by decide) rfl (runs_fieldK fo26_0 rfl) (fun a1 hS => ?_)
          refine seq_yis hS (by decide) rfl (by decide) rfl (runs_load rfl pl9 (hM1.at rfl)) (fun a1 hS => ?_)
          refine seq_yis hS (by decide) rfl (by decide) rfl (runs_eqStr (r := false) rfl rfl ((is2 _).trans (by rw [hk]; rfl))) (fun a1 hS => ?_)
          refine seq_yis hS (by decide) rfl (by decide) rfl (runs_move rfl) (fun a1 hS => ?_)
          refine seq_no hS (by decide) rfl (by decide) rfl rfl (fun a1 hS => ?_)
          refine seq_no hS (by decide) rfl (by decide) rfl rfl (fun a1 hS => ?_)
          refine seq_no hS (by decide) rfl (by decide) rfl rfl (fun a1 hS => ?_)
          refine seq_no hS (by decide) rfl (by decide) rfl rfl (fun a1 hS => ?_)
          refine seq_yis hS (by decide) rfl (by decide) rfl (runs_pick rfl rfl) (fun a1 hS => ?_)
          refine seq_yis hS (by decide) rfl (by decide) rfl (runs_pick rfl rfl) (fun a1 hS => ?_)
          refine seq_is hS (by decide) (runs_pick rfl rfl) (fun a1 hS => ?_)
          refine nil_ok (wp_cond_false (hS.eval rfl) (wp_skip (qx_seq (reg_seq ?_))))
          refine seq_is hS (by decide) (runs_loadRow rfl hM7 Try.underlying28 rfl (by rw [sz28]; rfl)) (fun a1 hS => ?_)
          refine seq_none hS (runs_storeB (cs := [.int .i64 x.id, .int .i64 x.val, .bool false, .bool false, .int .i64 0]) rfl rfl hM5 rfl rfl sz28) (fun v23 w23 a1 hp hS => ?_)
          have hQ23 := hM5
          obtain ⟨hM5, hU23⟩ := hp
          have hB := But.new hB hU23 (fun i e => by rw [e]; exact hLhM5) (Nat.le_refl _)
          have hM1 := hM1.but hU23 (has_ne hM1 hQ23 (by decide))
          have hM3 := hM3.but hU23 (hNhM3hM5)
          have hM7 := hM7.but hU23 ((Ne.symm hNhM5hM7))
          have hE := hEb.kept hB
          refine seq_is hS (by decide) (runs_assign rfl) (fun a1 hS => ?_)
          have e0 : (at_ == 0) = false := by rw [beq_eq_false_iff_ne]; exact a0
          have hfin : runL (kindL tg.data.toList) (at_ == 0) (at_ == steps - 1) (x.id == src) x.has (if x.has = true then x.inn else 0) x.val l = ((x.val, false), []) := by rw [hk, e0]; simp [runL, bestL, -decide_eq_true_eq, hh, g1]
          rw [hfin]
          exact nil_ok (qx_ret (retRow2 (p := 8) (t := 9) (ty := 28) (by kernel_rfl) hS rfl rfl hM5 Try.underlying28 rfl (by rw [sz28]; rfl) ⟨_, rfl, hB, _, rfl, ⟨rfl, .inl ⟨rfl, rfl⟩⟩⟩))
    · skip
      refine seq_is hS (by decide) (runs_load rfl pl4 ((hM3.at rfl).trans (by rw [Bool.eq_false_iff.2 hh]))) (fun a1 hS => ?_)
      refine seq_is hS (by decide) (runs_not (b := false) rfl) (fun a1 hS => ?_)
      refine nil_ok (wp_cond_true (hS.eval rfl) (reg_seq ?_))
      refine seq_is hS (by decide) (runs_assign rfl) (fun a1 hS => ?_)
      refine nil_ok (qx_seq (qx_seq (reg_seq ?_)))
      refine seq_is hS (by decide) (runs_fieldK fo26_0 rfl) (fun a1 hS => ?_)
      refine seq_is hS (by decide) (runs_load rfl pl9 (hM1.at rfl)) (fun a1 hS => ?_)
      refine nil_ok (qx_block (qx_seq (qx_seq (reg_seq ?_))))
      refine seq_is hS (by decide) (runs_eqStr (r := true) rfl rfl ((is1 _).trans (by rw [hk]; rfl))) (fun a1 hS => ?_)
      refine seq_is hS (by decide) (runs_assign rfl) (fun a1 hS => ?_)
      refine nil_ok (wp_cond_true (hS.eval rfl) (wp_skip (wp_cond_true (hS.eval rfl) (qx_seq (qx_seq (reg_seq ?_))))))
      refine seq_is hS (by decide) (runs_move rfl) (fun a1 hS => ?_)
      by_cases a0 : at_ = 0
      · skip
        refine seq_is hS (by decide) (runs_eql (r := true) rfl rfl (by simp [a0])) (fun a1 hS => ?_)
        have hBw := hB.size
        refine nil_ok (wp_cond_true (hS.eval rfl) (qx_seq (reg_guard (fun w' => Below w9.heap.size w9 w') [.inl (.agg #[.int .i64 x.id, .int .i64 x.val, .bool false, .bool false, .int .i64 0]), .inl (.slice A l.length c), .inl (.pointer (some ⟨w1.heap.size, 0 + 1, none⟩)), .inl (.int .i64 x.val), .inr (fun u w' => w'.ownsRow w.heap.size 48 3 u (sendTo l (allF x.val 0)).length (cellsE (sendTo l (allF x.val 0))))] 5 2 mixed rfl (by kernel_rfl) hS (Below.refl _ _) (fun _ h => h.drew) ?_)))
        refine hs_is rfl (fun w' hw => runs_loadRow rfl (hM7.below hw hM7.lt) Try.underlying28 rfl (by rw [sz28]; rfl)) ?_
        refine hs_is rfl (fun w' hw => runs_move rfl) ?_
        refine hs_is rfl (fun w' hw => runs_fieldK fo28_1 rfl) ?_
        refine hs_is rfl (fun w' hw => runs_load rfl pl2 ((hM3.below hw hM3.lt).at rfl)) ?_
        refine hs_pr rfl (fun _ _ _ h hb => owns_kept h hb) (fun w' hw hq => (runs_call (args := [.slice A l.length c, .int .i64 x.val, .int .i64 0]) goes39 rfl (rall_any l hsm _ x.val 0 w' (hE.kept hw) (by omega) (by omega) hlw)).mono (by rintro u w5 ⟨hb, h3⟩; exact ⟨owns_mono h3 (Nat.le_trans hBw hw.size), hw.trans (hb.mono hw.size), hb⟩)) (fun sr => ?_)
        refine (fun a25 w25 hS hB25 hq => ?_)
        have hSent := (hq (4, _) List.mem_cons_self)
        clear hq
        have hB := hB.trans (hB25.mono hB.size)
        have hM1 := hM1.below hB25 hM1.lt
        have hM3 := hM3.below hB25 hM3.lt
        have hM5 := hM5.below hB25 hM5.lt
        have hM7 := hM7.below hB25 hM7.lt
        have hE := hEb.kept hB
        refine tail_none 5 (by kernel_rfl) rfl hS (runs_storeB (cs := [.int .i64 x.id, .int .i64 x.val, .bool false, .bool false, .int .i64 0]) rfl rfl hM5 rfl rfl sz28) (fun v27 w27 a27 hp hS => ⟨trivial, ?_⟩)
        have hQ27 := hM5
        obtain ⟨hM5, hU27⟩ := hp
        have hB := But.new hB hU27 (fun i e => by rw [e]; exact hLhM5) (Nat.le_refl _)
        have hM1 := hM1.but hU27 (has_ne hM1 hQ27 (by decide))
        have hM3 := hM3.but hU27 (hNhM3hM5)
        have hM7 := hM7.but hU27 ((Ne.symm hNhM5hM7))
        have hE := hEb.kept hB
        have hSent := owns_but hSent hU27 (fun i old ho e => by subst e; exact has_ne ho hQ27 (by decide) rfl)
        refine tail_op 6 (by kernel_rfl) rfl hS (by decide) (runs_assign rfl) (fun v29 w29 a29 hp hS => ⟨trivial, ?_⟩)
        obtain ⟨rfl, rfl⟩ := hp
        refine wpAnyH_done (by kernel_rfl) ?_ _
        have e0 : (at_ == 0) = true := by rw [beq_iff_eq]; exact a0
        have hfin : runL (kindL tg.data.toList) (at_ == 0) (at_ == steps - 1) (x.id == src) x.has (if x.has = true then x.inn else 0) x.val l = ((x.val, false), sendTo l (allF x.val 0)) := by rw [hk, e0]; simp [runL, bestL, allF_0, -decide_eq_true_eq]
        rw [hfin]
        exact qx_ret (retRow2 (p := 8) (t := 9) (ty := 28) (by kernel_rfl) hS rfl rfl hM5 Try.underlying28 rfl (by rw [sz28]; rfl) ⟨_, rfl, hB, _, rfl, hSent⟩)
      · skip
        refine seq_is hS (by decide) (runs_eql (r := false) rfl rfl (by simp [a0])) (fun a1 hS => ?_)
        refine nil_ok (wp_cond_false (hS.eval rfl) (wp_skip (qx_seq (qx_seq (reg_seq ?_)))))
        refine seq_is hS (by decide) (runs_fieldK fo28_3 rfl) (fun a1 hS => ?_)
        refine seq_is hS (by decide) (runs_load rfl pl4 ((hM3.at rfl).trans (by rw [Bool.eq_false_iff.2 hh]))) (fun a1 hS => ?_)
        refine seq_is hS (by decide) (runs_move rfl) (fun a1 hS => ?_)
        refine seq_no hS (by decide) rfl (by decide) rfl rfl (fun a1 hS => ?_)
        refine seq_no hS (by decide) rfl (by decide) rfl rfl (fun a1 hS => ?_)
        refine seq_no hS (by decide) rfl (by decide) rfl rfl (fun a1 hS => ?_)
        refine seq_no hS (by decide) rfl (by decide) rfl rfl (fun a1 hS => ?_)
        refine seq_skip2 hS (by decide) rfl (by decide) rfl (fun a1 hS => ?_)
        refine seq_skip2 hS (by decide) rfl (by decide) rfl (fun a1 hS => ?_)
        refine seq_skip2 hS (by decide) rfl (by decide) rfl (fun a1 hS => ?_)
        refine seq_skip2 hS (by decide) rfl (by decide) rfl (fun a1 hS => ?_)
        refine seq_no hS (by decide) rfl (by decide) rfl rfl (fun a1 hS => ?_)
        refine seq_no hS (by decide) rfl (by decide) rfl rfl (fun a1 hS => ?_)
        refine seq_skip2 hS (by decide) rfl (by decide) rfl (fun a1 hS => ?_)
        refine seq_skip2 hS (by decide) rfl (by decide) rfl (fun a1 hS => ?_)
        refine seq_skip2 hS (by decide) rfl (by decide) rfl (fun a1 hS => ?_)
        refine seq_skip2 hS (by decide) rfl (by decide) rfl (fun a1 hS => ?_)
        refine seq_skip2 hS (by decide) rfl (by decide) rfl (fun a1 hS => ?_)
        refine seq_skip2 hS (by decide) rfl (by decide) rfl (fun a1 hS => ?_)
        refine seq_skip2 hS (by decide) rfl (by decide) rfl (fun a1 hS => ?_)
        refine seq_skip2 hS (by decide) rfl (by decide) rfl (fun a1 hS => ?_)
        refine seq_skip2 hS (by decide) rfl (by decide) rfl (fun a1 hS => ?_)
        refine seq_no hS (by decide) rfl (by decide) rfl rfl (fun a1 hS => ?_)
        refine seq_is hS (by decide) (runs_pick rfl rfl) (fun a1 hS => ?_)
        refine nil_ok (wp_cond_false (hS.eval rfl) (wp_skip (qx_seq (reg_seq ?_))))
        refine seq_is hS (by decide) (runs_loadRow rfl hM7 Try.underlying28 rfl (by rw [sz28]; rfl)) (fun a1 hS => ?_)
        refine seq_none hS (runs_storeB (cs := [.int .i64 x.id, .int .i64 x.val, .bool false, .bool false, .int .i64 0]) rfl rfl hM5 rfl rfl sz28) (fun v30 w30 a1 hp hS => ?_)
        have hQ30 := hM5
        obtain ⟨hM5, hU30⟩ := hp
        have hB := But.new hB hU30 (fun i e => by rw [e]; exact hLhM5) (Nat.le_refl _)
        have hM1 := hM1.but hU30 (has_ne hM1 hQ30 (by decide))
        have hM3 := hM3.but hU30 (hNhM3hM5)
        have hM7 := hM7.but hU30 ((Ne.symm hNhM5hM7))
        have hE := hEb.kept hB
        refine seq_is hS (by decide) (runs_assign rfl) (fun a1 hS => ?_)
        have e0 : (at_ == 0) = false := by rw [beq_eq_false_iff_ne]; exact a0
        have hfin : runL (kindL tg.data.toList) (at_ == 0) (at_ == steps - 1) (x.id == src) x.has (if x.has = true then x.inn else 0) x.val l = ((x.val, false), []) := by rw [hk, e0]; simp [runL, bestL, -decide_eq_true_eq, hh]
        rw [hfin]
        exact nil_ok (qx_ret (retRow2 (p := 8) (t := 9) (ty := 28) (by kernel_rfl) hS rfl rfl hM5 Try.underlying28 rfl (by rw [sz28]; rfl) ⟨_, rfl, hB, _, rfl, ⟨rfl, .inl ⟨rfl, rfl⟩⟩⟩))
  · skip
    refine calls_qx (args := [.agg (jc tg src steps).toArray, .int .i64 at_, .agg (vc x).toArray, .slice A l.length c]) 163 Try.func30 rfl (by kernel_rfl) (by simp) (fun a hS => ?_)
    have hB := Below.refl w.heap.size w
    have hEb := hE
    refine qx_seq (reg_seq ?_)
    refine seq_op hS (by decide) (runs_boxB (cs := jc tg src steps) rfl rfl) (fun v1 w1 a1 hp hS => ?_)
    obtain ⟨rfl, hM1, hB1⟩ := hp
    have hB := hB.trans (hB1.mono hB.size)
    have hE := hEb.kept hB
    refine seq_op hS (by decide) (runs_boxB (cs := vc x) rfl rfl) (fun v3 w3 a1 hp hS => ?_)
    obtain ⟨rfl, hM3, hB3⟩ := hp
    have hB := hB.trans (hB3.mono hB.size)
    have hM1 := hM1.below hB3 hM1.lt
    have hE := hEb.kept hB
    refine seq_op hS (by decide) (runs_allocB (cs := [.int .i64 0, .int .i64 0, .bool false, .bool false, .int .i64 0]) zo28 rfl) (fun v5 w5 a1 hp hS => ?_)
    obtain ⟨rfl, hM5, hB5⟩ := hp
    have hLhM5 : w.heap.size ≤ w3.heap.size := hB.size
    have hNhM3hM5 : w1.heap.size ≠ w3.heap.size := by have := hM3.lt; omega
    have hB := hB.trans (hB5.mono hB.size)
    have hM1 := hM1.below hB5 hM1.lt
    have hM3 := hM3.below hB5 hM3.lt
    have hE := hEb.kept hB
    refine seq_is hS (by decide) (runs_assign rfl) (fun a1 hS => ?_)
    refine nil_ok (qx_seq (reg_seq ?_))
    refine seq_is hS (by decide) (runs_fieldK fo28_0 rfl) (fun a1 hS => ?_)
    refine seq_is hS (by decide) (runs_load rfl pl3 (hM3.at rfl)) (fun a1 hS => ?_)
    refine seq_is hS (by decide) (runs_fieldK fo28_1 rfl) (fun a1 hS => ?_)
    refine seq_is hS (by decide) (runs_load rfl pl2 (hM3.at rfl)) (fun a1 hS => ?_)
    refine seq_is hS (by decide) (runs_buildK (pv := [(0, .int .i64 x.id), (1, .int .i64 x.val)]) (cells := #[.int .i64 x.id, .int .i64 x.val, .bool false, .bool false, .int .i64 0]) rfl (by kernel_rfl)) (fun a1 hS => ?_)
    refine seq_op hS (by decide) (runs_allocB (cs := [.int .i64 0, .int .i64 0, .bool false, .bool false, .int .i64 0]) zo28 rfl) (fun v7 w7 a1 hp hS => ?_)
    obtain ⟨rfl, hM7, hB7⟩ := hp
    have hLhM7 : w.heap.size ≤ w5.heap.size := hB.size
    have hNhM3hM7 : w1.heap.size ≠ w5.heap.size := by have := hM3.lt; omega
    have hNhM5hM7 : w3.heap.size ≠ w5.heap.size := by have := hM5.lt; omega
    have hB := hB.trans (hB7.mono hB.size)
    have hM1 := hM1.below hB7 hM1.lt
    have hM3 := hM3.below hB7 hM3.lt
    have hM5 := hM5.below hB7 hM5.lt
    have hE := hEb.kept hB
    refine seq_none hS (runs_storeB (cs := [.int .i64 x.id, .int .i64 x.val, .bool false, .bool false, .int .i64 0]) rfl rfl hM7 rfl rfl sz28) (fun v9 w9 a1 hp hS => ?_)
    have hQ9 := hM7
    obtain ⟨hM7, hU9⟩ := hp
    have hB := But.new hB hU9 (fun i e => by rw [e]; exact hLhM7) (Nat.le_refl _)
    have hM1 := hM1.but hU9 (has_ne hM1 hQ9 (by decide))
    have hM3 := hM3.but hU9 (hNhM3hM7)
    have hM5 := hM5.but hU9 (hNhM5hM7)
    have hE := hEb.kept hB
    refine nil_ok (qx_seq (reg_seq ?_))
    refine seq_is hS (by decide) (runs_fieldK fo28_4 rfl) (fun a1 hS => ?_)
    refine seq_is hS (by decide) (runs_load rfl pl2 (hM3.at rfl)) (fun a1 hS => ?_)
    refine seq_is hS (by decide) (runs_assign rfl) (fun a1 hS => ?_)
    refine nil_ok (qx_seq (qx_seq (reg_seq ?_)))
    refine seq_is hS (by decide) (runs_fieldK fo28_3 rfl) (fun a1 hS => ?_)
    by_cases hh : x.has = true
    · skip
      refine seq_is hS (by decide) (runs_load rfl pl4 ((hM3.at rfl).trans (by rw [hh]))) (fun a1 hS => ?_)
      refine seq_is hS (by decide) (runs_not (b := true) rfl) (fun a1 hS => ?_)
      refine nil_ok (wp_cond_false (hS.eval rfl) (wp_skip (qx_seq (qx_seq (reg_seq ?_)))))
      refine seq_is hS (by decide) (runs_fieldK fo26_0 rfl) (fun a1 hS => ?_)
      refine seq_is hS (by decide) (runs_load rfl pl9 (hM1.at rfl)) (fun a1 hS => ?_)
      refine nil_ok (qx_block (qx_seq (qx_seq (reg_seq ?_))))
      refine seq_is hS (by decide) (runs_eqStr (r := false) rfl rfl ((is1 _).trans (by rw [hk]; rfl))) (fun a1 hS => ?_)
      refine seq_is hS (by decide) (runs_assign rfl) (fun a1 hS => ?_)
      refine nil_ok (wp_cond_false (hS.eval rfl) (reg_seq ?_))
      refine seq_is hS (by decide) (runs_eqStr (r := true) rfl rfl ((is2 _).trans (by rw [hk]; rfl))) (fun a1 hS => ?_)
      refine seq_is hS (by decide) (runs_assign rfl) (fun a1 hS => ?_)
      refine nil_ok (wp_cond_true (hS.eval rfl) (qx_seq (qx_seq (reg_seq ?_))))
      refine seq_is hS (by decide) (runs_move rfl) (fun a1 hS => ?_)
      by_cases a0 : at_ = 0
      · skip
        refine seq_is hS (by decide) (runs_eql (r := true) rfl rfl (by simp [a0])) (fun a1 hS => ?_)
        have hBw := hB.size
        refine nil_ok (wp_cond_true (hS.eval rfl) (qx_seq (reg_guard (fun w' => Below w9.heap.size w9 w') [.inl (.agg #[.int .i64 x.id, .int .i64 x.val, .bool false, .bool false, .int .i64 0]), .inl (.slice A l.length c), .inl (.pointer (some ⟨w1.heap.size, 0 + 1, none⟩)), .inl (.int .i64 x.val), .inr (fun u w' => w'.ownsRow w.heap.size 48 3 u (sendTo l (allF x.val 0)).length (cellsE (sendTo l (allF x.val 0))))] 5 2 mixed rfl (by kernel_rfl) hS (Below.refl _ _) (fun _ h => h.drew) ?_)))
        refine hs_is rfl (fun w' hw => runs_loadRow rfl (hM7.below hw hM7.lt) Try.underlying28 rfl (by rw [sz28]; rfl)) ?_
        refine hs_is rfl (fun w' hw => runs_move rfl) ?_
        refine hs_is rfl (fun w' hw => runs_fieldK fo28_1 rfl) ?_
        refine hs_is rfl (fun w' hw => runs_load rfl pl2 ((hM3.below hw hM3.lt).at rfl)) ?_
        refine hs_pr rfl (fun _ _ _ h hb => owns_kept h hb) (fun w' hw hq => (runs_call (args := [.slice A l.length c, .int .i64 x.val, .int .i64 0]) goes39 rfl (rall_any l hsm _ x.val 0 w' (hE.kept hw) (by omega) (by omega) hlw)).mono (by rintro u w5 ⟨hb, h3⟩; exact ⟨owns_mono h3 (Nat.le_trans hBw hw.size), hw.trans (hb.mono hw.size), hb⟩)) (fun sr => ?_)
        refine (fun a11 w11 hS hB11 hq => ?_)
        have hSent := (hq (4, _) List.mem_cons_self)
        clear hq
        have hB := hB.trans (hB11.mono hB.size)
        have hM1 := hM1.below hB11 hM1.lt
        have hM3 := hM3.below hB11 hM3.lt
        have hM5 := hM5.below hB11 hM5.lt
        have hM7 := hM7.below hB11 hM7.lt
        have hE := hEb.kept hB
        refine tail_none 5 (by kernel_rfl) rfl hS (runs_storeB (cs := [.int .i64 x.id, .int .i64 x.val, .bool false, .bool false, .int .i64 0]) rfl rfl hM5 rfl rfl sz28) (fun v13 w13 a13 hp hS => ⟨trivial, ?_⟩)
        have hQ13 := hM5
        obtain ⟨hM5, hU13⟩ := hp
        have hB := But.new hB hU13 (fun i e => by rw [e]; exact hLhM5) (Nat.le_refl _)
        have hM1 := hM1.but hU13 (has_ne hM1 hQ13 (by decide))
        have hM3 := hM3.but hU13 (hNhM3hM5)
        have hM7 := hM7.but hU13 ((Ne.symm hNhM5hM7))
        have hE := hEb.kept hB
        have hSent := owns_but hSent hU13 (fun i old ho e => by subst e; exact has_ne ho hQ13 (by decide) rfl)
        refine tail_op 6 (by kernel_rfl) rfl hS (by decide) (runs_assign rfl) (fun v15 w15 a15 hp hS => ⟨trivial, ?_⟩)
        obtain ⟨rfl, rfl⟩ := hp
        refine wpAnyH_done (by kernel_rfl) ?_ _
        have e0 : (at_ == 0) = true := by rw [beq_iff_eq]; exact a0
        have hfin : runL (kindL tg.data.toList) (at_ == 0) (at_ == steps - 1) (x.id == src) x.has (if x.has = true then x.inn else 0) x.val l = ((x.val, false), sendTo l (allF x.val 0)) := by rw [hk, e0]; simp [runL, bestL, allF_0, -decide_eq_true_eq]
        rw [hfin]
        exact qx_ret (retRow2 (p := 8) (t := 9) (ty := 28) (by kernel_rfl) hS rfl rfl hM5 Try.underlying28 rfl (by rw [sz28]; rfl) ⟨_, rfl, hB, _, rfl, hSent⟩)
      · skip
        refine seq_is hS (by decide) (runs_eql (r := false) rfl rfl (by simp [a0])) (fun a1 hS => ?_)
        refine nil_ok (wp_cond_false (hS.eval rfl) (wp_skip (qx_seq (qx_seq (reg_seq ?_)))))
        refine seq_is hS (by decide) (runs_fieldK fo28_3 rfl) (fun a1 hS => ?_)
        refine seq_is hS (by decide) (runs_load rfl pl4 ((hM3.at rfl).trans (by rw [hh]))) (fun a1 hS => ?_)
        refine seq_is hS (by decide) (runs_move rfl) (fun a1 hS => ?_)
        refine seq_yis hS (by decide) rfl (by decide) rfl (runs_fieldK fo26_0 rfl) (fun a1 hS => ?_)
        refine seq_yis hS (by decide) rfl (by decide) rfl (runs_load rfl pl9 (hM1.at rfl)) (fun a1 hS => ?_)
        refine seq_yis hS (by decide) rfl (by decide) rfl (runs_eqStr (r := false) rfl rfl ((is1 _).trans (by rw [hk]; rfl))) (fun a1 hS => ?_)
        refine seq_yis hS (by decide) rfl (by decide) rfl (runs_move rfl) (fun a1 hS => ?_)
        refine seq_no hS (by decide) rfl (by decide) rfl rfl (fun a1 hS => ?_)
        refine seq_no hS (by decide) rfl (by decide) rfl rfl (fun a1 hS => ?_)
        refine seq_no hS (by decide) rfl (by decide) rfl rfl (fun a1 hS => ?_)
        refine seq_no hS (by decide) rfl (by decide) rfl rfl (fun a1 hS => ?_)
        refine seq_yis hS (by decide) rfl (by decide) rfl (runs_pick rfl rfl) (fun a1 hS => ?_)
        refine seq_yis hS (by decide) rfl (by decide) rfl (runs_move rfl) (fun a1 hS => ?_)
        refine seq_yis hS (by decide) rfl (by decide) rfl (runs_fieldK fo26_0 rfl) (fun a1 hS => ?_)
        refine seq_yis hS (by decide) rfl (by decide) rfl (runs_load rfl pl9 (hM1.at rfl)) (fun a1 hS => ?_)
        refine seq_yis hS (by decide) rfl (by decide) rfl (runs_eqStr (r := true) rfl rfl ((is2 _).trans (by rw [hk]; rfl))) (fun a1 hS => ?_)
        refine seq_yis hS (by decide) rfl (by decide) rfl (runs_move rfl) (fun a1 hS => ?_)
        refine seq_yis hS (by decide) rfl (by decide) rfl (runs_move rfl) (fun a1 hS => ?_)
        refine seq_yis hS (by decide) rfl (by decide) rfl (runs_fieldK fo28_1 rfl) (fun a1 hS => ?_)
        refine seq_yis hS (by decide) rfl (by decide) rfl (runs_load rfl pl2 (hM3.at rfl)) (fun a1 hS => ?_)
        by_cases g1 : x.inn < x.val
        · skip
          refine seq_yis hS (by decide) rfl (by decide) rfl (runs_lss (r := true) rfl rfl (by rw [decide_eq_true_eq]; omega)) (fun a1 hS => ?_)
          refine seq_yis hS (by decide) rfl (by decide) rfl (runs_pick rfl rfl) (fun a1 hS => ?_)
          refine seq_yis hS (by decide) rfl (by decide) rfl (runs_pick rfl rfl) (fun a1 hS => ?_)
          refine seq_is hS (by decide) (runs_pick rfl rfl) (fun a1 hS => ?_)
          refine nil_ok (wp_cond_true (hS.eval rfl) (qx_seq (reg_seq ?_)))
          refine seq_is hS (by decide) (runs_move rfl) (fun a1 hS => ?_)
          refine seq_is hS (by decide) (runs_fieldK fo28_1 rfl) (fun a1 hS => ?_)
          refine seq_none hS (runs_storeC rfl rfl rfl s1_2 hM7 rfl) (fun v16 w16 a1 hp hS => ?_)
          have hQ16 := hM7
          obtain ⟨hM7, hU16⟩ := hp
          have hB := But.new hB hU16 (fun i e => by rw [e]; exact hLhM7) (Nat.le_refl _)
          have hM1 := hM1.but hU16 (has_ne hM1 hQ16 (by decide))
          have hM3 := hM3.but hU16 (hNhM3hM7)
          have hM5 := hM5.but hU16 (hNhM5hM7)
          have hE := hEb.kept hB
          have hBw := hB.size
          refine nil_ok (qx_seq (reg_guard (fun w' => Below w16.heap.size w16 w') [.inl (.agg #[.int .i64 x.id, .int .i64 x.inn, .bool false, .bool false, .int .i64 0]), .inl (.slice A l.length c), .inl (.int .i64 x.inn), .inr (fun u w' => w'.ownsRow w.heap.size 48 3 u (sendTo l (allF x.inn 0)).length (cellsE (sendTo l (allF x.inn 0))))] 4 2 mixed rfl (by kernel_rfl) hS (Below.refl _ _) (fun _ h => h.drew) ?_))
          refine hs_is rfl (fun w' hw => runs_loadRow rfl (hM7.below hw hM7.lt) Try.underlying28 rfl (by rw [sz28]; rfl)) ?_
          refine hs_is rfl (fun w' hw => runs_move rfl) ?_
          refine hs_is rfl (fun w' hw => runs_move rfl) ?_
          refine hs_pr rfl (fun _ _ _ h hb => owns_kept h hb) (fun w' hw hq => (runs_call (args := [.slice A l.length c, .int .i64 x.inn, .int .i64 0]) goes39 rfl (rall_any l hsm _ x.inn 0 w' (hE.kept hw) (by omega) (by omega) hlw)).mono (by rintro u w5 ⟨hb, h3⟩; exact ⟨owns_mono h3 (Nat.le_trans hBw hw.size), hw.trans (hb.mono hw.size), hb⟩)) (fun sr => ?_)
          refine (fun a18 w18 hS hB18 hq => ?_)
          have hSent := (hq (3, _) List.mem_cons_self)
          clear hq
          have hB := hB.trans (hB18.mono hB.size)
          have hM1 := hM1.below hB18 hM1.lt
          have hM3 := hM3.below hB18 hM3.lt
          have hM5 := hM5.below hB18 hM5.lt
          have hM7 := hM7.below hB18 hM7.lt
          have hE := hEb.kept hB
          refine tail_none 4 (by kernel_rfl) rfl hS (runs_storeB (cs := [.int .i64 x.id, .int .i64 x.inn, .bool false, .bool false, .int .i64 0]) rfl rfl hM5 rfl rfl sz28) (fun v20 w20 a20 hp hS => ⟨trivial, ?_⟩)
          have hQ20 := hM5
          obtain ⟨hM5, hU20⟩ := hp
          have hB := But.new hB hU20 (fun i e => by rw [e]; exact hLhM5) (Nat.le_refl _)
          have hM1 := hM1.but hU20 (has_ne hM1 hQ20 (by decide))
          have hM3 := hM3.but hU20 (hNhM3hM5)
          have hM7 := hM7.but hU20 ((Ne.symm hNhM5hM7))
          have hE := hEb.kept hB
          have hSent := owns_but hSent hU20 (fun i old ho e => by subst e; exact has_ne ho hQ20 (by decide) rfl)
          refine tail_op 5 (by kernel_rfl) rfl hS (by decide) (runs_assign rfl) (fun v22 w22 a22 hp hS => ⟨trivial, ?_⟩)
          obtain ⟨rfl, rfl⟩ := hp
          refine wpAnyH_done (by kernel_rfl) ?_ _
          have e0 : (at_ == 0) = false := by rw [beq_eq_false_iff_ne]; exact a0
          have hfin : runL (kindL tg.data.toList) (at_ == 0) (at_ == steps - 1) (x.id == src) x.has (if x.has = true then x.inn else 0) x.val l = ((x.inn, false), sendTo l (allF x.inn 0)) := by rw [hk, e0]; simp [runL, bestL, allF_0, -decide_eq_true_eq, hh, g1]
          rw [hfin]
          exact qx_ret (retRow2 (p := 8) (t := 9) (ty := 28) (by kernel_rfl) hS rfl rfl hM5 Try.underlying28 rfl (by rw [sz28]; rfl) ⟨_, rfl, hB, _, rfl, hSent⟩)
        · skip
          refine seq_yis hS (by decide) rfl (by decide) rfl (runs_lss (r := false) rfl rfl (by rw [decide_eq_false_iff_not]; omega)) (fun a1 hS => ?_)
          refine seq_yis hS (by decide) rfl (by decide) rfl (runs_pick rfl rfl) (fun a1 hS => ?_)
          refine seq_yis hS (by decide) rfl (by decide) rfl (runs_pick rfl rfl) (fun a1 hS => ?_)
          refine seq_is hS (by decide) (runs_pick rfl rfl) (fun a1 hS => ?_)
          refine nil_ok (wp_cond_false (hS.eval rfl) (wp_skip (qx_seq (reg_seq ?_))))
          refine seq_is hS (by decide) (runs_loadRow rfl hM7 Try.underlying28 rfl (by rw [sz28]; rfl)) (fun a1 hS => ?_)
          refine seq_none hS (runs_storeB (cs := [.int .i64 x.id, .int .i64 x.val, .bool false, .bool false, .int .i64 0]) rfl rfl hM5 rfl rfl sz28) (fun v23 w23 a1 hp hS => ?_)
          have hQ23 := hM5
          obtain ⟨hM5, hU23⟩ := hp
          have hB := But.new hB hU23 (fun i e => by rw [e]; exact hLhM5) (Nat.le_refl _)
          have hM1 := hM1.but hU23 (has_ne hM1 hQ23 (by decide))
          have hM3 := hM3.but hU23 (hNhM3hM5)
          have hM7 := hM7.but hU23 ((Ne.symm hNhM5hM7))
          have hE := hEb.kept hB
          refine seq_is hS (by decide) (runs_assign rfl) (fun a1 hS => ?_)
          have e0 : (at_ == 0) = false := by rw [beq_eq_false_iff_ne]; exact a0
          have hfin : runL (kindL tg.data.toList) (at_ == 0) (at_ == steps - 1) (x.id == src) x.has (if x.has = true then x.inn else 0) x.val l = ((x.val, false), []) := by rw [hk, e0]; simp [runL, bestL, -decide_eq_true_eq, hh, g1]
          rw [hfin]
          exact nil_ok (qx_ret (retRow2 (p := 8) (t := 9) (ty := 28) (by kernel_rfl) hS rfl rfl hM5 Try.underlying28 rfl (by rw [sz28]; rfl) ⟨_, rfl, hB, _, rfl, ⟨rfl, .inl ⟨rfl, rfl⟩⟩⟩))
    · skip
      refine seq_is hS (by decide) (runs_load rfl pl4 ((hM3.at rfl).trans (by rw [Bool.eq_false_iff.2 hh]))) (fun a1 hS => ?_)
      refine seq_is hS (by decide) (runs_not (b := false) rfl) (fun a1 hS => ?_)
      refine nil_ok (wp_cond_true (hS.eval rfl) (reg_seq ?_))
      refine seq_is hS (by decide) (runs_assign rfl) (fun a1 hS => ?_)
      refine nil_ok (qx_seq (qx_seq (reg_seq ?_)))
      refine seq_is hS (by decide) (runs_fieldK fo26_0 rfl) (fun a1 hS => ?_)
      refine seq_is hS (by decide) (runs_load rfl pl9 (hM1.at rfl)) (fun a1 hS => ?_)
      refine nil_ok (qx_block (qx_seq (qx_seq (reg_seq ?_))))
      refine seq_is hS (by decide) (runs_eqStr (r := false) rfl rfl ((is1 _).trans (by rw [hk]; rfl))) (fun a1 hS => ?_)
      refine seq_is hS (by decide) (runs_assign rfl) (fun a1 hS => ?_)
      refine nil_ok (wp_cond_false (hS.eval rfl) (reg_seq ?_))
      refine seq_is hS (by decide) (runs_eqStr (r := true) rfl rfl ((is2 _).trans (by rw [hk]; rfl))) (fun a1 hS => ?_)
      refine seq_is hS (by decide) (runs_assign rfl) (fun a1 hS => ?_)
      refine nil_ok (wp_cond_true (hS.eval rfl) (qx_seq (qx_seq (reg_seq ?_))))
      refine seq_is hS (by decide) (runs_move rfl) (fun a1 hS => ?_)
      by_cases a0 : at_ = 0
      · skip
        refine seq_is hS (by decide) (runs_eql (r := true) rfl rfl (by simp [a0])) (fun a1 hS => ?_)
        have hBw := hB.size
        refine nil_ok (wp_cond_true (hS.eval rfl) (qx_seq (reg_guard (fun w' => Below w9.heap.size w9 w') [.inl (.agg #[.int .i64 x.id, .int .i64 x.val, .bool false, .bool false, .int .i64 0]), .inl (.slice A l.length c), .inl (.pointer (some ⟨w1.heap.size, 0 + 1, none⟩)), .inl (.int .i64 x.val), .inr (fun u w' => w'.ownsRow w.heap.size 48 3 u (sendTo l (allF x.val 0)).length (cellsE (sendTo l (allF x.val 0))))] 5 2 mixed rfl (by kernel_rfl) hS (Below.refl _ _) (fun _ h => h.drew) ?_)))
        refine hs_is rfl (fun w' hw => runs_loadRow rfl (hM7.below hw hM7.lt) Try.underlying28 rfl (by rw [sz28]; rfl)) ?_
        refine hs_is rfl (fun w' hw => runs_move rfl) ?_
        refine hs_is rfl (fun w' hw => runs_fieldK fo28_1 rfl) ?_
        refine hs_is rfl (fun w' hw => runs_load rfl pl2 ((hM3.below hw hM3.lt).at rfl)) ?_
        refine hs_pr rfl (fun _ _ _ h hb => owns_kept h hb) (fun w' hw hq => (runs_call (args := [.slice A l.length c, .int .i64 x.val, .int .i64 0]) goes39 rfl (rall_any l hsm _ x.val 0 w' (hE.kept hw) (by omega) (by omega) hlw)).mono (by rintro u w5 ⟨hb, h3⟩; exact ⟨owns_mono h3 (Nat.le_trans hBw hw.size), hw.trans (hb.mono hw.size), hb⟩)) (fun sr => ?_)
        refine (fun a25 w25 hS hB25 hq => ?_)
        have hSent := (hq (4, _) List.mem_cons_self)
        clear hq
        have hB := hB.trans (hB25.mono hB.size)
        have hM1 := hM1.below hB25 hM1.lt
        have hM3 := hM3.below hB25 hM3.lt
        have hM5 := hM5.below hB25 hM5.lt
        have hM7 := hM7.below hB25 hM7.lt
        have hE := hEb.kept hB
        refine tail_none 5 (by kernel_rfl) rfl hS (runs_storeB (cs := [.int .i64 x.id, .int .i64 x.val, .bool false, .bool false, .int .i64 0]) rfl rfl hM5 rfl rfl sz28) (fun v27 w27 a27 hp hS => ⟨trivial, ?_⟩)
        have hQ27 := hM5
        obtain ⟨hM5, hU27⟩ := hp
        have hB := But.new hB hU27 (fun i e => by rw [e]; exact hLhM5) (Nat.le_refl _)
        have hM1 := hM1.but hU27 (has_ne hM1 hQ27 (by decide))
        have hM3 := hM3.but hU27 (hNhM3hM5)
        have hM7 := hM7.but hU27 ((Ne.symm hNhM5hM7))
        have hE := hEb.kept hB
        have hSent := owns_but hSent hU27 (fun i old ho e => by subst e; exact has_ne ho hQ27 (by decide) rfl)
        refine tail_op 6 (by kernel_rfl) rfl hS (by decide) (runs_assign rfl) (fun v29 w29 a29 hp hS => ⟨trivial, ?_⟩)
        obtain ⟨rfl, rfl⟩ := hp
        refine wpAnyH_done (by kernel_rfl) ?_ _
        have e0 : (at_ == 0) = true := by rw [beq_iff_eq]; exact a0
        have hfin : runL (kindL tg.data.toList) (at_ == 0) (at_ == steps - 1) (x.id == src) x.has (if x.has = true then x.inn else 0) x.val l = ((x.val, false), sendTo l (allF x.val 0)) := by rw [hk, e0]; simp [runL, bestL, allF_0, -decide_eq_true_eq]
        rw [hfin]
        exact qx_ret (retRow2 (p := 8) (t := 9) (ty := 28) (by kernel_rfl) hS rfl rfl hM5 Try.underlying28 rfl (by rw [sz28]; rfl) ⟨_, rfl, hB, _, rfl, hSent⟩)
      · skip
        refine seq_is hS (by decide) (runs_eql (r := false) rfl rfl (by simp [a0])) (fun a1 hS => ?_)
        refine nil_ok (wp_cond_false (hS.eval rfl) (wp_skip (qx_seq (qx_seq (reg_seq ?_)))))
        refine seq_is hS (by decide) (runs_fieldK fo28_3 rfl) (fun a1 hS => ?_)
        refine seq_is hS (by decide) (runs_load rfl pl4 ((hM3.at rfl).trans (by rw [Bool.eq_false_iff.2 hh]))) (fun a1 hS => ?_)
        refine seq_is hS (by decide) (runs_move rfl) (fun a1 hS => ?_)
        refine seq_no hS (by decide) rfl (by decide) rfl rfl (fun a1 hS => ?_)
        refine seq_no hS (by decide) rfl (by decide) rfl rfl (fun a1 hS => ?_)
        refine seq_no hS (by decide) rfl (by decide) rfl rfl (fun a1 hS => ?_)
        refine seq_no hS (by decide) rfl (by decide) rfl rfl (fun a1 hS => ?_)
        refine seq_skip2 hS (by decide) rfl (by decide) rfl (fun a1 hS => ?_)
        refine seq_skip2 hS (by decide) rfl (by decide) rfl (fun a1 hS => ?_)
        refine seq_skip2 hS (by decide) rfl (by decide) rfl (fun a1 hS => ?_)
        refine seq_skip2 hS (by decide) rfl (by decide) rfl (fun a1 hS => ?_)
        refine seq_no hS (by decide) rfl (by decide) rfl rfl (fun a1 hS => ?_)
        refine seq_no hS (by decide) rfl (by decide) rfl rfl (fun a1 hS => ?_)
        refine seq_skip2 hS (by decide) rfl (by decide) rfl (fun a1 hS => ?_)
        refine seq_skip2 hS (by decide) rfl (by decide) rfl (fun a1 hS => ?_)
        refine seq_skip2 hS (by decide) rfl (by decide) rfl (fun a1 hS => ?_)
        refine seq_skip2 hS (by decide) rfl (by decide) rfl (fun a1 hS => ?_)
        refine seq_skip2 hS (by decide) rfl (by decide) rfl (fun a1 hS => ?_)
        refine seq_skip2 hS (by decide) rfl (by decide) rfl (fun a1 hS => ?_)
        refine seq_skip2 hS (by decide) rfl (by decide) rfl (fun a1 hS => ?_)
        refine seq_skip2 hS (by decide) rfl (by decide) rfl (fun a1 hS => ?_)
        refine seq_skip2 hS (by decide) rfl (by decide) rfl (fun a1 hS => ?_)
        refine seq_no hS (by decide) rfl (by decide) rfl rfl (fun a1 hS => ?_)
        refine seq_is hS (by decide) (runs_pick rfl rfl) (fun a1 hS => ?_)
        refine nil_ok (wp_cond_false (hS.eval rfl) (wp_skip (qx_seq (reg_seq ?_))))
        refine seq_is hS (by decide) (runs_loadRow rfl hM7 Try.underlying28 rfl (by rw [sz28]; rfl)) (fun a1 hS => ?_)
        refine seq_none hS (runs_storeB (cs := [.int .i64 x.id, .int .i64 x.val, .bool false, .bool false, .int .i64 0]) rfl rfl hM5 rfl rfl sz28) (fun v30 w30 a1 hp hS => ?_)
        have hQ30 := hM5
        obtain ⟨hM5, hU30⟩ := hp
        have hB := But.new hB hU30 (fun i e => by rw [e]; exact hLhM5) (Nat.le_refl _)
        have hM1 := hM1.but hU30 (has_ne hM1 hQ30 (by decide))
        have hM3 := hM3.but hU30 (hNhM3hM5)
        have hM7 := hM7.but hU30 ((Ne.symm hNhM5hM7))
        have hE := hEb.kept hB
        refine seq_is hS (by decide) (runs_assign rfl) (fun a1 hS => ?_)
        have e0 : (at_ == 0) = false := by rw [beq_eq_false_iff_ne]; exact a0
        have hfin : runL (kindL tg.data.toList) (at_ == 0) (at_ == steps - 1) (x.id == src) x.has (if x.has = true then x.inn else 0) x.val l = ((x.val, false), []) := by rw [hk, e0]; simp [runL, bestL, -decide_eq_true_eq, hh]
        rw [hfin]
        exact nil_ok (qx_ret (retRow2 (p := 8) (t := 9) (ty := 28) (by kernel_rfl) hS rfl rfl hM5 Try.underlying28 rfl (by rw [sz28]; rfl) ⟨_, rfl, hB, _, rfl, ⟨rfl, .inl ⟨rfl, rfl⟩⟩⟩))
  · skip
    refine calls_qx (args := [.agg (jc tg src steps).toArray, .int .i64 at_, .agg (vc x).toArray, .slice A l.length c]) 163 Try.func30 rfl (by kernel_rfl) (by simp) (fun a hS => ?_)
    have hB := Below.refl w.heap.size w
    have hEb := hE
    refine qx_seq (reg_seq ?_)
    refine seq_op hS (by decide) (runs_boxB (cs := jc tg src steps) rfl rfl) (fun v1 w1 a1 hp hS => ?_)
    obtain ⟨rfl, hM1, hB1⟩ := hp
    have hB := hB.trans (hB1.mono hB.size)
    have hE := hEb.kept hB
    refine seq_op hS (by decide) (runs_boxB (cs := vc x) rfl rfl) (fun v3 w3 a1 hp hS => ?_)
    obtain ⟨rfl, hM3, hB3⟩ := hp
    have hB := hB.trans (hB3.mono hB.size)
    have hM1 := hM1.below hB3 hM1.lt
    have hE := hEb.kept hB
    refine seq_op hS (by decide) (runs_allocB (cs := [.int .i64 0, .int .i64 0, .bool false, .bool false, .int .i64 0]) zo28 rfl) (fun v5 w5 a1 hp hS => ?_)
    obtain ⟨rfl, hM5, hB5⟩ := hp
    have hLhM5 : w.heap.size ≤ w3.heap.size := hB.size
    have hNhM3hM5 : w1.heap.size ≠ w3.heap.size := by have := hM3.lt; omega
    have hB := hB.trans (hB5.mono hB.size)
    have hM1 := hM1.below hB5 hM1.lt
    have hM3 := hM3.below hB5 hM3.lt
    have hE := hEb.kept hB
    refine seq_is hS (by decide) (runs_assign rfl) (fun a1 hS => ?_)
    refine nil_ok (qx_seq (reg_seq ?_))
    refine seq_is hS (by decide) (runs_fieldK fo28_0 rfl) (fun a1 hS => ?_)
    refine seq_is hS (by decide) (runs_load rfl pl3 (hM3.at rfl)) (fun a1 hS => ?_)
    refine seq_is hS (by decide) (runs_fieldK fo28_1 rfl) (fun a1 hS => ?_)
    refine seq_is hS (by decide) (runs_load rfl pl2 (hM3.at rfl)) (fun a1 hS => ?_)
    refine seq_is hS (by decide) (runs_buildK (pv := [(0, .int .i64 x.id), (1, .int .i64 x.val)]) (cells := #[.int .i64 x.id, .int .i64 x.val, .bool false, .bool false, .int .i64 0]) rfl (by kernel_rfl)) (fun a1 hS => ?_)
    refine seq_op hS (by decide) (runs_allocB (cs := [.int .i64 0, .int .i64 0, .bool false, .bool false, .int .i64 0]) zo28 rfl) (fun v7 w7 a1 hp hS => ?_)
    obtain ⟨rfl, hM7, hB7⟩ := hp
    have hLhM7 : w.heap.size ≤ w5.heap.size := hB.size
    have hNhM3hM7 : w1.heap.size ≠ w5.heap.size := by have := hM3.lt; omega
    have hNhM5hM7 : w3.heap.size ≠ w5.heap.size := by have := hM5.lt; omega
    have hB := hB.trans (hB7.mono hB.size)
    have hM1 := hM1.below hB7 hM1.lt
    have hM3 := hM3.below hB7 hM3.lt
    have hM5 := hM5.below hB7 hM5.lt
    have hE := hEb.kept hB
    refine seq_none hS (runs_storeB (cs := [.int .i64 x.id, .int .i64 x.val, .bool false, .bool false, .int .i64 0]) rfl rfl hM7 rfl rfl sz28) (fun v9 w9 a1 hp hS => ?_)
    have hQ9 := hM7
    obtain ⟨hM7, hU9⟩ := hp
    have hB := But.new hB hU9 (fun i e => by rw [e]; exact hLhM7) (Nat.le_refl _)
    have hM1 := hM1.but hU9 (has_ne hM1 hQ9 (by decide))
    have hM3 := hM3.but hU9 (hNhM3hM7)
    have hM5 := hM5.but hU9 (hNhM5hM7)
    have hE := hEb.kept hB
    refine nil_ok (qx_seq (reg_seq ?_))
    refine seq_is hS (by decide) (runs_fieldK fo28_4 rfl) (fun a1 hS => ?_)
    refine seq_is hS (by decide) (runs_load rfl pl2 (hM3.at rfl)) (fun a1 hS => ?_)
    refine seq_is hS (by decide) (runs_assign rfl) (fun a1 hS => ?_)
    refine nil_ok (qx_seq (qx_seq (reg_seq ?_)))
    refine seq_is hS (by decide) (runs_fieldK fo28_3 rfl) (fun a1 hS => ?_)
    by_cases hh : x.has = true
    · skip
      refine seq_is hS (by decide) (runs_load rfl pl4 ((hM3.at rfl).trans (by rw [hh]))) (fun a1 hS => ?_)
      refine seq_is hS (by decide) (runs_not (b := true) rfl) (fun a1 hS => ?_)
      refine nil_ok (wp_cond_false (hS.eval rfl) (wp_skip (qx_seq (qx_seq (reg_seq ?_)))))
      refine seq_is hS (by decide) (runs_fieldK fo26_0 rfl) (fun a1 hS => ?_)
      refine seq_is hS (by decide) (runs_load rfl pl9 (hM1.at rfl)) (fun a1 hS => ?_)
      refine nil_ok (qx_block (qx_seq (qx_seq (reg_seq ?_))))
      refine seq_is hS (by decide) (runs_eqStr (r := false) rfl rfl ((is1 _).trans (by rw [hk]; rfl))) (fun a1 hS => ?_)
      refine seq_is hS (by decide) (runs_assign rfl) (fun a1 hS => ?_)
      refine nil_ok (wp_cond_false (hS.eval rfl) (reg_seq ?_))
      refine seq_is hS (by decide) (runs_eqStr (r := false) rfl rfl ((is2 _).trans (by rw [hk]; rfl))) (fun a1 hS => ?_)
      refine seq_is hS (by decide) (runs_assign rfl) (fun a1 hS => ?_)
      refine nil_ok (wp_cond_false (hS.eval rfl) (qx_seq (qx_seq (reg_seq ?_))))
      refine seq_is hS (by decide) (runs_eqStr (r := true) rfl rfl ((is3 _).trans (by rw [hk]; rfl))) (fun a1 hS => ?_)
      refine seq_is hS (by decide) (runs_assign rfl) (fun a1 hS => ?_)
      refine nil_ok (wp_cond_true (hS.eval rfl) (wp_skip (wp_cond_true (hS.eval rfl) (qx_seq (reg_seq ?_)))))
      refine seq_is hS (by decide) (runs_assign rfl) (fun a1 hS => ?_)
      refine nil_ok (qx_seq (qx_seq (reg_seq ?_)))
      refine seq_is hS (by decide) (runs_fieldK fo26_0 rfl) (fun a1 hS => ?_)
      refine seq_is hS (by decide) (runs_load rfl pl9 (hM1.at rfl)) (fun a1 hS => ?_)
      refine seq_is hS (by decide) (runs_eqStr (r := false) rfl rfl ((is4 _).trans (by rw [hk]; rfl))) (fun a1 hS => ?_)
      refine nil_ok (wp_cond_false (hS.eval rfl) (wp_skip (qx_seq (qx_seq (reg_seq ?_)))))
      refine seq_is hS (by decide) (runs_move rfl) (fun a1 hS => ?_)
      by_cases a0 : at_ = 0
      · skip
        refine seq_is hS (by decide) (runs_eql (r := true) rfl rfl (by simp [a0])) (fun a1 hS => ?_)
        refine nil_ok (wp_cond_true (hS.eval rfl) (qx_seq (qx_seq (reg_seq ?_))))
        refine seq_is hS (by decide) (runs_fieldK fo28_0 rfl) (fun a1 hS => ?_)
        refine seq_is hS (by decide) (runs_load rfl pl3 (hM3.at rfl)) (fun a1 hS => ?_)
        refine seq_is hS (by decide) (runs_fieldK fo26_1 rfl) (fun a1 hS => ?_)
        refine seq_is hS (by decide) (runs_load rfl pl3 (hM1.at rfl)) (fun a1 hS => ?_)
        by_cases s0 : x.id = src
        · skip
          refine seq_is hS (by decide) (runs_eql (r := true) rfl rfl (by simp [s0])) (fun a1 hS => ?_)
          have hBw := hB.size
          refine nil_ok (wp_cond_true (hS.eval rfl) (qx_seq (reg_guard (fun w' => Below w9.heap.size w9 w') [.inl (.agg #[.int .i64 x.id, .int .i64 x.val, .bool false, .bool false, .int .i64 0]), .inl (.slice A l.length c), .inl (.int .i64 2), .inr (fun u w' => w'.ownsRow w.heap.size 48 3 u (sendTo l (allF 0 2)).length (cellsE (sendTo l (allF 0 2))))] 4 2 mixed rfl (by kernel_rfl) hS (Below.refl _ _) (fun _ h => h.drew) ?_)))
          refine hs_is rfl (fun w' hw => runs_loadRow rfl (hM7.below hw hM7.lt) Try.underlying28 rfl (by rw [sz28]; rfl)) ?_
          refine hs_is rfl (fun w' hw => runs_move rfl) ?_
          refine hs_is rfl (fun w' hw => runs_move rfl) ?_
          refine hs_pr rfl (fun _ _ _ h hb => owns_kept h hb) (fun w' hw hq => (runs_call (args := [.slice A l.length c, .int .i64 0, .int .i64 2]) goes39 rfl (rall_any l hsm _ 0 2 w' (hE.kept hw) (by omega) (by omega) hlw)).mono (by rintro u w5 ⟨hb, h3⟩; exact ⟨owns_mono h3 (Nat.le_trans hBw hw.size), hw.trans (hb.mono hw.size), hb⟩)) (fun sr => ?_)
          refine (fun a11 w11 hS hB11 hq => ?_)
          have hSent := (hq (3, _) List.mem_cons_self)
          clear hq
          have hB := hB.trans (hB11.mono hB.size)
          have hM1 := hM1.below hB11 hM1.lt
          have hM3 := hM3.below hB11 hM3.lt
          have hM5 := hM5.below hB11 hM5.lt
          have hM7 := hM7.below hB11 hM7.lt
          have hE := hEb.kept hB
          refine tail_none 4 (by kernel_rfl) rfl hS (runs_storeB (cs := [.int .i64 x.id, .int .i64 x.val, .bool false, .bool false, .int .i64 0]) rfl rfl hM5 rfl rfl sz28) (fun v13 w13 a13 hp hS => ⟨trivial, ?_⟩)
          have hQ13 := hM5
          obtain ⟨hM5, hU13⟩ := hp
          have hB := But.new hB hU13 (fun i e => by rw [e]; exact hLhM5) (Nat.le_refl _)
          have hM1 := hM1.but hU13 (has_ne hM1 hQ13 (by decide))
          have hM3 := hM3.but hU13 (hNhM3hM5)
          have hM7 := hM7.but hU13 ((Ne.symm hNhM5hM7))
          have hE := hEb.kept hB
          have hSent := owns_but hSent hU13 (fun i old ho e => by subst e; exact has_ne ho hQ13 (by decide) rfl)
          refine tail_op 5 (by kernel_rfl) rfl hS (by decide) (runs_assign rfl) (fun v15 w15 a15 hp hS => ⟨trivial, ?_⟩)
          obtain ⟨rfl, rfl⟩ := hp
          refine wpAnyH_done (by kernel_rfl) ?_ _
          have e0 : (at_ == 0) = true := by rw [beq_iff_eq]; exact a0
          have hfin : runL (kindL tg.data.toList) (at_ == 0) (at_ == steps - 1) (x.id == src) x.has (if x.has = true then x.inn else 0) x.val l = ((x.val, false), sendTo l (allF 0 2)) := by rw [hk, e0]; simp [runL, nearL, allF_2, -decide_eq_true_eq, s0]
          rw [hfin]
          exact qx_ret (retRow2 (p := 8) (t := 9) (ty := 28) (by kernel_rfl) hS rfl rfl hM5 Try.underlying28 rfl (by rw [sz28]; rfl) ⟨_, rfl, hB, _, rfl, hSent⟩)
        · skip
          refine seq_is hS (by decide) (runs_eql (r := false) rfl rfl (by simp [s0])) (fun a1 hS => ?_)
          refine nil_ok (wp_cond_false (hS.eval rfl) (wp_skip (qx_seq (reg_seq ?_))))
          refine seq_is hS (by decide) (runs_loadRow rfl hM7 Try.underlying28 rfl (by rw [sz28]; rfl)) (fun a1 hS => ?_)
          refine seq_none hS (runs_storeB (cs := [.int .i64 x.id, .int .i64 x.val, .bool false, .bool false, .int .i64 0]) rfl rfl hM5 rfl rfl sz28) (fun v16 w16 a1 hp hS => ?_)
          have hQ16 := hM5
          obtain ⟨hM5, hU16⟩ := hp
          have hB := But.new hB hU16 (fun i e => by rw [e]; exact hLhM5) (Nat.le_refl _)
          have hM1 := hM1.but hU16 (has_ne hM1 hQ16 (by decide))
          have hM3 := hM3.but hU16 (hNhM3hM5)
          have hM7 := hM7.but hU16 ((Ne.symm hNhM5hM7))
          have hE := hEb.kept hB
          refine seq_is hS (by decide) (runs_assign rfl) (fun a1 hS => ?_)
          have e0 : (at_ == 0) = true := by rw [beq_iff_eq]; exact a0
          have hfin : runL (kindL tg.data.toList) (at_ == 0) (at_ == steps - 1) (x.id == src) x.has (if x.has = true then x.inn else 0) x.val l = ((x.val, false), []) := by rw [hk, e0]; simp [runL, nearL, -decide_eq_true_eq, s0]
          rw [hfin]
          exact nil_ok (qx_ret (retRow2 (p := 8) (t := 9) (ty := 28) (by kernel_rfl) hS rfl rfl hM5 Try.underlying28 rfl (by rw [sz28]; rfl) ⟨_, rfl, hB, _, rfl, ⟨rfl, .inl ⟨rfl, rfl⟩⟩⟩))
      · skip
        refine seq_is hS (by decide) (runs_eql (r := false) rfl rfl (by simp [a0])) (fun a1 hS => ?_)
        refine nil_ok (wp_cond_false (hS.eval rfl) (wp_skip (qx_seq (qx_seq (reg_seq ?_)))))
        refine seq_is hS (by decide) (runs_fieldK fo28_3 rfl) (fun a1 hS => ?_)
        refine seq_is hS (by decide) (runs_load rfl pl4 ((hM3.at rfl).trans (by rw [hh]))) (fun a1 hS => ?_)
        refine seq_is hS (by decide) (runs_move rfl) (fun a1 hS => ?_)
        refine seq_yis hS (by decide) rfl (by decide) rfl (runs_fieldK fo28_1 rfl) (fun a1 hS => ?_)
        refine seq_yis hS (by decide) rfl (by decide) rfl (runs_load rfl pl2 (hM3.at rfl)) (fun a1 hS => ?_)
        by_cases g1 : x.val < 0
        · skip
          refine seq_yis hS (by decide) rfl (by decide) rfl (runs_lss (r := true) rfl rfl (by rw [decide_eq_true_eq]; omega)) (fun a1 hS => ?_)
          refine seq_yis hS (by decide) rfl (by decide) rfl (runs_move rfl) (fun a1 hS => ?_)
          refine seq_no hS (by decide) rfl (by decide) rfl rfl (fun a1 hS => ?_)
          refine seq_no hS (by decide) rfl (by decide) rfl rfl (fun a1 hS => ?_)
          refine seq_no hS (by decide) rfl (by decide) rfl rfl (fun a1 hS => ?_)
          refine seq_no hS (by decide) rfl (by decide) rfl rfl (fun a1 hS => ?_)
          refine seq_yis hS (by decide) rfl (by decide) rfl (runs_pick rfl rfl) (fun a1 hS => ?_)
          refine seq_is hS (by decide) (runs_pick rfl rfl) (fun a1 hS => ?_)
          refine nil_ok (wp_cond_true (hS.eval rfl) (qx_seq (reg_seq ?_)))
          refine seq_is hS (by decide) (runs_move rfl) (fun a1 hS => ?_)
          refine seq_is hS (by decide) (runs_fieldK fo28_1 rfl) (fun a1 hS => ?_)
          refine seq_none hS (runs_storeC rfl rfl rfl s1_2 hM7 rfl) (fun v18 w18 a1 hp hS => ?_)
          have hQ18 := hM7
          obtain ⟨hM7, hU18⟩ := hp
          have hB := But.new hB hU18 (fun i e => by rw [e]; exact hLhM7) (Nat.le_refl _)
          have hM1 := hM1.but hU18 (has_ne hM1 hQ18 (by decide))
          have hM3 := hM3.but hU18 (hNhM3hM7)
          have hM5 := hM5.but hU18 (hNhM5hM7)
          have hE := hEb.kept hB
          have hBw := hB.size
          refine nil_ok (qx_seq (reg_guard (fun w' => Below w18.heap.size w18 w') [.inl (.agg #[.int .i64 x.id, .int .i64 x.inn, .bool false, .bool false, .int .i64 0]), .inl (.slice A l.length c), .inl (.int .i64 x.inn), .inl (.int .i64 2), .inr (fun u w' => w'.ownsRow w.heap.size 48 3 u (sendTo l (allF x.inn 2)).length (cellsE (sendTo l (allF x.inn 2))))] 5 2 mixed rfl (by kernel_rfl) hS (Below.refl _ _) (fun _ h => h.drew) ?_))
          refine hs_is rfl (fun w' hw => runs_loadRow rfl (hM7.below hw hM7.lt) Try.underlying28 rfl (by rw [sz28]; rfl)) ?_
          refine hs_is rfl (fun w' hw => runs_move rfl) ?_
          refine hs_is rfl (fun w' hw => runs_move rfl) ?_
          refine hs_is rfl (fun w' hw => runs_move rfl) ?_
          refine hs_pr rfl (fun _ _ _ h hb => owns_kept h hb) (fun w' hw hq => (runs_call (args := [.slice A l.length c, .int .i64 x.inn, .int .i64 2]) goes39 rfl (rall_any l hsm _ x.inn 2 w' (hE.kept hw) (by omega) (by omega) hlw)).mono (by rintro u w5 ⟨hb, h3⟩; exact ⟨owns_mono h3 (Nat.le_trans hBw hw.size), hw.trans (hb.mono hw.size), hb⟩)) (fun sr => ?_)
          refine (fun a20 w20 hS hB20 hq => ?_)
          have hSent := (hq (4, _) List.mem_cons_self)
          clear hq
          have hB := hB.trans (hB20.mono hB.size)
          have hM1 := hM1.below hB20 hM1.lt
          have hM3 := hM3.below hB20 hM3.lt
          have hM5 := hM5.below hB20 hM5.lt
          have hM7 := hM7.below hB20 hM7.lt
          have hE := hEb.kept hB
          refine tail_none 5 (by kernel_rfl) rfl hS (runs_storeB (cs := [.int .i64 x.id, .int .i64 x.inn, .bool false, .bool false, .int .i64 0]) rfl rfl hM5 rfl rfl sz28) (fun v22 w22 a22 hp hS => ⟨trivial, ?_⟩)
          have hQ22 := hM5
          obtain ⟨hM5, hU22⟩ := hp
          have hB := But.new hB hU22 (fun i e => by rw [e]; exact hLhM5) (Nat.le_refl _)
          have hM1 := hM1.but hU22 (has_ne hM1 hQ22 (by decide))
          have hM3 := hM3.but hU22 (hNhM3hM5)
          have hM7 := hM7.but hU22 ((Ne.symm hNhM5hM7))
          have hE := hEb.kept hB
          have hSent := owns_but hSent hU22 (fun i old ho e => by subst e; exact has_ne ho hQ22 (by decide) rfl)
          refine tail_op 6 (by kernel_rfl) rfl hS (by decide) (runs_assign rfl) (fun v24 w24 a24 hp hS => ⟨trivial, ?_⟩)
          obtain ⟨rfl, rfl⟩ := hp
          refine wpAnyH_done (by kernel_rfl) ?_ _
          have e0 : (at_ == 0) = false := by rw [beq_eq_false_iff_ne]; exact a0
          have hfin : runL (kindL tg.data.toList) (at_ == 0) (at_ == steps - 1) (x.id == src) x.has (if x.has = true then x.inn else 0) x.val l = ((x.inn, false), sendTo l (allF x.inn 2)) := by rw [hk, e0]; simp [runL, nearL, allF_2, -decide_eq_true_eq, hh, g1]
          rw [hfin]
          exact qx_ret (retRow2 (p := 8) (t := 9) (ty := 28) (by kernel_rfl) hS rfl rfl hM5 Try.underlying28 rfl (by rw [sz28]; rfl) ⟨_, rfl, hB, _, rfl, hSent⟩)
        · skip
          refine seq_yis hS (by decide) rfl (by decide) rfl (runs_lss (r := false) rfl rfl (by rw [decide_eq_false_iff_not]; omega)) (fun a1 hS => ?_)
          refine seq_yis hS (by decide) rfl (by decide) rfl (runs_move rfl) (fun a1 hS => ?_)
          refine seq_yis hS (by decide) rfl (by decide) rfl (runs_move rfl) (fun a1 hS => ?_)
          refine seq_yis hS (by decide) rfl (by decide) rfl (runs_fieldK fo28_1 rfl) (fun a1 hS => ?_)
          refine seq_yis hS (by decide) rfl (by decide) rfl (runs_load rfl pl2 (hM3.at rfl)) (fun a1 hS => ?_)
          by_cases g2 : x.inn < x.val
          · skip
            refine seq_yis hS (by decide) rfl (by decide) rfl (runs_lss (r := true) rfl rfl (by rw [decide_eq_true_eq]; omega)) (fun a1 hS => ?_)
            refine seq_yis hS (by decide) rfl (by decide) rfl (runs_pick rfl rfl) (fun a1 hS => ?_)
            refine seq_is hS (by decide) (runs_pick rfl rfl) (fun a1 hS => ?_)
            refine nil_ok (wp_cond_true (hS.eval rfl) (qx_seq (reg_seq ?_)))
            refine seq_is hS (by decide) (runs_move rfl) (fun a1 hS => ?_)
            refine seq_is hS (by decide) (runs_fieldK fo28_1 rfl) (fun a1 hS => ?_)
            refine seq_none hS (runs_storeC rfl rfl rfl s1_2 hM7 rfl) (fun v25 w25 a1 hp hS => ?_)
            have hQ25 := hM7
            obtain ⟨hM7, hU25⟩ := hp
            have hB := But.new hB hU25 (fun i e => by rw [e]; exact hLhM7) (Nat.le_refl _)
            have hM1 := hM1.but hU25 (has_ne hM1 hQ25 (by decide))
            have hM3 := hM3.but hU25 (hNhM3hM7)
            have hM5 := hM5.but hU25 (hNhM5hM7)
            have hE := hEb.kept hB
            have hBw := hB.size
            refine nil_ok (qx_seq (reg_guard (fun w' => Below w25.heap.size w25 w') [.inl (.agg #[.int .i64 x.id, .int .i64 x.inn, .bool false, .bool false, .int .i64 0]), .inl (.slice A l.length c), .inl (.int .i64 x.inn), .inl (.int .i64 2), .inr (fun u w' => w'.ownsRow w.heap.size 48 3 u (sendTo l (allF x.inn 2)).length (cellsE (sendTo l (allF x.inn 2))))] 5 2 mixed rfl (by kernel_rfl) hS (Below.refl _ _) (fun _ h => h.drew) ?_))
            refine hs_is rfl (fun w' hw => runs_loadRow rfl (hM7.below hw hM7.lt) Try.underlying28 rfl (by rw [sz28]; rfl)) ?_
            refine hs_is rfl (fun w' hw => runs_move rfl) ?_
            refine hs_is rfl (fun w' hw => runs_move rfl) ?_
            refine hs_is rfl (fun w' hw => runs_move rfl) ?_
            refine hs_pr rfl (fun _ _ _ h hb => owns_kept h hb) (fun w' hw hq => (runs_call (args := [.slice A l.length c, .int .i64 x.inn, .int .i64 2]) goes39 rfl (rall_any l hsm _ x.inn 2 w' (hE.kept hw) (by omega) (by omega) hlw)).mono (by rintro u w5 ⟨hb, h3⟩; exact ⟨owns_mono h3 (Nat.le_trans hBw hw.size), hw.trans (hb.mono hw.size), hb⟩)) (fun sr => ?_)
            refine (fun a27 w27 hS hB27 hq => ?_)
            have hSent := (hq (4, _) List.mem_cons_self)
            clear hq
            have hB := hB.trans (hB27.mono hB.size)
            have hM1 := hM1.below hB27 hM1.lt
            have hM3 := hM3.below hB27 hM3.lt
            have hM5 := hM5.below hB27 hM5.lt
            have hM7 := hM7.below hB27 hM7.lt
            have hE := hEb.kept hB
            refine tail_none 5 (by kernel_rfl) rfl hS (runs_storeB (cs := [.int .i64 x.id, .int .i64 x.inn, .bool false, .bool false, .int .i64 0]) rfl rfl hM5 rfl rfl sz28) (fun v29 w29 a29 hp hS => ⟨trivial, ?_⟩)
            have hQ29 := hM5
            obtain ⟨hM5, hU29⟩ := hp
            have hB := But.new hB hU29 (fun i e => by rw [e]; exact hLhM5) (Nat.le_refl _)
            have hM1 := hM1.but hU29 (has_ne hM1 hQ29 (by decide))
            have hM3 := hM3.but hU29 (hNhM3hM5)
            have hM7 := hM7.but hU29 ((Ne.symm hNhM5hM7))
            have hE := hEb.kept hB
            have hSent := owns_but hSent hU29 (fun i old ho e => by subst e; exact has_ne ho hQ29 (by decide) rfl)
            refine tail_op 6 (by kernel_rfl) rfl hS (by decide) (runs_assign rfl) (fun v31 w31 a31 hp hS => ⟨trivial, ?_⟩)
            obtain ⟨rfl, rfl⟩ := hp
            refine wpAnyH_done (by kernel_rfl) ?_ _
            have e0 : (at_ == 0) = false := by rw [beq_eq_false_iff_ne]; exact a0
            have hfin : runL (kindL tg.data.toList) (at_ == 0) (at_ == steps - 1) (x.id == src) x.has (if x.has = true then x.inn else 0) x.val l = ((x.inn, false), sendTo l (allF x.inn 2)) := by rw [hk, e0]; simp [runL, nearL, allF_2, -decide_eq_true_eq, hh, g1, g2]
            rw [hfin]
            exact qx_ret (retRow2 (p := 8) (t := 9) (ty := 28) (by kernel_rfl) hS rfl rfl hM5 Try.underlying28 rfl (by rw [sz28]; rfl) ⟨_, rfl, hB, _, rfl, hSent⟩)
          · skip
            refine seq_yis hS (by decide) rfl (by decide) rfl (runs_lss (r := false) rfl rfl (by rw [decide_eq_false_iff_not]; omega)) (fun a1 hS => ?_)
            refine seq_yis hS (by decide) rfl (by decide) rfl (runs_pick rfl rfl) (fun a1 hS => ?_)
            refine seq_is hS (by decide) (runs_pick rfl rfl) (fun a1 hS => ?_)
            refine nil_ok (wp_cond_false (hS.eval rfl) (wp_skip (qx_seq (reg_seq ?_))))
            refine seq_is hS (by decide) (runs_loadRow rfl hM7 Try.underlying28 rfl (by rw [sz28]; rfl)) (fun a1 hS => ?_)
            refine seq_none hS (runs_storeB (cs := [.int .i64 x.id, .int .i64 x.val, .bool false, .bool false, .int .i64 0]) rfl rfl hM5 rfl rfl sz28) (fun v32 w32 a1 hp hS => ?_)
            have hQ32 := hM5
            obtain ⟨hM5, hU32⟩ := hp
            have hB := But.new hB hU32 (fun i e => by rw [e]; exact hLhM5) (Nat.le_refl _)
            have hM1 := hM1.but hU32 (has_ne hM1 hQ32 (by decide))
            have hM3 := hM3.but hU32 (hNhM3hM5)
            have hM7 := hM7.but hU32 ((Ne.symm hNhM5hM7))
            have hE := hEb.kept hB
            refine seq_is hS (by decide) (runs_assign rfl) (fun a1 hS => ?_)
            have e0 : (at_ == 0) = false := by rw [beq_eq_false_iff_ne]; exact a0
            have hfin : runL (kindL tg.data.toList) (at_ == 0) (at_ == steps - 1) (x.id == src) x.has (if x.has = true then x.inn else 0) x.val l = ((x.val, false), []) := by rw [hk, e0]; simp [runL, nearL, -decide_eq_true_eq, hh, g1, g2]
            rw [hfin]
            exact nil_ok (qx_ret (retRow2 (p := 8) (t := 9) (ty := 28) (by kernel_rfl) hS rfl rfl hM5 Try.underlying28 rfl (by rw [sz28]; rfl) ⟨_, rfl, hB, _, rfl, ⟨rfl, .inl ⟨rfl, rfl⟩⟩⟩))
    · skip
      refine seq_is hS (by decide) (runs_load rfl pl4 ((hM3.at rfl).trans (by rw [Bool.eq_false_iff.2 hh]))) (fun a1 hS => ?_)
      refine seq_is hS (by decide) (runs_not (b := false) rfl) (fun a1 hS => ?_)
      refine nil_ok (wp_cond_true (hS.eval rfl) (reg_seq ?_))
      refine seq_is hS (by decide) (runs_assign rfl) (fun a1 hS => ?_)
      refine nil_ok (qx_seq (qx_seq (reg_seq ?_)))
      refine seq_is hS (by decide) (runs_fieldK fo26_0 rfl) (fun a1 hS => ?_)
      refine seq_is hS (by decide) (runs_load rfl pl9 (hM1.at rfl)) (fun a1 hS => ?_)
      refine nil_ok (qx_block (qx_seq (qx_seq (reg_seq ?_))))
      refine seq_is hS (by decide) (runs_eqStr (r := false) rfl rfl ((is1 _).trans (by rw [hk]; rfl))) (fun a1 hS => ?_)
      refine seq_is hS (by decide) (runs_assign rfl) (fun a1 hS => ?_)
      refine nil_ok (wp_cond_false (hS.eval rfl) (reg_seq ?_))
      refine seq_is hS (by decide) (runs_eqStr (r := false) rfl rfl ((is2 _).trans (by rw [hk]; rfl))) (fun a1 hS => ?_)
      refine seq_is hS (by decide) (runs_assign rfl) (fun a1 hS => ?_)
      refine nil_ok (wp_cond_false (hS.eval rfl) (qx_seq (qx_seq (reg_seq ?_))))
      refine seq_is hS (by decide) (runs_eqStr (r := true) rfl rfl ((is3 _).trans (by rw [hk]; rfl))) (fun a1 hS => ?_)
      refine seq_is hS (by decide) (runs_assign rfl) (fun a1 hS => ?_)
      refine nil_ok (wp_cond_true (hS.eval rfl) (wp_skip (wp_cond_true (hS.eval rfl) (qx_seq (reg_seq ?_)))))
      refine seq_is hS (by decide) (runs_assign rfl) (fun a1 hS => ?_)
      refine nil_ok (qx_seq (qx_seq (reg_seq ?_)))
      refine seq_is hS (by decide) (runs_fieldK fo26_0 rfl) (fun a1 hS => ?_)
      refine seq_is hS (by decide) (runs_load rfl pl9 (hM1.at rfl)) (fun a1 hS => ?_)
      refine seq_is hS (by decide) (runs_eqStr (r := false) rfl rfl ((is4 _).trans (by rw [hk]; rfl))) (fun a1 hS => ?_)
      refine nil_ok (wp_cond_false (hS.eval rfl) (wp_skip (qx_seq (qx_seq (reg_seq ?_)))))
      refine seq_is hS (by decide) (runs_move rfl) (fun a1 hS => ?_)
      by_cases a0 : at_ = 0
      · skip
        refine seq_is hS (by decide) (runs_eql (r := true) rfl rfl (by simp [a0])) (fun a1 hS => ?_)
        refine nil_ok (wp_cond_true (hS.eval rfl) (qx_seq (qx_seq (reg_seq ?_))))
        refine seq_is hS (by decide) (runs_fieldK fo28_0 rfl) (fun a1 hS => ?_)
        refine seq_is hS (by decide) (runs_load rfl pl3 (hM3.at rfl)) (fun a1 hS => ?_)
        refine seq_is hS (by decide) (runs_fieldK fo26_1 rfl) (fun a1 hS => ?_)
        refine seq_is hS (by decide) (runs_load rfl pl3 (hM1.at rfl)) (fun a1 hS => ?_)
        by_cases s0 : x.id = src
        · skip
          refine seq_is hS (by decide) (runs_eql (r := true) rfl rfl (by simp [s0])) (fun a1 hS => ?_)
          have hBw := hB.size
          refine nil_ok (wp_cond_true (hS.eval rfl) (qx_seq (reg_guard (fun w' => Below w9.heap.size w9 w') [.inl (.agg #[.int .i64 x.id, .int .i64 x.val, .bool false, .bool false, .int .i64 0]), .inl (.slice A l.length c), .inl (.int .i64 2), .inr (fun u w' => w'.ownsRow w.heap.size 48 3 u (sendTo l (allF 0 2)).length (cellsE (sendTo l (allF 0 2))))] 4 2 mixed rfl (by kernel_rfl) hS (Below.refl _ _) (fun _ h => h.drew) ?_)))
          refine hs_is rfl (fun w' hw => runs_loadRow rfl (hM7.below hw hM7.lt) Try.underlying28 rfl (by rw [sz28]; rfl)) ?_
          refine hs_is rfl (fun w' hw => runs_move rfl) ?_
          refine hs_is rfl (fun w' hw => runs_move rfl) ?_
          refine hs_pr rfl (fun _ _ _ h hb => owns_kept h hb) (fun w' hw hq => (runs_call (args := [.slice A l.length c, .int .i64 0, .int .i64 2]) goes39 rfl (rall_any l hsm _ 0 2 w' (hE.kept hw) (by omega) (by omega) hlw)).mono (by rintro u w5 ⟨hb, h3⟩; exact ⟨owns_mono h3 (Nat.le_trans hBw hw.size), hw.trans (hb.mono hw.size), hb⟩)) (fun sr => ?_)
          refine (fun a34 w34 hS hB34 hq => ?_)
          have hSent := (hq (3, _) List.mem_cons_self)
          clear hq
          have hB := hB.trans (hB34.mono hB.size)
          have hM1 := hM1.below hB34 hM1.lt
          have hM3 := hM3.below hB34 hM3.lt
          have hM5 := hM5.below hB34 hM5.lt
          have hM7 := hM7.below hB34 hM7.lt
          have hE := hEb.kept hB
          refine tail_none 4 (by kernel_rfl) rfl hS (runs_storeB (cs := [.int .i64 x.id, .int .i64 x.val, .bool false, .bool false, .int .i64 0]) rfl rfl hM5 rfl rfl sz28) (fun v36 w36 a36 hp hS => ⟨trivial, ?_⟩)
          have hQ36 := hM5
          obtain ⟨hM5, hU36⟩ := hp
          have hB := But.new hB hU36 (fun i e => by rw [e]; exact hLhM5) (Nat.le_refl _)
          have hM1 := hM1.but hU36 (has_ne hM1 hQ36 (by decide))
          have hM3 := hM3.but hU36 (hNhM3hM5)
          have hM7 := hM7.but hU36 ((Ne.symm hNhM5hM7))
          have hE := hEb.kept hB
          have hSent := owns_but hSent hU36 (fun i old ho e => by subst e; exact has_ne ho hQ36 (by decide) rfl)
          refine tail_op 5 (by kernel_rfl) rfl hS (by decide) (runs_assign rfl) (fun v38 w38 a38 hp hS => ⟨trivial, ?_⟩)
          obtain ⟨rfl, rfl⟩ := hp
          refine wpAnyH_done (by kernel_rfl) ?_ _
          have e0 : (at_ == 0) = true := by rw [beq_iff_eq]; exact a0
          have hfin : runL (kindL tg.data.toList) (at_ == 0) (at_ == steps - 1) (x.id == src) x.has (if x.has = true then x.inn else 0) x.val l = ((x.val, false), sendTo l (allF 0 2)) := by rw [hk, e0]; simp [runL, nearL, allF_2, -decide_eq_true_eq, s0]
          rw [hfin]
          exact qx_ret (retRow2 (p := 8) (t := 9) (ty := 28) (by kernel_rfl) hS rfl rfl hM5 Try.underlying28 rfl (by rw [sz28]; rfl) ⟨_, rfl, hB, _, rfl, hSent⟩)
        · skip
          refine seq_is hS (by decide) (runs_eql (r := false) rfl rfl (by simp [s0])) (fun a1 hS => ?_)
          refine nil_ok (wp_cond_false (hS.eval rfl) (wp_skip (qx_seq (reg_seq ?_))))
          refine seq_is hS (by decide) (runs_loadRow rfl hM7 Try.underlying28 rfl (by rw [sz28]; rfl)) (fun a1 hS => ?_)
          refine seq_none hS (runs_storeB (cs := [.int .i64 x.id, .int .i64 x.val, .bool false, .bool false, .int .i64 0]) rfl rfl hM5 rfl rfl sz28) (fun v39 w39 a1 hp hS => ?_)
          have hQ39 := hM5
          obtain ⟨hM5, hU39⟩ := hp
          have hB := But.new hB hU39 (fun i e => by rw [e]; exact hLhM5) (Nat.le_refl _)
          have hM1 := hM1.but hU39 (has_ne hM1 hQ39 (by decide))
          have hM3 := hM3.but hU39 (hNhM3hM5)
          have hM7 := hM7.but hU39 ((Ne.symm hNhM5hM7))
          have hE := hEb.kept hB
          refine seq_is hS (by decide) (runs_assign rfl) (fun a1 hS => ?_)
          have e0 : (at_ == 0) = true := by rw [beq_iff_eq]; exact a0
          have hfin : runL (kindL tg.data.toList) (at_ == 0) (at_ == steps - 1) (x.id == src) x.has (if x.has = true then x.inn else 0) x.val l = ((x.val, false), []) := by rw [hk, e0]; simp [runL, nearL, -decide_eq_true_eq, s0]
          rw [hfin]
          exact nil_ok (qx_ret (retRow2 (p := 8) (t := 9) (ty := 28) (by kernel_rfl) hS rfl rfl hM5 Try.underlying28 rfl (by rw [sz28]; rfl) ⟨_, rfl, hB, _, rfl, ⟨rfl, .inl ⟨rfl, rfl⟩⟩⟩))
      · skip
        refine seq_is hS (by decide) (runs_eql (r := false) rfl rfl (by simp [a0])) (fun a1 hS => ?_)
        refine nil_ok (wp_cond_false (hS.eval rfl) (wp_skip (qx_seq (qx_seq (reg_seq ?_)))))
        refine seq_is hS (by decide) (runs_fieldK fo28_3 rfl) (fun a1 hS => ?_)
        refine seq_is hS (by decide) (runs_load rfl pl4 ((hM3.at rfl).trans (by rw [Bool.eq_false_iff.2 hh]))) (fun a1 hS => ?_)
        refine seq_is hS (by decide) (runs_move rfl) (fun a1 hS => ?_)
        refine seq_no hS (by decide) rfl (by decide) rfl rfl (fun a1 hS => ?_)
        refine seq_no hS (by decide) rfl (by decide) rfl rfl (fun a1 hS => ?_)
        refine seq_no hS (by decide) rfl (by decide) rfl rfl (fun a1 hS => ?_)
        refine seq_no hS (by decide) rfl (by decide) rfl rfl (fun a1 hS => ?_)
        refine seq_skip2 hS (by decide) rfl (by decide) rfl (fun a1 hS => ?_)
        refine seq_skip2 hS (by decide) rfl (by decide) rfl (fun a1 hS => ?_)
        refine seq_skip2 hS (by decide) rfl (by decide) rfl (fun a1 hS => ?_)
        refine seq_skip2 hS (by decide) rfl (by decide) rfl (fun a1 hS => ?_)
        refine seq_no hS (by decide) rfl (by decide) rfl rfl (fun a1 hS => ?_)
        refine seq_is hS (by decide) (runs_pick rfl rfl) (fun a1 hS => ?_)
        refine nil_ok (wp_cond_false (hS.eval rfl) (wp_skip (qx_seq (reg_seq ?_))))
        refine seq_is hS (by decide) (runs_loadRow rfl hM7 Try.underlying28 rfl (by rw [sz28]; rfl)) (fun a1 hS => ?_)
        refine seq_none hS (runs_storeB (cs := [.int .i64 x.id, .int .i64 x.val, .bool false, .bool false, .int .i64 0]) rfl rfl hM5 rfl rfl sz28) (fun v41 w41 a1 hp hS => ?_)
        have hQ41 := hM5
        obtain ⟨hM5, hU41⟩ := hp
        have hB := But.new hB hU41 (fun i e => by rw [e]; exact hLhM5) (Nat.le_refl _)
        have hM1 := hM1.but hU41 (has_ne hM1 hQ41 (by decide))
        have hM3 := hM3.but hU41 (hNhM3hM5)
        have hM7 := hM7.but hU41 ((Ne.symm hNhM5hM7))
        have hE := hEb.kept hB
        refine seq_is hS (by decide) (runs_assign rfl) (fun a1 hS => ?_)
        have e0 : (at_ == 0) = false := by rw [beq_eq_false_iff_ne]; exact a0
        have hfin : runL (kindL tg.data.toList) (at_ == 0) (at_ == steps - 1) (x.id == src) x.has (if x.has = true then x.inn else 0) x.val l = ((x.val, false), []) := by rw [hk, e0]; simp [runL, nearL, -decide_eq_true_eq, hh]
        rw [hfin]
        exact nil_ok (qx_ret (retRow2 (p := 8) (t := 9) (ty := 28) (by kernel_rfl) hS rfl rfl hM5 Try.underlying28 rfl (by rw [sz28]; rfl) ⟨_, rfl, hB, _, rfl, ⟨rfl, .inl ⟨rfl, rfl⟩⟩⟩))
  · skip
    refine calls_qx (args := [.agg (jc tg src steps).toArray, .int .i64 at_, .agg (vc x).toArray, .slice A l.length c]) 163 Try.func30 rfl (by kernel_rfl) (by simp) (fun a hS => ?_)
    have hB := Below.refl w.heap.size w
    have hEb := hE
    refine qx_seq (reg_seq ?_)
    refine seq_op hS (by decide) (runs_boxB (cs := jc tg src steps) rfl rfl) (fun v1 w1 a1 hp hS => ?_)
    obtain ⟨rfl, hM1, hB1⟩ := hp
    have hB := hB.trans (hB1.mono hB.size)
    have hE := hEb.kept hB
    refine seq_op hS (by decide) (runs_boxB (cs := vc x) rfl rfl) (fun v3 w3 a1 hp hS => ?_)
    obtain ⟨rfl, hM3, hB3⟩ := hp
    have hB := hB.trans (hB3.mono hB.size)
    have hM1 := hM1.below hB3 hM1.lt
    have hE := hEb.kept hB
    refine seq_op hS (by decide) (runs_allocB (cs := [.int .i64 0, .int .i64 0, .bool false, .bool false, .int .i64 0]) zo28 rfl) (fun v5 w5 a1 hp hS => ?_)
    obtain ⟨rfl, hM5, hB5⟩ := hp
    have hLhM5 : w.heap.size ≤ w3.heap.size := hB.size
    have hNhM3hM5 : w1.heap.size ≠ w3.heap.size := by have := hM3.lt; omega
    have hB := hB.trans (hB5.mono hB.size)
    have hM1 := hM1.below hB5 hM1.lt
    have hM3 := hM3.below hB5 hM3.lt
    have hE := hEb.kept hB
    refine seq_is hS (by decide) (runs_assign rfl) (fun a1 hS => ?_)
    refine nil_ok (qx_seq (reg_seq ?_))
    refine seq_is hS (by decide) (runs_fieldK fo28_0 rfl) (fun a1 hS => ?_)
    refine seq_is hS (by decide) (runs_load rfl pl3 (hM3.at rfl)) (fun a1 hS => ?_)
    refine seq_is hS (by decide) (runs_fieldK fo28_1 rfl) (fun a1 hS => ?_)
    refine seq_is hS (by decide) (runs_load rfl pl2 (hM3.at rfl)) (fun a1 hS => ?_)
    refine seq_is hS (by decide) (runs_buildK (pv := [(0, .int .i64 x.id), (1, .int .i64 x.val)]) (cells := #[.int .i64 x.id, .int .i64 x.val, .bool false, .bool false, .int .i64 0]) rfl (by kernel_rfl)) (fun a1 hS => ?_)
    refine seq_op hS (by decide) (runs_allocB (cs := [.int .i64 0, .int .i64 0, .bool false, .bool false, .int .i64 0]) zo28 rfl) (fun v7 w7 a1 hp hS => ?_)
    obtain ⟨rfl, hM7, hB7⟩ := hp
    have hLhM7 : w.heap.size ≤ w5.heap.size := hB.size
    have hNhM3hM7 : w1.heap.size ≠ w5.heap.size := by have := hM3.lt; omega
    have hNhM5hM7 : w3.heap.size ≠ w5.heap.size := by have := hM5.lt; omega
    have hB := hB.trans (hB7.mono hB.size)
    have hM1 := hM1.below hB7 hM1.lt
    have hM3 := hM3.below hB7 hM3.lt
    have hM5 := hM5.below hB7 hM5.lt
    have hE := hEb.kept hB
    refine seq_none hS (runs_storeB (cs := [.int .i64 x.id, .int .i64 x.val, .bool false, .bool false, .int .i64 0]) rfl rfl hM7 rfl rfl sz28) (fun v9 w9 a1 hp hS => ?_)
    have hQ9 := hM7
    obtain ⟨hM7, hU9⟩ := hp
    have hB := But.new hB hU9 (fun i e => by rw [e]; exact hLhM7) (Nat.le_refl _)
    have hM1 := hM1.but hU9 (has_ne hM1 hQ9 (by decide))
    have hM3 := hM3.but hU9 (hNhM3hM7)
    have hM5 := hM5.but hU9 (hNhM5hM7)
    have hE := hEb.kept hB
    refine nil_ok (qx_seq (reg_seq ?_))
    refine seq_is hS (by decide) (runs_fieldK fo28_4 rfl) (fun a1 hS => ?_)
    refine seq_is hS (by decide) (runs_load rfl pl2 (hM3.at rfl)) (fun a1 hS => ?_)
    refine seq_is hS (by decide) (runs_assign rfl) (fun a1 hS => ?_)
    refine nil_ok (qx_seq (qx_seq (reg_seq ?_)))
    refine seq_is hS (by decide) (runs_fieldK fo28_3 rfl) (fun a1 hS => ?_)
    by_cases hh : x.has = true
    · skip
      refine seq_is hS (by decide) (runs_load rfl pl4 ((hM3.at rfl).trans (by rw [hh]))) (fun a1 hS => ?_)
      refine seq_is hS (by decide) (runs_not (b := true) rfl) (fun a1 hS => ?_)
      refine nil_ok (wp_cond_false (hS.eval rfl) (wp_skip (qx_seq (qx_seq (reg_seq ?_)))))
      refine seq_is hS (by decide) (runs_fieldK fo26_0 rfl) (fun a1 hS => ?_)
      refine seq_is hS (by decide) (runs_load rfl pl9 (hM1.at rfl)) (fun a1 hS => ?_)
      refine nil_ok (qx_block (qx_seq (qx_seq (reg_seq ?_))))
      refine seq_is hS (by decide) (runs_eqStr (r := false) rfl rfl ((is1 _).trans (by rw [hk]; rfl))) (fun a1 hS => ?_)
      refine seq_is hS (by decide) (runs_assign rfl) (fun a1 hS => ?_)
      refine nil_ok (wp_cond_false (hS.eval rfl) (reg_seq ?_))
      refine seq_is hS (by decide) (runs_eqStr (r := false) rfl rfl ((is2 _).trans (by rw [hk]; rfl))) (fun a1 hS => ?_)
      refine seq_is hS (by decide) (runs_assign rfl) (fun a1 hS => ?_)
      refine nil_ok (wp_cond_false (hS.eval rfl) (qx_seq (qx_seq (reg_seq ?_))))
      refine seq_is hS (by decide) (runs_eqStr (r := false) rfl rfl ((is3 _).trans (by rw [hk]; rfl))) (fun a1 hS => ?_)
      refine seq_is hS (by decide) (runs_assign rfl) (fun a1 hS => ?_)
      refine nil_ok (wp_cond_false (hS.eval rfl) (reg_seq ?_))
      refine seq_is hS (by decide) (runs_eqStr (r := true) rfl rfl ((is4 _).trans (by rw [hk]; rfl))) (fun a1 hS => ?_)
      refine seq_is hS (by decide) (runs_assign rfl) (fun a1 hS => ?_)
      refine nil_ok (wp_cond_true (hS.eval rfl) (qx_seq (reg_seq ?_)))
      refine seq_is hS (by decide) (runs_assign rfl) (fun a1 hS => ?_)
      refine nil_ok (qx_seq (qx_seq (reg_seq ?_)))
      refine seq_is hS (by decide) (runs_fieldK fo26_0 rfl) (fun a1 hS => ?_)
      refine seq_is hS (by decide) (runs_load rfl pl9 (hM1.at rfl)) (fun a1 hS => ?_)
      refine seq_is hS (by decide) (runs_eqStr (r := true) rfl rfl ((is4 _).trans (by rw [hk]; rfl))) (fun a1 hS => ?_)
      refine nil_ok (wp_cond_true (hS.eval rfl) (reg_seq ?_))
      refine seq_is hS (by decide) (runs_assign rfl) (fun a1 hS => ?_)
      refine nil_ok (qx_seq (qx_seq (reg_seq ?_)))
      refine seq_is hS (by decide) (runs_move rfl) (fun a1 hS => ?_)
      by_cases a0 : at_ = 0
      · skip
        refine seq_is hS (by decide) (runs_eql (r := true) rfl rfl (by simp [a0])) (fun a1 hS => ?_)
        refine nil_ok (wp_cond_true (hS.eval rfl) (qx_seq (qx_seq (reg_seq ?_))))
        refine seq_is hS (by decide) (runs_fieldK fo28_0 rfl) (fun a1 hS => ?_)
        refine seq_is hS (by decide) (runs_load rfl pl3 (hM3.at rfl)) (fun a1 hS => ?_)
        refine seq_is hS (by decide) (runs_fieldK fo26_1 rfl) (fun a1 hS => ?_)
        refine seq_is hS (by decide) (runs_load rfl pl3 (hM1.at rfl)) (fun a1 hS => ?_)
        by_cases s0 : x.id = src
        · skip
          refine seq_is hS (by decide) (runs_eql (r := true) rfl rfl (by simp [s0])) (fun a1 hS => ?_)
          have hBw := hB.size
          refine nil_ok (wp_cond_true (hS.eval rfl) (qx_seq (reg_guard (fun w' => Below w9.heap.size w9 w') [.inl (.agg #[.int .i64 x.id, .int .i64 x.val, .bool false, .bool false, .int .i64 0]), .inl (.slice A l.length c), .inl (.int .i64 1), .inr (fun u w' => w'.ownsRow w.heap.size 48 3 u (sendTo l (allF 0 1)).length (cellsE (sendTo l (allF 0 1))))] 4 2 mixed rfl (by kernel_rfl) hS (Below.refl _ _) (fun _ h => h.drew) ?_)))
          refine hs_is rfl (fun w' hw => runs_loadRow rfl (hM7.below hw hM7.lt) Try.underlying28 rfl (by rw [sz28]; rfl)) ?_
          refine hs_is rfl (fun w' hw => runs_move rfl) ?_
          refine hs_is rfl (fun w' hw => runs_move rfl) ?_
          refine hs_pr rfl (fun _ _ _ h hb => owns_kept h hb) (fun w' hw hq => (runs_call (args := [.slice A l.length c, .int .i64 0, .int .i64 1]) goes39 rfl (rall_any l hsm _ 0 1 w' (hE.kept hw) (by omega) (by omega) hlw)).mono (by rintro u w5 ⟨hb, h3⟩; exact ⟨owns_mono h3 (Nat.le_trans hBw hw.size), hw.trans (hb.mono hw.size), hb⟩)) (fun sr => ?_)
          refine (fun a11 w11 hS hB11 hq => ?_)
          have hSent := (hq (3, _) List.mem_cons_self)
          clear hq
          have hB := hB.trans (hB11.mono hB.size)
          have hM1 := hM1.below hB11 hM1.lt
          have hM3 := hM3.below hB11 hM3.lt
          have hM5 := hM5.below hB11 hM5.lt
          have hM7 := hM7.below hB11 hM7.lt
          have hE := hEb.kept hB
          refine tail_none 4 (by kernel_rfl) rfl hS (runs_storeB (cs := [.int .i64 x.id, .int .i64 x.val, .bool false, .bool false, .int .i64 0]) rfl rfl hM5 rfl rfl sz28) (fun v13 w13 a13 hp hS => ⟨trivial, ?_⟩)
          have hQ13 := hM5
          obtain ⟨hM5, hU13⟩ := hp
          have hB := But.new hB hU13 (fun i e => by rw [e]; exact hLhM5) (Nat.le_refl _)
          have hM1 := hM1.but hU13 (has_ne hM1 hQ13 (by decide))
          have hM3 := hM3.but hU13 (hNhM3hM5)
          have hM7 := hM7.but hU13 ((Ne.symm hNhM5hM7))
          have hE := hEb.kept hB
          have hSent := owns_but hSent hU13 (fun i old ho e => by subst e; exact has_ne ho hQ13 (by decide) rfl)
          refine tail_op 5 (by kernel_rfl) rfl hS (by decide) (runs_assign rfl) (fun v15 w15 a15 hp hS => ⟨trivial, ?_⟩)
          obtain ⟨rfl, rfl⟩ := hp
          refine wpAnyH_done (by kernel_rfl) ?_ _
          have e0 : (at_ == 0) = true := by rw [beq_iff_eq]; exact a0
          have hfin : runL (kindL tg.data.toList) (at_ == 0) (at_ == steps - 1) (x.id == src) x.has (if x.has = true then x.inn else 0) x.val l = ((x.val, false), sendTo l (allF 0 1)) := by rw [hk, e0]; simp [runL, nearL, allF_1, -decide_eq_true_eq, s0]
          rw [hfin]
          exact qx_ret (retRow2 (p := 8) (t := 9) (ty := 28) (by kernel_rfl) hS rfl rfl hM5 Try.underlying28 rfl (by rw [sz28]; rfl) ⟨_, rfl, hB, _, rfl, hSent⟩)
        · skip
          refine seq_is hS (by decide) (runs_eql (r := false) rfl rfl (by simp [s0])) (fun a1 hS => ?_)
          refine nil_ok (wp_cond_false (hS.eval rfl) (wp_skip (qx_seq (reg_seq ?_))))
          refine seq_is hS (by decide) (runs_loadRow rfl hM7 Try.underlying28 rfl (by rw [sz28]; rfl)) (fun a1 hS => ?_)
          refine seq_none hS (runs_storeB (cs := [.int .i64 x.id, .int .i64 x.val, .bool false, .bool false, .int .i64 0]) rfl rfl hM5 rfl rfl sz28) (fun v16 w16 a1 hp hS => ?_)
          have hQ16 := hM5
          obtain ⟨hM5, hU16⟩ := hp
          have hB := But.new hB hU16 (fun i e => by rw [e]; exact hLhM5) (Nat.le_refl _)
          have hM1 := hM1.but hU16 (has_ne hM1 hQ16 (by decide))
          have hM3 := hM3.but hU16 (hNhM3hM5)
          have hM7 := hM7.but hU16 ((Ne.symm hNhM5hM7))
          have hE := hEb.kept hB
          refine seq_is hS (by decide) (runs_assign rfl) (fun a1 hS => ?_)
          have e0 : (at_ == 0) = true := by rw [beq_iff_eq]; exact a0
          have hfin : runL (kindL tg.data.toList) (at_ == 0) (at_ == steps - 1) (x.id == src) x.has (if x.has = true then x.inn else 0) x.val l = ((x.val, false), []) := by rw [hk, e0]; simp [runL, nearL, -decide_eq_true_eq, s0]
          rw [hfin]
          exact nil_ok (qx_ret (retRow2 (p := 8) (t := 9) (ty := 28) (by kernel_rfl) hS rfl rfl hM5 Try.underlying28 rfl (by rw [sz28]; rfl) ⟨_, rfl, hB, _, rfl, ⟨rfl, .inl ⟨rfl, rfl⟩⟩⟩))
      · skip
        refine seq_is hS (by decide) (runs_eql (r := false) rfl rfl (by simp [a0])) (fun a1 hS => ?_)
        refine nil_ok (wp_cond_false (hS.eval rfl) (wp_skip (qx_seq (qx_seq (reg_seq ?_)))))
        refine seq_is hS (by decide) (runs_fieldK fo28_3 rfl) (fun a1 hS => ?_)
        refine seq_is hS (by decide) (runs_load rfl pl4 ((hM3.at rfl).trans (by rw [hh]))) (fun a1 hS => ?_)
        refine seq_is hS (by decide) (runs_move rfl) (fun a1 hS => ?_)
        refine seq_yis hS (by decide) rfl (by decide) rfl (runs_fieldK fo28_1 rfl) (fun a1 hS => ?_)
        refine seq_yis hS (by decide) rfl (by decide) rfl (runs_load rfl pl2 (hM3.at rfl)) (fun a1 hS => ?_)
        by_cases g1 : x.val < 0
        · skip
          refine seq_yis hS (by decide) rfl (by decide) rfl (runs_lss (r := true) rfl rfl (by rw [decide_eq_true_eq]; omega)) (fun a1 hS => ?_)
          refine seq_yis hS (by decide) rfl (by decide) rfl (runs_move rfl) (fun a1 hS => ?_)
          refine seq_no hS (by decide) rfl (by decide) rfl rfl (fun a1 hS => ?_)
          refine seq_no hS (by decide) rfl (by decide) rfl rfl (fun a1 hS => ?_)
          refine seq_no hS (by decide) rfl (by decide) rfl rfl (fun a1 hS => ?_)
          refine seq_no hS (by decide) rfl (by decide) rfl rfl (fun a1 hS => ?_)
          refine seq_yis hS (by decide) rfl (by decide) rfl (runs_pick rfl rfl) (fun a1 hS => ?_)
          refine seq_is hS (by decide) (runs_pick rfl rfl) (fun a1 hS => ?_)
          refine nil_ok (wp_cond_true (hS.eval rfl) (qx_seq (reg_seq ?_)))
          refine seq_is hS (by decide) (runs_move rfl) (fun a1 hS => ?_)
          refine seq_is hS (by decide) (runs_fieldK fo28_1 rfl) (fun a1 hS => ?_)
          refine seq_none hS (runs_storeC rfl rfl rfl s1_2 hM7 rfl) (fun v18 w18 a1 hp hS => ?_)
          have hQ18 := hM7
          obtain ⟨hM7, hU18⟩ := hp
          have hB := But.new hB hU18 (fun i e => by rw [e]; exact hLhM7) (Nat.le_refl _)
          have hM1 := hM1.but hU18 (has_ne hM1 hQ18 (by decide))
          have hM3 := hM3.but hU18 (hNhM3hM7)
          have hM5 := hM5.but hU18 (hNhM5hM7)
          have hE := hEb.kept hB
          have hBw := hB.size
          refine nil_ok (qx_seq (reg_guard (fun w' => Below w18.heap.size w18 w') [.inl (.agg #[.int .i64 x.id, .int .i64 x.inn, .bool false, .bool false, .int .i64 0]), .inl (.slice A l.length c), .inl (.int .i64 x.inn), .inl (.int .i64 1), .inr (fun u w' => w'.ownsRow w.heap.size 48 3 u (sendTo l (allF x.inn 1)).length (cellsE (sendTo l (allF x.inn 1))))] 5 2 mixed rfl (by kernel_rfl) hS (Below.refl _ _) (fun _ h => h.drew) ?_))
          refine hs_is rfl (fun w' hw => runs_loadRow rfl (hM7.below hw hM7.lt) Try.underlying28 rfl (by rw [sz28]; rfl)) ?_
          refine hs_is rfl (fun w' hw => runs_move rfl) ?_
          refine hs_is rfl (fun w' hw => runs_move rfl) ?_
          refine hs_is rfl (fun w' hw => runs_move rfl) ?_
          refine hs_pr rfl (fun _ _ _ h hb => owns_kept h hb) (fun w' hw hq => (runs_call (args := [.slice A l.length c, .int .i64 x.inn, .int .i64 1]) goes39 rfl (rall_any l hsm _ x.inn 1 w' (hE.kept hw) (by omega) (by omega) hlw)).mono (by rintro u w5 ⟨hb, h3⟩; exact ⟨owns_mono h3 (Nat.le_trans hBw hw.size), hw.trans (hb.mono hw.size), hb⟩)) (fun sr => ?_)
          refine (fun a20 w20 hS hB20 hq => ?_)
          have hSent := (hq (4, _) List.mem_cons_self)
          clear hq
          have hB := hB.trans (hB20.mono hB.size)
          have hM1 := hM1.below hB20 hM1.lt
          have hM3 := hM3.below hB20 hM3.lt
          have hM5 := hM5.below hB20 hM5.lt
          have hM7 := hM7.below hB20 hM7.lt
          have hE := hEb.kept hB
          refine tail_none 5 (by kernel_rfl) rfl hS (runs_storeB (cs := [.int .i64 x.id, .int .i64 x.inn, .bool false, .bool false, .int .i64 0]) rfl rfl hM5 rfl rfl sz28) (fun v22 w22 a22 hp hS => ⟨trivial, ?_⟩)
          have hQ22 := hM5
          obtain ⟨hM5, hU22⟩ := hp
          have hB := But.new hB hU22 (fun i e => by rw [e]; exact hLhM5) (Nat.le_refl _)
          have hM1 := hM1.but hU22 (has_ne hM1 hQ22 (by decide))
          have hM3 := hM3.but hU22 (hNhM3hM5)
          have hM7 := hM7.but hU22 ((Ne.symm hNhM5hM7))
          have hE := hEb.kept hB
          have hSent := owns_but hSent hU22 (fun i old ho e => by subst e; exact has_ne ho hQ22 (by decide) rfl)
          refine tail_op 6 (by kernel_rfl) rfl hS (by decide) (runs_assign rfl) (fun v24 w24 a24 hp hS => ⟨trivial, ?_⟩)
          obtain ⟨rfl, rfl⟩ := hp
          refine wpAnyH_done (by kernel_rfl) ?_ _
          have e0 : (at_ == 0) = false := by rw [beq_eq_false_iff_ne]; exact a0
          have hfin : runL (kindL tg.data.toList) (at_ == 0) (at_ == steps - 1) (x.id == src) x.has (if x.has = true then x.inn else 0) x.val l = ((x.inn, false), sendTo l (allF x.inn 1)) := by rw [hk, e0]; simp [runL, nearL, allF_1, -decide_eq_true_eq, hh, g1]
          rw [hfin]
          exact qx_ret (retRow2 (p := 8) (t := 9) (ty := 28) (by kernel_rfl) hS rfl rfl hM5 Try.underlying28 rfl (by rw [sz28]; rfl) ⟨_, rfl, hB, _, rfl, hSent⟩)
        · skip
          refine seq_yis hS (by decide) rfl (by decide) rfl (runs_lss (r := false) rfl rfl (by rw [decide_eq_false_iff_not]; omega)) (fun a1 hS => ?_)
          refine seq_yis hS (by decide) rfl (by decide) rfl (runs_move rfl) (fun a1 hS => ?_)
          refine seq_yis hS (by decide) rfl (by decide) rfl (runs_move rfl) (fun a1 hS => ?_)
          refine seq_yis hS (by decide) rfl (by decide) rfl (runs_fieldK fo28_1 rfl) (fun a1 hS => ?_)
          refine seq_yis hS (by decide) rfl (by decide) rfl (runs_load rfl pl2 (hM3.at rfl)) (fun a1 hS => ?_)
          by_cases g2 : x.inn < x.val
          · skip
            refine seq_yis hS (by decide) rfl (by decide) rfl (runs_lss (r := true) rfl rfl (by rw [decide_eq_true_eq]; omega)) (fun a1 hS => ?_)
            refine seq_yis hS (by decide) rfl (by decide) rfl (runs_pick rfl rfl) (fun a1 hS => ?_)
            refine seq_is hS (by decide) (runs_pick rfl rfl) (fun a1 hS => ?_)
            refine nil_ok (wp_cond_true (hS.eval rfl) (qx_seq (reg_seq ?_)))
            refine seq_is hS (by decide) (runs_move rfl) (fun a1 hS => ?_)
            refine seq_is hS (by decide) (runs_fieldK fo28_1 rfl) (fun a1 hS => ?_)
            refine seq_none hS (runs_storeC rfl rfl rfl s1_2 hM7 rfl) (fun v25 w25 a1 hp hS => ?_)
            have hQ25 := hM7
            obtain ⟨hM7, hU25⟩ := hp
            have hB := But.new hB hU25 (fun i e => by rw [e]; exact hLhM7) (Nat.le_refl _)
            have hM1 := hM1.but hU25 (has_ne hM1 hQ25 (by decide))
            have hM3 := hM3.but hU25 (hNhM3hM7)
            have hM5 := hM5.but hU25 (hNhM5hM7)
            have hE := hEb.kept hB
            have hBw := hB.size
            refine nil_ok (qx_seq (reg_guard (fun w' => Below w25.heap.size w25 w') [.inl (.agg #[.int .i64 x.id, .int .i64 x.inn, .bool false, .bool false, .int .i64 0]), .inl (.slice A l.length c), .inl (.int .i64 x.inn), .inl (.int .i64 1), .inr (fun u w' => w'.ownsRow w.heap.size 48 3 u (sendTo l (allF x.inn 1)).length (cellsE (sendTo l (allF x.inn 1))))] 5 2 mixed rfl (by kernel_rfl) hS (Below.refl _ _) (fun _ h => h.drew) ?_))
            refine hs_is rfl (fun w' hw => runs_loadRow rfl (hM7.below hw hM7.lt) Try.underlying28 rfl (by rw [sz28]; rfl)) ?_
            refine hs_is rfl (fun w' hw => runs_move rfl) ?_
            refine hs_is rfl (fun w' hw => runs_move rfl) ?_
            refine hs_is rfl (fun w' hw => runs_move rfl) ?_
            refine hs_pr rfl (fun _ _ _ h hb => owns_kept h hb) (fun w' hw hq => (runs_call (args := [.slice A l.length c, .int .i64 x.inn, .int .i64 1]) goes39 rfl (rall_any l hsm _ x.inn 1 w' (hE.kept hw) (by omega) (by omega) hlw)).mono (by rintro u w5 ⟨hb, h3⟩; exact ⟨owns_mono h3 (Nat.le_trans hBw hw.size), hw.trans (hb.mono hw.size), hb⟩)) (fun sr => ?_)
            refine (fun a27 w27 hS hB27 hq => ?_)
            have hSent := (hq (4, _) List.mem_cons_self)
            clear hq
            have hB := hB.trans (hB27.mono hB.size)
            have hM1 := hM1.below hB27 hM1.lt
            have hM3 := hM3.below hB27 hM3.lt
            have hM5 := hM5.below hB27 hM5.lt
            have hM7 := hM7.below hB27 hM7.lt
            have hE := hEb.kept hB
            refine tail_none 5 (by kernel_rfl) rfl hS (runs_storeB (cs := [.int .i64 x.id, .int .i64 x.inn, .bool false, .bool false, .int .i64 0]) rfl rfl hM5 rfl rfl sz28) (fun v29 w29 a29 hp hS => ⟨trivial, ?_⟩)
            have hQ29 := hM5
            obtain ⟨hM5, hU29⟩ := hp
            have hB := But.new hB hU29 (fun i e => by rw [e]; exact hLhM5) (Nat.le_refl _)
            have hM1 := hM1.but hU29 (has_ne hM1 hQ29 (by decide))
            have hM3 := hM3.but hU29 (hNhM3hM5)
            have hM7 := hM7.but hU29 ((Ne.symm hNhM5hM7))
            have hE := hEb.kept hB
            have hSent := owns_but hSent hU29 (fun i old ho e => by subst e; exact has_ne ho hQ29 (by decide) rfl)
            refine tail_op 6 (by kernel_rfl) rfl hS (by decide) (runs_assign rfl) (fun v31 w31 a31 hp hS => ⟨trivial, ?_⟩)
            obtain ⟨rfl, rfl⟩ := hp
            refine wpAnyH_done (by kernel_rfl) ?_ _
            have e0 : (at_ == 0) = false := by rw [beq_eq_false_iff_ne]; exact a0
            have hfin : runL (kindL tg.data.toList) (at_ == 0) (at_ == steps - 1) (x.id == src) x.has (if x.has = true then x.inn else 0) x.val l = ((x.inn, false), sendTo l (allF x.inn 1)) := by rw [hk, e0]; simp [runL, nearL, allF_1, -decide_eq_true_eq, hh, g1, g2]
            rw [hfin]
            exact qx_ret (retRow2 (p := 8) (t := 9) (ty := 28) (by kernel_rfl) hS rfl rfl hM5 Try.underlying28 rfl (by rw [sz28]; rfl) ⟨_, rfl, hB, _, rfl, hSent⟩)
          · skip
            refine seq_yis hS (by decide) rfl (by decide) rfl (runs_lss (r := false) rfl rfl (by rw [decide_eq_false_iff_not]; omega)) (fun a1 hS => ?_)
            refine seq_yis hS (by decide) rfl (by decide) rfl (runs_pick rfl rfl) (fun a1 hS => ?_)
            refine seq_is hS (by decide) (runs_pick rfl rfl) (fun a1 hS => ?_)
            refine nil_ok (wp_cond_false (hS.eval rfl) (wp_skip (qx_seq (reg_seq ?_))))
            refine seq_is hS (by decide) (runs_loadRow rfl hM7 Try.underlying28 rfl (by rw [sz28]; rfl)) (fun a1 hS => ?_)
            refine seq_none hS (runs_storeB (cs := [.int .i64 x.id, .int .i64 x.val, .bool false, .bool false, .int .i64 0]) rfl rfl hM5 rfl rfl sz28) (fun v32 w32 a1 hp hS => ?_)
            have hQ32 := hM5
            obtain ⟨hM5, hU32⟩ := hp
            have hB := But.new hB hU32 (fun i e => by rw [e]; exact hLhM5) (Nat.le_refl _)
            have hM1 := hM1.but hU32 (has_ne hM1 hQ32 (by decide))
            have hM3 := hM3.but hU32 (hNhM3hM5)
            have hM7 := hM7.but hU32 ((Ne.symm hNhM5hM7))
            have hE := hEb.kept hB
            refine seq_is hS (by decide) (runs_assign rfl) (fun a1 hS => ?_)
            have e0 : (at_ == 0) = false := by rw [beq_eq_false_iff_ne]; exact a0
            have hfin : runL (kindL tg.data.toList) (at_ == 0) (at_ == steps - 1) (x.id == src) x.has (if x.has = true then x.inn else 0) x.val l = ((x.val, false), []) := by rw [hk, e0]; simp [runL, nearL, -decide_eq_true_eq, hh, g1, g2]
            rw [hfin]
            exact nil_ok (qx_ret (retRow2 (p := 8) (t := 9) (ty := 28) (by kernel_rfl) hS rfl rfl hM5 Try.underlying28 rfl (by rw [sz28]; rfl) ⟨_, rfl, hB, _, rfl, ⟨rfl, .inl ⟨rfl, rfl⟩⟩⟩))
    · skip
      refine seq_is hS (by decide) (runs_load rfl pl4 ((hM3.at rfl).trans (by rw [Bool.eq_false_iff.2 hh]))) (fun a1 hS => ?_)
      refine seq_is hS (by decide) (runs_not (b := false) rfl) (fun a1 hS => ?_)
      refine nil_ok (wp_cond_true (hS.eval rfl) (reg_seq ?_))
      refine seq_is hS (by decide) (runs_assign rfl) (fun a1 hS => ?_)
      refine nil_ok (qx_seq (qx_seq (reg_seq ?_)))
      refine seq_is hS (by decide) (runs_fieldK fo26_0 rfl) (fun a1 hS => ?_)
      refine seq_is hS (by decide) (runs_load rfl pl9 (hM1.at rfl)) (fun a1 hS => ?_)
      refine nil_ok (qx_block (qx_seq (qx_seq (reg_seq ?_))))
      refine seq_is hS (by decide) (runs_eqStr (r := false) rfl rfl ((is1 _).trans (by rw [hk]; rfl))) (fun a1 hS => ?_)
      refine seq_is hS (by decide) (runs_assign rfl) (fun a1 hS => ?_)
      refine nil_ok (wp_cond_false (hS.eval rfl) (reg_seq ?_))
      refine seq_is hS (by decide) (runs_eqStr (r := false) rfl rfl ((is2 _).trans (by rw [hk]; rfl))) (fun a1 hS => ?_)
      refine seq_is hS (by decide) (runs_assign rfl) (fun a1 hS => ?_)
      refine nil_ok (wp_cond_false (hS.eval rfl) (qx_seq (qx_seq (reg_seq ?_))))
      refine seq_is hS (by decide) (runs_eqStr (r := false) rfl rfl ((is3 _).trans (by rw [hk]; rfl))) (fun a1 hS => ?_)
      refine seq_is hS (by decide) (runs_assign rfl) (fun a1 hS => ?_)
      refine nil_ok (wp_cond_false (hS.eval rfl) (reg_seq ?_))
      refine seq_is hS (by decide) (runs_eqStr (r := true) rfl rfl ((is4 _).trans (by rw [hk]; rfl))) (fun a1 hS => ?_)
      refine seq_is hS (by decide) (runs_assign rfl) (fun a1 hS => ?_)
      refine nil_ok (wp_cond_true (hS.eval rfl) (qx_seq (reg_seq ?_)))
      refine seq_is hS (by decide) (runs_assign rfl) (fun a1 hS => ?_)
      refine nil_ok (qx_seq (qx_seq (reg_seq ?_)))
      refine seq_is hS (by decide) (runs_fieldK fo26_0 rfl) (fun a1 hS => ?_)
      refine seq_is hS (by decide) (runs_load rfl pl9 (hM1.at rfl)) (fun a1 hS => ?_)
      refine seq_is hS (by decide) (runs_eqStr (r := true) rfl rfl ((is4 _).trans (by rw [hk]; rfl))) (fun a1 hS => ?_)
      refine nil_ok (wp_cond_true (hS.eval rfl) (reg_seq ?_))
      refine seq_is hS (by decide) (runs_assign rfl) (fun a1 hS => ?_)
      refine nil_ok (qx_seq (qx_seq (reg_seq ?_)))
      refine seq_is hS (by decide) (runs_move rfl) (fun a1 hS => ?_)
      by_cases a0 : at_ = 0
      · skip
        refine seq_is hS (by decide) (runs_eql (r := true) rfl rfl (by simp [a0])) (fun a1 hS => ?_)
        refine nil_ok (wp_cond_true (hS.eval rfl) (qx_seq (qx_seq (reg_seq ?_))))
        refine seq_is hS (by decide) (runs_fieldK fo28_0 rfl) (fun a1 hS => ?_)
        refine seq_is hS (by decide) (runs_load rfl pl3 (hM3.at rfl)) (fun a1 hS => ?_)
        refine seq_is hS (by decide) (runs_fieldK fo26_1 rfl) (fun a1 hS => ?_)
        refine seq_is hS (by decide) (runs_load rfl pl3 (hM1.at rfl)) (fun a1 hS => ?_)
        by_cases s0 : x.id = src
        · skip
          refine seq_is hS (by decide) (runs_eql (r := true) rfl rfl (by simp [s0])) (fun a1 hS => ?_)
          have hBw := hB.size
          refine nil_ok (wp_cond_true (hS.eval rfl) (qx_seq (reg_guard (fun w' => Below w9.heap.size w9 w') [.inl (.agg #[.int .i64 x.id, .int .i64 x.val, .bool false, .bool false, .int .i64 0]), .inl (.slice A l.length c), .inl (.int .i64 1), .inr (fun u w' => w'.ownsRow w.heap.size 48 3 u (sendTo l (allF 0 1)).length (cellsE (sendTo l (allF 0 1))))] 4 2 mixed rfl (by kernel_rfl) hS (Below.refl _ _) (fun _ h => h.drew) ?_)))
          refine hs_is rfl (fun w' hw => runs_loadRow rfl (hM7.below hw hM7.lt) Try.underlying28 rfl (by rw [sz28]; rfl)) ?_
          refine hs_is rfl (fun w' hw => runs_move rfl) ?_
          refine hs_is rfl (fun w' hw => runs_move rfl) ?_
          refine hs_pr rfl (fun _ _ _ h hb => owns_kept h hb) (fun w' hw hq => (runs_call (args := [.slice A l.length c, .int .i64 0, .int .i64 1]) goes39 rfl (rall_any l hsm _ 0 1 w' (hE.kept hw) (by omega) (by omega) hlw)).mono (by rintro u w5 ⟨hb, h3⟩; exact ⟨owns_mono h3 (Nat.le_trans hBw hw.size), hw.trans (hb.mono hw.size), hb⟩)) (fun sr => ?_)
          refine (fun a34 w34 hS hB34 hq => ?_)
          have hSent := (hq (3, _) List.mem_cons_self)
          clear hq
          have hB := hB.trans (hB34.mono hB.size)
          have hM1 := hM1.below hB34 hM1.lt
          have hM3 := hM3.below hB34 hM3.lt
          have hM5 := hM5.below hB34 hM5.lt
          have hM7 := hM7.below hB34 hM7.lt
          have hE := hEb.kept hB
          refine tail_none 4 (by kernel_rfl) rfl hS (runs_storeB (cs := [.int .i64 x.id, .int .i64 x.val, .bool false, .bool false, .int .i64 0]) rfl rfl hM5 rfl rfl sz28) (fun v36 w36 a36 hp hS => ⟨trivial, ?_⟩)
          have hQ36 := hM5
          obtain ⟨hM5, hU36⟩ := hp
          have hB := But.new hB hU36 (fun i e => by rw [e]; exact hLhM5) (Nat.le_refl _)
          have hM1 := hM1.but hU36 (has_ne hM1 hQ36 (by decide))
          have hM3 := hM3.but hU36 (hNhM3hM5)
          have hM7 := hM7.but hU36 ((Ne.symm hNhM5hM7))
          have hE := hEb.kept hB
          have hSent := owns_but hSent hU36 (fun i old ho e => by subst e; exact has_ne ho hQ36 (by decide) rfl)
          refine tail_op 5 (by kernel_rfl) rfl hS (by decide) (runs_assign rfl) (fun v38 w38 a38 hp hS => ⟨trivial, ?_⟩)
          obtain ⟨rfl, rfl⟩ := hp
          refine wpAnyH_done (by kernel_rfl) ?_ _
          have e0 : (at_ == 0) = true := by rw [beq_iff_eq]; exact a0
          have hfin : runL (kindL tg.data.toList) (at_ == 0) (at_ == steps - 1) (x.id == src) x.has (if x.has = true then x.inn else 0) x.val l = ((x.val, false), sendTo l (allF 0 1)) := by rw [hk, e0]; simp [runL, nearL, allF_1, -decide_eq_true_eq, s0]
          rw [hfin]
          exact qx_ret (retRow2 (p := 8) (t := 9) (ty := 28) (by kernel_rfl) hS rfl rfl hM5 Try.underlying28 rfl (by rw [sz28]; rfl) ⟨_, rfl, hB, _, rfl, hSent⟩)
        · skip
          refine seq_is hS (by decide) (runs_eql (r := false) rfl rfl (by simp [s0])) (fun a1 hS => ?_)
          refine nil_ok (wp_cond_false (hS.eval rfl) (wp_skip (qx_seq (reg_seq ?_))))
          refine seq_is hS (by decide) (runs_loadRow rfl hM7 Try.underlying28 rfl (by rw [sz28]; rfl)) (fun a1 hS => ?_)
          refine seq_none hS (runs_storeB (cs := [.int .i64 x.id, .int .i64 x.val, .bool false, .bool false, .int .i64 0]) rfl rfl hM5 rfl rfl sz28) (fun v39 w39 a1 hp hS => ?_)
          have hQ39 := hM5
          obtain ⟨hM5, hU39⟩ := hp
          have hB := But.new hB hU39 (fun i e => by rw [e]; exact hLhM5) (Nat.le_refl _)
          have hM1 := hM1.but hU39 (has_ne hM1 hQ39 (by decide))
          have hM3 := hM3.but hU39 (hNhM3hM5)
          have hM7 := hM7.but hU39 ((Ne.symm hNhM5hM7))
          have hE := hEb.kept hB
          refine seq_is hS (by decide) (runs_assign rfl) (fun a1 hS => ?_)
          have e0 : (at_ == 0) = true := by rw [beq_iff_eq]; exact a0
          have hfin : runL (kindL tg.data.toList) (at_ == 0) (at_ == steps - 1) (x.id == src) x.has (if x.has = true then x.inn else 0) x.val l = ((x.val, false), []) := by rw [hk, e0]; simp [runL, nearL, -decide_eq_true_eq, s0]
          rw [hfin]
          exact nil_ok (qx_ret (retRow2 (p := 8) (t := 9) (ty := 28) (by kernel_rfl) hS rfl rfl hM5 Try.underlying28 rfl (by rw [sz28]; rfl) ⟨_, rfl, hB, _, rfl, ⟨rfl, .inl ⟨rfl, rfl⟩⟩⟩))
      · skip
        refine seq_is hS (by decide) (runs_eql (r := false) rfl rfl (by simp [a0])) (fun a1 hS => ?_)
        refine nil_ok (wp_cond_false (hS.eval rfl) (wp_skip (qx_seq (qx_seq (reg_seq ?_)))))
        refine seq_is hS (by decide) (runs_fieldK fo28_3 rfl) (fun a1 hS => ?_)
        refine seq_is hS (by decide) (runs_load rfl pl4 ((hM3.at rfl).trans (by rw [Bool.eq_false_iff.2 hh]))) (fun a1 hS => ?_)
        refine seq_is hS (by decide) (runs_move rfl) (fun a1 hS => ?_)
        refine seq_no hS (by decide) rfl (by decide) rfl rfl (fun a1 hS => ?_)
        refine seq_no hS (by decide) rfl (by decide) rfl rfl (fun a1 hS => ?_)
        refine seq_no hS (by decide) rfl (by decide) rfl rfl (fun a1 hS => ?_)
        refine seq_no hS (by decide) rfl (by decide) rfl rfl (fun a1 hS => ?_)
        refine seq_skip2 hS (by decide) rfl (by decide) rfl (fun a1 hS => ?_)
        refine seq_skip2 hS (by decide) rfl (by decide) rfl (fun a1 hS => ?_)
        refine seq_skip2 hS (by decide) rfl (by decide) rfl (fun a1 hS => ?_)
        refine seq_skip2 hS (by decide) rfl (by decide) rfl (fun a1 hS => ?_)
        refine seq_no hS (by decide) rfl (by decide) rfl rfl (fun a1 hS => ?_)
        refine seq_is hS (by decide) (runs_pick rfl rfl) (fun a1 hS => ?_)
        refine nil_ok (wp_cond_false (hS.eval rfl) (wp_skip (qx_seq (reg_seq ?_))))
        refine seq_is hS (by decide) (runs_loadRow rfl hM7 Try.underlying28 rfl (by rw [sz28]; rfl)) (fun a1 hS => ?_)
        refine seq_none hS (runs_storeB (cs := [.int .i64 x.id, .int .i64 x.val, .bool false, .bool false, .int .i64 0]) rfl rfl hM5 rfl rfl sz28) (fun v41 w41 a1 hp hS => ?_)
        have hQ41 := hM5
        obtain ⟨hM5, hU41⟩ := hp
        have hB := But.new hB hU41 (fun i e => by rw [e]; exact hLhM5) (Nat.le_refl _)
        have hM1 := hM1.but hU41 (has_ne hM1 hQ41 (by decide))
        have hM3 := hM3.but hU41 (hNhM3hM5)
        have hM7 := hM7.but hU41 ((Ne.symm hNhM5hM7))
        have hE := hEb.kept hB
        refine seq_is hS (by decide) (runs_assign rfl) (fun a1 hS => ?_)
        have e0 : (at_ == 0) = false := by rw [beq_eq_false_iff_ne]; exact a0
        have hfin : runL (kindL tg.data.toList) (at_ == 0) (at_ == steps - 1) (x.id == src) x.has (if x.has = true then x.inn else 0) x.val l = ((x.val, false), []) := by rw [hk, e0]; simp [runL, nearL, -decide_eq_true_eq, hh]
        rw [hfin]
        exact nil_ok (qx_ret (retRow2 (p := 8) (t := 9) (ty := 28) (by kernel_rfl) hS rfl rfl hM5 Try.underlying28 rfl (by rw [sz28]; rfl) ⟨_, rfl, hB, _, rfl, ⟨rfl, .inl ⟨rfl, rfl⟩⟩⟩))
  · skip
    refine calls_qx (args := [.agg (jc tg src steps).toArray, .int .i64 at_, .agg (vc x).toArray, .slice A l.length c]) 163 Try.func30 rfl (by kernel_rfl) (by simp) (fun a hS => ?_)
    have hB := Below.refl w.heap.size w
    have hEb := hE
    refine qx_seq (reg_seq ?_)
    refine seq_op hS (by decide) (runs_boxB (cs := jc tg src steps) rfl rfl) (fun v1 w1 a1 hp hS => ?_)
    obtain ⟨rfl, hM1, hB1⟩ := hp
    have hB := hB.trans (hB1.mono hB.size)
    have hE := hEb.kept hB
    refine seq_op hS (by decide) (runs_boxB (cs := vc x) rfl rfl) (fun v3 w3 a1 hp hS => ?_)
    obtain ⟨rfl, hM3, hB3⟩ := hp
    have hB := hB.trans (hB3.mono hB.size)
    have hM1 := hM1.below hB3 hM1.lt
    have hE := hEb.kept hB
    refine seq_op hS (by decide) (runs_allocB (cs := [.int .i64 0, .int .i64 0, .bool false, .bool false, .int .i64 0]) zo28 rfl) (fun v5 w5 a1 hp hS => ?_)
    obtain ⟨rfl, hM5, hB5⟩ := hp
    have hLhM5 : w.heap.size ≤ w3.heap.size := hB.size
    have hNhM3hM5 : w1.heap.size ≠ w3.heap.size := by have := hM3.lt; omega
    have hB := hB.trans (hB5.mono hB.size)
    have hM1 := hM1.below hB5 hM1.lt
    have hM3 := hM3.below hB5 hM3.lt
    have hE := hEb.kept hB
    refine seq_is hS (by decide) (runs_assign rfl) (fun a1 hS => ?_)
    refine nil_ok (qx_seq (reg_seq ?_))
    refine seq_is hS (by decide) (runs_fieldK fo28_0 rfl) (fun a1 hS => ?_)
    refine seq_is hS (by decide) (runs_load rfl pl3 (hM3.at rfl)) (fun a1 hS => ?_)
    refine seq_is hS (by decide) (runs_fieldK fo28_1 rfl) (fun a1 hS => ?_)
    refine seq_is hS (by decide) (runs_load rfl pl2 (hM3.at rfl)) (fun a1 hS => ?_)
    refine seq_is hS (by decide) (runs_buildK (pv := [(0, .int .i64 x.id), (1, .int .i64 x.val)]) (cells := #[.int .i64 x.id, .int .i64 x.val, .bool false, .bool false, .int .i64 0]) rfl (by kernel_rfl)) (fun a1 hS => ?_)
    refine seq_op hS (by decide) (runs_allocB (cs := [.int .i64 0, .int .i64 0, .bool false, .bool false, .int .i64 0]) zo28 rfl) (fun v7 w7 a1 hp hS => ?_)
    obtain ⟨rfl, hM7, hB7⟩ := hp
    have hLhM7 : w.heap.size ≤ w5.heap.size := hB.size
    have hNhM3hM7 : w1.heap.size ≠ w5.heap.size := by have := hM3.lt; omega
    have hNhM5hM7 : w3.heap.size ≠ w5.heap.size := by have := hM5.lt; omega
    have hB := hB.trans (hB7.mono hB.size)
    have hM1 := hM1.below hB7 hM1.lt
    have hM3 := hM3.below hB7 hM3.lt
    have hM5 := hM5.below hB7 hM5.lt
    have hE := hEb.kept hB
    refine seq_none hS (runs_storeB (cs := [.int .i64 x.id, .int .i64 x.val, .bool false, .bool false, .int .i64 0]) rfl rfl hM7 rfl rfl sz28) (fun v9 w9 a1 hp hS => ?_)
    have hQ9 := hM7
    obtain ⟨hM7, hU9⟩ := hp
    have hB := But.new hB hU9 (fun i e => by rw [e]; exact hLhM7) (Nat.le_refl _)
    have hM1 := hM1.but hU9 (has_ne hM1 hQ9 (by decide))
    have hM3 := hM3.but hU9 (hNhM3hM7)
    have hM5 := hM5.but hU9 (hNhM5hM7)
    have hE := hEb.kept hB
    refine nil_ok (qx_seq (reg_seq ?_))
    refine seq_is hS (by decide) (runs_fieldK fo28_4 rfl) (fun a1 hS => ?_)
    refine seq_is hS (by decide) (runs_load rfl pl2 (hM3.at rfl)) (fun a1 hS => ?_)
    refine seq_is hS (by decide) (runs_assign rfl) (fun a1 hS => ?_)
    refine nil_ok (qx_seq (qx_seq (reg_seq ?_)))
    refine seq_is hS (by decide) (runs_fieldK fo28_3 rfl) (fun a1 hS => ?_)
    by_cases hh : x.has = true
    · skip
      refine seq_is hS (by decide) (runs_load rfl pl4 ((hM3.at rfl).trans (by rw [hh]))) (fun a1 hS => ?_)
      refine seq_is hS (by decide) (runs_not (b := true) rfl) (fun a1 hS => ?_)
      refine nil_ok (wp_cond_false (hS.eval rfl) (wp_skip (qx_seq (qx_seq (reg_seq ?_)))))
      refine seq_is hS (by decide) (runs_fieldK fo26_0 rfl) (fun a1 hS => ?_)
      refine seq_is hS (by decide) (runs_load rfl pl9 (hM1.at rfl)) (fun a1 hS => ?_)
      refine nil_ok (qx_block (qx_seq (qx_seq (reg_seq ?_))))
      refine seq_is hS (by decide) (runs_eqStr (r := false) rfl rfl ((is1 _).trans (by rw [hk]; rfl))) (fun a1 hS => ?_)
      refine seq_is hS (by decide) (runs_assign rfl) (fun a1 hS => ?_)
      refine nil_ok (wp_cond_false (hS.eval rfl) (reg_seq ?_))
      refine seq_is hS (by decide) (runs_eqStr (r := false) rfl rfl ((is2 _).trans (by rw [hk]; rfl))) (fun a1 hS => ?_)
      refine seq_is hS (by decide) (runs_assign rfl) (fun a1 hS => ?_)
      refine nil_ok (wp_cond_false (hS.eval rfl) (qx_seq (qx_seq (reg_seq ?_))))
      refine seq_is hS (by decide) (runs_eqStr (r := false) rfl rfl ((is3 _).trans (by rw [hk]; rfl))) (fun a1 hS => ?_)
      refine seq_is hS (by decide) (runs_assign rfl) (fun a1 hS => ?_)
      refine nil_ok (wp_cond_false (hS.eval rfl) (reg_seq ?_))
      refine seq_is hS (by decide) (runs_eqStr (r := false) rfl rfl ((is4 _).trans (by rw [hk]; rfl))) (fun a1 hS => ?_)
      refine seq_is hS (by decide) (runs_assign rfl) (fun a1 hS => ?_)
      refine nil_ok (wp_cond_false (hS.eval rfl) (qx_seq (reg_seq ?_)))
      refine seq_is hS (by decide) (runs_eqStr (r := true) rfl rfl ((is5 _).trans (by rw [hk]; rfl))) (fun a1 hS => ?_)
      refine seq_is hS (by decide) (runs_assign rfl) (fun a1 hS => ?_)
      refine nil_ok (wp_cond_true (hS.eval rfl) (qx_seq (qx_seq (reg_seq ?_))))
      refine seq_is hS (by decide) (runs_move rfl) (fun a1 hS => ?_)
      by_cases a0 : at_ = 0
      · skip
        refine seq_is hS (by decide) (runs_eql (r := true) rfl rfl (by simp [a0])) (fun a1 hS => ?_)
        have hBw := hB.size
        refine nil_ok (wp_cond_true (hS.eval rfl) (qx_seq (reg_guard (fun w' => Below w9.heap.size w9 w') [.inl (.agg #[.int .i64 x.id, .int .i64 x.val, .bool false, .bool false, .int .i64 0]), .inl (.slice A l.length c), .inr (fun u w' => w'.ownsRow w.heap.size 48 3 u (sendTo l (allF 1 0)).length (cellsE (sendTo l (allF 1 0))))] 3 2 mixed rfl (by kernel_rfl) hS (Below.refl _ _) (fun _ h => h.drew) ?_)))
        refine hs_is rfl (fun w' hw => runs_loadRow rfl (hM7.below hw hM7.lt) Try.underlying28 rfl (by rw [sz28]; rfl)) ?_
        refine hs_is rfl (fun w' hw => runs_move rfl) ?_
        refine hs_pr rfl (fun _ _ _ h hb => owns_kept h hb) (fun w' hw hq => (runs_call (args := [.slice A l.length c, .int .i64 1, .int .i64 0]) goes39 rfl (rall_any l hsm _ 1 0 w' (hE.kept hw) (by omega) (by omega) hlw)).mono (by rintro u w5 ⟨hb, h3⟩; exact ⟨owns_mono h3 (Nat.le_trans hBw hw.size), hw.trans (hb.mono hw.size), hb⟩)) (fun sr => ?_)
        refine (fun a11 w11 hS hB11 hq => ?_)
        have hSent := (hq (2, _) List.mem_cons_self)
        clear hq
        have hB := hB.trans (hB11.mono hB.size)
        have hM1 := hM1.below hB11 hM1.lt
        have hM3 := hM3.below hB11 hM3.lt
        have hM5 := hM5.below hB11 hM5.lt
        have hM7 := hM7.below hB11 hM7.lt
        have hE := hEb.kept hB
        refine tail_none 3 (by kernel_rfl) rfl hS (runs_storeB (cs := [.int .i64 x.id, .int .i64 x.val, .bool false, .bool false, .int .i64 0]) rfl rfl hM5 rfl rfl sz28) (fun v13 w13 a13 hp hS => ⟨trivial, ?_⟩)
        have hQ13 := hM5
        obtain ⟨hM5, hU13⟩ := hp
        have hB := But.new hB hU13 (fun i e => by rw [e]; exact hLhM5) (Nat.le_refl _)
        have hM1 := hM1.but hU13 (has_ne hM1 hQ13 (by decide))
        have hM3 := hM3.but hU13 (hNhM3hM5)
        have hM7 := hM7.but hU13 ((Ne.symm hNhM5hM7))
        have hE := hEb.kept hB
        have hSent := owns_but hSent hU13 (fun i old ho e => by subst e; exact has_ne ho hQ13 (by decide) rfl)
        refine tail_op 4 (by kernel_rfl) rfl hS (by decide) (runs_assign rfl) (fun v15 w15 a15 hp hS => ⟨trivial, ?_⟩)
        obtain ⟨rfl, rfl⟩ := hp
        refine wpAnyH_done (by kernel_rfl) ?_ _
        have e0 : (at_ == 0) = true := by rw [beq_iff_eq]; exact a0
        have hfin : runL (kindL tg.data.toList) (at_ == 0) (at_ == steps - 1) (x.id == src) x.has (if x.has = true then x.inn else 0) x.val l = ((x.val, false), sendTo l (allF 1 0)) := by rw [hk, e0]; simp [runL, degL, allF_0, -decide_eq_true_eq]
        rw [hfin]
        exact qx_ret (retRow2 (p := 8) (t := 9) (ty := 28) (by kernel_rfl) hS rfl rfl hM5 Try.underlying28 rfl (by rw [sz28]; rfl) ⟨_, rfl, hB, _, rfl, hSent⟩)
      · skip
        refine seq_is hS (by decide) (runs_eql (r := false) rfl rfl (by simp [a0])) (fun a1 hS => ?_)
        refine nil_ok (wp_cond_false (hS.eval rfl) (wp_skip (qx_seq (qx_seq (reg_seq ?_)))))
        refine seq_is hS (by decide) (runs_fieldK fo28_3 rfl) (fun a1 hS => ?_)
        refine seq_is hS (by decide) (runs_load rfl pl4 ((hM3.at rfl).trans (by rw [hh]))) (fun a1 hS => ?_)
        refine nil_ok (wp_cond_true (hS.eval rfl) (reg_seq ?_))
        refine seq_is hS (by decide) (runs_move rfl) (fun a1 hS => ?_)
        refine seq_is hS (by decide) (runs_fieldK fo28_1 rfl) (fun a1 hS => ?_)
        refine seq_none hS (runs_storeC rfl rfl rfl s1_2 hM7 rfl) (fun v16 w16 a1 hp hS => ?_)
        have hQ16 := hM7
        obtain ⟨hM7, hU16⟩ := hp
        have hB := But.new hB hU16 (fun i e => by rw [e]; exact hLhM7) (Nat.le_refl _)
        have hM1 := hM1.but hU16 (has_ne hM1 hQ16 (by decide))
        have hM3 := hM3.but hU16 (hNhM3hM7)
        have hM5 := hM5.but hU16 (hNhM5hM7)
        have hE := hEb.kept hB
        refine nil_ok (qx_seq (reg_seq ?_))
        refine seq_is hS (by decide) (runs_loadRow rfl hM7 Try.underlying28 rfl (by rw [sz28]; rfl)) (fun a1 hS => ?_)
        refine seq_none hS (runs_storeB (cs := [.int .i64 x.id, .int .i64 x.inn, .bool false, .bool false, .int .i64 0]) rfl rfl hM5 rfl rfl sz28) (fun v18 w18 a1 hp hS => ?_)
        have hQ18 := hM5
        obtain ⟨hM5, hU18⟩ := hp
        have hB := But.new hB hU18 (fun i e => by rw [e]; exact hLhM5) (Nat.le_refl _)
        have hM1 := hM1.but hU18 (has_ne hM1 hQ18 (by decide))
        have hM3 := hM3.but hU18 (hNhM3hM5)
        have hM7 := hM7.but hU18 ((Ne.symm hNhM5hM7))
        have hE := hEb.kept hB
        refine seq_is hS (by decide) (runs_assign rfl) (fun a1 hS => ?_)
        have e0 : (at_ == 0) = false := by rw [beq_eq_false_iff_ne]; exact a0
        have hfin : runL (kindL tg.data.toList) (at_ == 0) (at_ == steps - 1) (x.id == src) x.has (if x.has = true then x.inn else 0) x.val l = ((x.inn, false), []) := by rw [hk, e0]; simp [runL, degL, -decide_eq_true_eq, hh]
        rw [hfin]
        exact nil_ok (qx_ret (retRow2 (p := 8) (t := 9) (ty := 28) (by kernel_rfl) hS rfl rfl hM5 Try.underlying28 rfl (by rw [sz28]; rfl) ⟨_, rfl, hB, _, rfl, ⟨rfl, .inl ⟨rfl, rfl⟩⟩⟩))
    · skip
      refine seq_is hS (by decide) (runs_load rfl pl4 ((hM3.at rfl).trans (by rw [Bool.eq_false_iff.2 hh]))) (fun a1 hS => ?_)
      refine seq_is hS (by decide) (runs_not (b := false) rfl) (fun a1 hS => ?_)
      refine nil_ok (wp_cond_true (hS.eval rfl) (reg_seq ?_))
      refine seq_is hS (by decide) (runs_assign rfl) (fun a1 hS => ?_)
      refine nil_ok (qx_seq (qx_seq (reg_seq ?_)))
      refine seq_is hS (by decide) (runs_fieldK fo26_0 rfl) (fun a1 hS => ?_)
      refine seq_is hS (by decide) (runs_load rfl pl9 (hM1.at rfl)) (fun a1 hS => ?_)
      refine nil_ok (qx_block (qx_seq (qx_seq (reg_seq ?_))))
      refine seq_is hS (by decide) (runs_eqStr (r := false) rfl rfl ((is1 _).trans (by rw [hk]; rfl))) (fun a1 hS => ?_)
      refine seq_is hS (by decide) (runs_assign rfl) (fun a1 hS => ?_)
      refine nil_ok (wp_cond_false (hS.eval rfl) (reg_seq ?_))
      refine seq_is hS (by decide) (runs_eqStr (r := false) rfl rfl ((is2 _).trans (by rw [hk]; rfl))) (fun a1 hS => ?_)
      refine seq_is hS (by decide) (runs_assign rfl) (fun a1 hS => ?_)
      refine nil_ok (wp_cond_false (hS.eval rfl) (qx_seq (qx_seq (reg_seq ?_))))
      refine seq_is hS (by decide) (runs_eqStr (r := false) rfl rfl ((is3 _).trans (by rw [hk]; rfl))) (fun a1 hS => ?_)
      refine seq_is hS (by decide) (runs_assign rfl) (fun a1 hS => ?_)
      refine nil_ok (wp_cond_false (hS.eval rfl) (reg_seq ?_))
      refine seq_is hS (by decide) (runs_eqStr (r := false) rfl rfl ((is4 _).trans (by rw [hk]; rfl))) (fun a1 hS => ?_)
      refine seq_is hS (by decide) (runs_assign rfl) (fun a1 hS => ?_)
      refine nil_ok (wp_cond_false (hS.eval rfl) (qx_seq (reg_seq ?_)))
      refine seq_is hS (by decide) (runs_eqStr (r := true) rfl rfl ((is5 _).trans (by rw [hk]; rfl))) (fun a1 hS => ?_)
      refine seq_is hS (by decide) (runs_assign rfl) (fun a1 hS => ?_)
      refine nil_ok (wp_cond_true (hS.eval rfl) (qx_seq (qx_seq (reg_seq ?_))))
      refine seq_is hS (by decide) (runs_move rfl) (fun a1 hS => ?_)
      by_cases a0 : at_ = 0
      · skip
        refine seq_is hS (by decide) (runs_eql (r := true) rfl rfl (by simp [a0])) (fun a1 hS => ?_)
        have hBw := hB.size
        refine nil_ok (wp_cond_true (hS.eval rfl) (qx_seq (reg_guard (fun w' => Below w9.heap.size w9 w') [.inl (.agg #[.int .i64 x.id, .int .i64 x.val, .bool false, .bool false, .int .i64 0]), .inl (.slice A l.length c), .inr (fun u w' => w'.ownsRow w.heap.size 48 3 u (sendTo l (allF 1 0)).length (cellsE (sendTo l (allF 1 0))))] 3 2 mixed rfl (by kernel_rfl) hS (Below.refl _ _) (fun _ h => h.drew) ?_)))
        refine hs_is rfl (fun w' hw => runs_loadRow rfl (hM7.below hw hM7.lt) Try.underlying28 rfl (by rw [sz28]; rfl)) ?_
        refine hs_is rfl (fun w' hw => runs_move rfl) ?_
        refine hs_pr rfl (fun _ _ _ h hb => owns_kept h hb) (fun w' hw hq => (runs_call (args := [.slice A l.length c, .int .i64 1, .int .i64 0]) goes39 rfl (rall_any l hsm _ 1 0 w' (hE.kept hw) (by omega) (by omega) hlw)).mono (by rintro u w5 ⟨hb, h3⟩; exact ⟨owns_mono h3 (Nat.le_trans hBw hw.size), hw.trans (hb.mono hw.size), hb⟩)) (fun sr => ?_)
        refine (fun a20 w20 hS hB20 hq => ?_)
        have hSent := (hq (2, _) List.mem_cons_self)
        clear hq
        have hB := hB.trans (hB20.mono hB.size)
        have hM1 := hM1.below hB20 hM1.lt
        have hM3 := hM3.below hB20 hM3.lt
        have hM5 := hM5.below hB20 hM5.lt
        have hM7 := hM7.below hB20 hM7.lt
        have hE := hEb.kept hB
        refine tail_none 3 (by kernel_rfl) rfl hS (runs_storeB (cs := [.int .i64 x.id, .int .i64 x.val, .bool false, .bool false, .int .i64 0]) rfl rfl hM5 rfl rfl sz28) (fun v22 w22 a22 hp hS => ⟨trivial, ?_⟩)
        have hQ22 := hM5
        obtain ⟨hM5, hU22⟩ := hp
        have hB := But.new hB hU22 (fun i e => by rw [e]; exact hLhM5) (Nat.le_refl _)
        have hM1 := hM1.but hU22 (has_ne hM1 hQ22 (by decide))
        have hM3 := hM3.but hU22 (hNhM3hM5)
        have hM7 := hM7.but hU22 ((Ne.symm hNhM5hM7))
        have hE := hEb.kept hB
        have hSent := owns_but hSent hU22 (fun i old ho e => by subst e; exact has_ne ho hQ22 (by decide) rfl)
        refine tail_op 4 (by kernel_rfl) rfl hS (by decide) (runs_assign rfl) (fun v24 w24 a24 hp hS => ⟨trivial, ?_⟩)
        obtain ⟨rfl, rfl⟩ := hp
        refine wpAnyH_done (by kernel_rfl) ?_ _
        have e0 : (at_ == 0) = true := by rw [beq_iff_eq]; exact a0
        have hfin : runL (kindL tg.data.toList) (at_ == 0) (at_ == steps - 1) (x.id == src) x.has (if x.has = true then x.inn else 0) x.val l = ((x.val, false), sendTo l (allF 1 0)) := by rw [hk, e0]; simp [runL, degL, allF_0, -decide_eq_true_eq]
        rw [hfin]
        exact qx_ret (retRow2 (p := 8) (t := 9) (ty := 28) (by kernel_rfl) hS rfl rfl hM5 Try.underlying28 rfl (by rw [sz28]; rfl) ⟨_, rfl, hB, _, rfl, hSent⟩)
      · skip
        refine seq_is hS (by decide) (runs_eql (r := false) rfl rfl (by simp [a0])) (fun a1 hS => ?_)
        refine nil_ok (wp_cond_false (hS.eval rfl) (wp_skip (qx_seq (qx_seq (reg_seq ?_)))))
        refine seq_is hS (by decide) (runs_fieldK fo28_3 rfl) (fun a1 hS => ?_)
        refine seq_is hS (by decide) (runs_load rfl pl4 ((hM3.at rfl).trans (by rw [Bool.eq_false_iff.2 hh]))) (fun a1 hS => ?_)
        refine nil_ok (wp_cond_false (hS.eval rfl) (wp_skip (qx_seq (reg_seq ?_))))
        refine seq_is hS (by decide) (runs_loadRow rfl hM7 Try.underlying28 rfl (by rw [sz28]; rfl)) (fun a1 hS => ?_)
        refine seq_none hS (runs_storeB (cs := [.int .i64 x.id, .int .i64 x.val, .bool false, .bool false, .int .i64 0]) rfl rfl hM5 rfl rfl sz28) (fun v25 w25 a1 hp hS => ?_)
        have hQ25 := hM5
        obtain ⟨hM5, hU25⟩ := hp
        have hB := But.new hB hU25 (fun i e => by rw [e]; exact hLhM5) (Nat.le_refl _)
        have hM1 := hM1.but hU25 (has_ne hM1 hQ25 (by decide))
        have hM3 := hM3.but hU25 (hNhM3hM5)
        have hM7 := hM7.but hU25 ((Ne.symm hNhM5hM7))
        have hE := hEb.kept hB
        refine seq_is hS (by decide) (runs_assign rfl) (fun a1 hS => ?_)
        have e0 : (at_ == 0) = false := by rw [beq_eq_false_iff_ne]; exact a0
        have hfin : runL (kindL tg.data.toList) (at_ == 0) (at_ == steps - 1) (x.id == src) x.has (if x.has = true then x.inn else 0) x.val l = ((x.val, false), []) := by rw [hk, e0]; simp [runL, degL, -decide_eq_true_eq, hh]
        rw [hfin]
        exact nil_ok (qx_ret (retRow2 (p := 8) (t := 9) (ty := 28) (by kernel_rfl) hS rfl rfl hM5 Try.underlying28 rfl (by rw [sz28]; rfl) ⟨_, rfl, hB, _, rfl, ⟨rfl, .inl ⟨rfl, rfl⟩⟩⟩))
  · skip
    refine calls_qx (args := [.agg (jc tg src steps).toArray, .int .i64 at_, .agg (vc x).toArray, .slice A l.length c]) 163 Try.func30 rfl (by kernel_rfl) (by simp) (fun a hS => ?_)
    have hB := Below.refl w.heap.size w
    have hEb := hE
    refine qx_seq (reg_seq ?_)
    refine seq_op hS (by decide) (runs_boxB (cs := jc tg src steps) rfl rfl) (fun v1 w1 a1 hp hS => ?_)
    obtain ⟨rfl, hM1, hB1⟩ := hp
    have hB := hB.trans (hB1.mono hB.size)
    have hE := hEb.kept hB
    refine seq_op hS (by decide) (runs_boxB (cs := vc x) rfl rfl) (fun v3 w3 a1 hp hS => ?_)
    obtain ⟨rfl, hM3, hB3⟩ := hp
    have hB := hB.trans (hB3.mono hB.size)
    have hM1 := hM1.below hB3 hM1.lt
    have hE := hEb.kept hB
    refine seq_op hS (by decide) (runs_allocB (cs := [.int .i64 0, .int .i64 0, .bool false, .bool false, .int .i64 0]) zo28 rfl) (fun v5 w5 a1 hp hS => ?_)
    obtain ⟨rfl, hM5, hB5⟩ := hp
    have hLhM5 : w.heap.size ≤ w3.heap.size := hB.size
    have hNhM3hM5 : w1.heap.size ≠ w3.heap.size := by have := hM3.lt; omega
    have hB := hB.trans (hB5.mono hB.size)
    have hM1 := hM1.below hB5 hM1.lt
    have hM3 := hM3.below hB5 hM3.lt
    have hE := hEb.kept hB
    refine seq_is hS (by decide) (runs_assign rfl) (fun a1 hS => ?_)
    refine nil_ok (qx_seq (reg_seq ?_))
    refine seq_is hS (by decide) (runs_fieldK fo28_0 rfl) (fun a1 hS => ?_)
    refine seq_is hS (by decide) (runs_load rfl pl3 (hM3.at rfl)) (fun a1 hS => ?_)
    refine seq_is hS (by decide) (runs_fieldK fo28_1 rfl) (fun a1 hS => ?_)
    refine seq_is hS (by decide) (runs_load rfl pl2 (hM3.at rfl)) (fun a1 hS => ?_)
    refine seq_is hS (by decide) (runs_buildK (pv := [(0, .int .i64 x.id), (1, .int .i64 x.val)]) (cells := #[.int .i64 x.id, .int .i64 x.val, .bool false, .bool false, .int .i64 0]) rfl (by kernel_rfl)) (fun a1 hS => ?_)
    refine seq_op hS (by decide) (runs_allocB (cs := [.int .i64 0, .int .i64 0, .bool false, .bool false, .int .i64 0]) zo28 rfl) (fun v7 w7 a1 hp hS => ?_)
    obtain ⟨rfl, hM7, hB7⟩ := hp
    have hLhM7 : w.heap.size ≤ w5.heap.size := hB.size
    have hNhM3hM7 : w1.heap.size ≠ w5.heap.size := by have := hM3.lt; omega
    have hNhM5hM7 : w3.heap.size ≠ w5.heap.size := by have := hM5.lt; omega
    have hB := hB.trans (hB7.mono hB.size)
    have hM1 := hM1.below hB7 hM1.lt
    have hM3 := hM3.below hB7 hM3.lt
    have hM5 := hM5.below hB7 hM5.lt
    have hE := hEb.kept hB
    refine seq_none hS (runs_storeB (cs := [.int .i64 x.id, .int .i64 x.val, .bool false, .bool false, .int .i64 0]) rfl rfl hM7 rfl rfl sz28) (fun v9 w9 a1 hp hS => ?_)
    have hQ9 := hM7
    obtain ⟨hM7, hU9⟩ := hp
    have hB := But.new hB hU9 (fun i e => by rw [e]; exact hLhM7) (Nat.le_refl _)
    have hM1 := hM1.but hU9 (has_ne hM1 hQ9 (by decide))
    have hM3 := hM3.but hU9 (hNhM3hM7)
    have hM5 := hM5.but hU9 (hNhM5hM7)
    have hE := hEb.kept hB
    refine nil_ok (qx_seq (reg_seq ?_))
    refine seq_is hS (by decide) (runs_fieldK fo28_4 rfl) (fun a1 hS => ?_)
    refine seq_is hS (by decide) (runs_load rfl pl2 (hM3.at rfl)) (fun a1 hS => ?_)
    refine seq_is hS (by decide) (runs_assign rfl) (fun a1 hS => ?_)
    refine nil_ok (qx_seq (qx_seq (reg_seq ?_)))
    refine seq_is hS (by decide) (runs_fieldK fo28_3 rfl) (fun a1 hS => ?_)
    by_cases hh : x.has = true
    · skip
      refine seq_is hS (by decide) (runs_load rfl pl4 ((hM3.at rfl).trans (by rw [hh]))) (fun a1 hS => ?_)
      refine seq_is hS (by decide) (runs_not (b := true) rfl) (fun a1 hS => ?_)
      refine nil_ok (wp_cond_false (hS.eval rfl) (wp_skip (qx_seq (qx_seq (reg_seq ?_)))))
      refine seq_is hS (by decide) (runs_fieldK fo26_0 rfl) (fun a1 hS => ?_)
      refine seq_is hS (by decide) (runs_load rfl pl9 (hM1.at rfl)) (fun a1 hS => ?_)
      refine nil_ok (qx_block (qx_seq (qx_seq (reg_seq ?_))))
      refine seq_is hS (by decide) (runs_eqStr (r := false) rfl rfl ((is1 _).trans (by rw [hk]; rfl))) (fun a1 hS => ?_)
      refine seq_is hS (by decide) (runs_assign rfl) (fun a1 hS => ?_)
      refine nil_ok (wp_cond_false (hS.eval rfl) (reg_seq ?_))
      refine seq_is hS (by decide) (runs_eqStr (r := false) rfl rfl ((is2 _).trans (by rw [hk]; rfl))) (fun a1 hS => ?_)
      refine seq_is hS (by decide) (runs_assign rfl) (fun a1 hS => ?_)
      refine nil_ok (wp_cond_false (hS.eval rfl) (qx_seq (qx_seq (reg_seq ?_))))
      refine seq_is hS (by decide) (runs_eqStr (r := false) rfl rfl ((is3 _).trans (by rw [hk]; rfl))) (fun a1 hS => ?_)
      refine seq_is hS (by decide) (runs_assign rfl) (fun a1 hS => ?_)
      refine nil_ok (wp_cond_false (hS.eval rfl) (reg_seq ?_))
      refine seq_is hS (by decide) (runs_eqStr (r := false) rfl rfl ((is4 _).trans (by rw [hk]; rfl))) (fun a1 hS => ?_)
      refine seq_is hS (by decide) (runs_assign rfl) (fun a1 hS => ?_)
      refine nil_ok (wp_cond_false (hS.eval rfl) (qx_seq (reg_seq ?_)))
      refine seq_is hS (by decide) (runs_eqStr (r := false) rfl rfl ((is5 _).trans (by rw [hk]; rfl))) (fun a1 hS => ?_)
      refine seq_is hS (by decide) (runs_assign rfl) (fun a1 hS => ?_)
      refine nil_ok (wp_cond_false (hS.eval rfl) (qx_seq (reg_seq ?_)))
      refine seq_is hS (by decide) (runs_eqStr (r := false) rfl rfl ((is7 _).trans (by rw [hk]; rfl))) (fun a1 hS => ?_)
      refine seq_is hS (by decide) (runs_assign rfl) (fun a1 hS => ?_)
      refine nil_ok (wp_cond_false (hS.eval rfl) (wp_skip (qx_seq (qx_seq (reg_seq ?_)))))
      refine seq_is hS (by decide) (runs_move rfl) (fun a1 hS => ?_)
      by_cases a1 : at_ > 0
      · skip
        refine seq_is hS (by decide) (runs_gtr (r := true) rfl rfl (by rw [decide_eq_true_eq]; omega)) (fun a1 hS => ?_)
        refine nil_ok (wp_cond_true (hS.eval rfl) (reg_seq ?_))
        refine seq_is hS (by decide) (runs_move rfl) (fun a1 hS => ?_)
        have hfb := ediv_bound (a := x.inn * 85) (b := 100) (M := 100000000000000000) (by omega) (by omega) (by omega) (by omega)
        refine seq_is hS (by decide) (runs_mul rfl rfl ((congrArg _ (Int.mul_comm _ _)).trans (wrap64 (by omega) (by omega)))) (fun a1 hS => ?_)
        refine seq_is hS (by decide) (runs_call (args := [.int .i64 (x.inn * 85), .int .i64 100]) goes40 rfl (floor_any (x.inn * 85) 100 (by omega) (by omega) (by omega) (by omega) w9)) (fun a1 hS => ?_)
        refine seq_is hS (by decide) (runs_add rfl rfl (wrap64 (by omega) (by omega))) (fun a1 hS => ?_)
        refine seq_is hS (by decide) (runs_fieldK fo28_1 rfl) (fun a1 hS => ?_)
        refine seq_none hS (runs_storeC rfl rfl rfl s1_2 hM7 rfl) (fun v11 w11 a1 hp hS => ?_)
        have hQ11 := hM7
        obtain ⟨hM7, hU11⟩ := hp
        have hB := But.new hB hU11 (fun i e => by rw [e]; exact hLhM7) (Nat.le_refl _)
        have hM1 := hM1.but hU11 (has_ne hM1 hQ11 (by decide))
        have hM3 := hM3.but hU11 (hNhM3hM7)
        have hM5 := hM5.but hU11 (hNhM5hM7)
        have hE := hEb.kept hB
        refine nil_ok (qx_seq (qx_seq (reg_seq ?_)))
        refine seq_is hS (by decide) (runs_move rfl) (fun a1 hS => ?_)
        refine seq_is hS (by decide) (runs_fieldK fo26_2 rfl) (fun a1 hS => ?_)
        refine seq_is hS (by decide) (runs_load rfl pl3 (hM1.at rfl)) (fun a1 hS => ?_)
        refine seq_is hS (by decide) (runs_sub rfl rfl (wrap64 (by omega) (by omega))) (fun a1 hS => ?_)
        by_cases la : at_ = steps - 1
        · skip
          refine seq_is hS (by decide) (runs_eql (r := true) rfl rfl (by simp [la])) (fun a1 hS => ?_)
          refine nil_ok (wp_cond_true (hS.eval rfl) (qx_seq (reg_seq ?_)))
          refine seq_is hS (by decide) (runs_loadRow rfl hM7 Try.underlying28 rfl (by rw [sz28]; rfl)) (fun a1 hS => ?_)
          refine seq_none hS (runs_storeB (cs := [.int .i64 x.id, .int .i64 (9830 + x.inn * 85 / 100), .bool false, .bool false, .int .i64 0]) rfl rfl hM5 rfl rfl sz28) (fun v13 w13 a1 hp hS => ?_)
          have hQ13 := hM5
          obtain ⟨hM5, hU13⟩ := hp
          have hB := But.new hB hU13 (fun i e => by rw [e]; exact hLhM5) (Nat.le_refl _)
          have hM1 := hM1.but hU13 (has_ne hM1 hQ13 (by decide))
          have hM3 := hM3.but hU13 (hNhM3hM5)
          have hM7 := hM7.but hU13 ((Ne.symm hNhM5hM7))
          have hE := hEb.kept hB
          refine seq_is hS (by decide) (runs_assign rfl) (fun a1 hS => ?_)
          have a0 : ¬ at_ = 0 := by omega
          have e0 : (at_ == 0) = false := by rw [beq_eq_false_iff_ne]; exact a0
          have e2 : (at_ == steps - 1) = true := by rw [beq_iff_eq]; exact la
          have hfin : runL (kindL tg.data.toList) (at_ == 0) (at_ == steps - 1) (x.id == src) x.has (if x.has = true then x.inn else 0) x.val l = (((9830 + x.inn * 85 / 100), false), []) := by rw [hk, e0, e2]; simp [runL, rankL, rankV, -decide_eq_true_eq, hh]
          rw [hfin]
          exact nil_ok (qx_ret (retRow2 (p := 8) (t := 9) (ty := 28) (by kernel_rfl) hS rfl rfl hM5 Try.underlying28 rfl (by rw [sz28]; rfl) ⟨_, rfl, hB, _, rfl, ⟨rfl, .inl ⟨rfl, rfl⟩⟩⟩))
        · skip
          refine seq_is hS (by decide) (runs_eql (r := false) rfl rfl (by simp [la])) (fun a1 hS => ?_)
          refine nil_ok (wp_cond_false (hS.eval rfl) (wp_skip (qx_seq (reg_seq ?_))))
          refine seq_is hS (by decide) (runs_fieldK fo28_2 rfl) (fun a1 hS => ?_)
          refine seq_none hS (runs_storeC rfl rfl rfl s1_4 hM7 rfl) (fun v15 w15 a1 hp hS => ?_)
          have hQ15 := hM7
          obtain ⟨hM7, hU15⟩ := hp
          have hB := But.new hB hU15 (fun i e => by rw [e]; exact hLhM7) (Nat.le_refl _)
          have hM1 := hM1.but hU15 (has_ne hM1 hQ15 (by decide))
          have hM3 := hM3.but hU15 (hNhM3hM7)
          have hM5 := hM5.but hU15 (hNhM5hM7)
          have hE := hEb.kept hB
          refine nil_ok (qx_seq (qx_seq (reg_seq ?_)))
          refine seq_is hS (by decide) (runs_move rfl) (fun a1 hS => ?_)
          refine seq_is hS (by decide) (runs_len rfl und22) (fun a1 hS => ?_)
          by_cases l0 : l.length = 0
          · skip
            refine seq_is hS (by decide) (runs_eql (r := true) rfl rfl (by simp [l0])) (fun a1 hS => ?_)
            refine nil_ok (wp_cond_true (hS.eval rfl) (qx_seq (reg_seq ?_)))
            refine seq_is hS (by decide) (runs_loadRow rfl hM7 Try.underlying28 rfl (by rw [sz28]; rfl)) (fun a1 hS => ?_)
            refine seq_none hS (runs_storeB (cs := [.int .i64 x.id, .int .i64 (9830 + x.inn * 85 / 100), .bool true, .bool false, .int .i64 0]) rfl rfl hM5 rfl rfl sz28) (fun v17 w17 a1 hp hS => ?_)
            have hQ17 := hM5
            obtain ⟨hM5, hU17⟩ := hp
            have hB := But.new hB hU17 (fun i e => by rw [e]; exact hLhM5) (Nat.le_refl _)
            have hM1 := hM1.but hU17 (has_ne hM1 hQ17 (by decide))
            have hM3 := hM3.but hU17 (hNhM3hM5)
            have hM7 := hM7.but hU17 ((Ne.symm hNhM5hM7))
            have hE := hEb.kept hB
            refine seq_is hS (by decide) (runs_assign rfl) (fun a1 hS => ?_)
            have a0 : ¬ at_ = 0 := by omega
            have e0 : (at_ == 0) = false := by rw [beq_eq_false_iff_ne]; exact a0
            have e2 : (at_ == steps - 1) = false := by rw [beq_eq_false_iff_ne]; exact la
            have hl0 : decide (0 < l.length) = false := by rw [decide_eq_false_iff_not]; omega
            have hfin : runL (kindL tg.data.toList) (at_ == 0) (at_ == steps - 1) (x.id == src) x.has (if x.has = true then x.inn else 0) x.val l = (((9830 + x.inn * 85 / 100), true), []) := by rw [hk, e0, e2]; simp [runL, rankL, rankV, -decide_eq_true_eq, hh, hl0]
            rw [hfin]
            exact nil_ok (qx_ret (retRow2 (p := 8) (t := 9) (ty := 28) (by kernel_rfl) hS rfl rfl hM5 Try.underlying28 rfl (by rw [sz28]; rfl) ⟨_, rfl, hB, _, rfl, ⟨rfl, .inl ⟨rfl, rfl⟩⟩⟩))
          · skip
            refine seq_is hS (by decide) (runs_eql (r := false) rfl rfl (by rw [beq_eq_false_iff_ne]; omega)) (fun a1 hS => ?_)
            refine nil_ok (wp_cond_false (hS.eval rfl) (wp_skip (qx_seq (?_))))
            have hd47 := ediv_bound (a := (9830 + x.inn * 85 / 100)) (b := ((l.length : Nat) : Int)) (M := 1200000000000000) (by omega) (by omega) (by omega) (by omega)
            have hBw := hB.size
            refine reg_guard (fun w' => Below w15.heap.size w15 w') [.inl (.agg #[.int .i64 x.id, .int .i64 (9830 + x.inn * 85 / 100), .bool true, .bool false, .int .i64 0]), .inl (.slice A l.length c), .inl (.pointer (some ⟨w5.heap.size, 0 + 1, none⟩)), .inl (.int .i64 (9830 + x.inn * 85 / 100)), .inl (.slice A l.length c), .inl (.int .i64 ((l.length : Nat) : Int)), .inl (.int .i64 ((9830 + x.inn * 85 / 100) / ((l.length : Nat) : Int))), .inr (fun u w' => w'.ownsRow w.heap.size 48 3 u (sendTo l (allF ((9830 + x.inn * 85 / 100) / ((l.length : Nat) : Int)) 0)).length (cellsE (sendTo l (allF ((9830 + x.inn * 85 / 100) / ((l.length : Nat) : Int)) 0))))] 8 2 mixed rfl (by kernel_rfl) hS (Below.refl _ _) (fun _ h => h.drew) ?_
            refine hs_is rfl (fun w' hw => runs_loadRow rfl (hM7.below hw hM7.lt) Try.underlying28 rfl (by rw [sz28]; rfl)) ?_
            refine hs_is rfl (fun w' hw => runs_move rfl) ?_
            refine hs_is rfl (fun w' hw => runs_fieldK fo28_1 rfl) ?_
            refine hs_is rfl (fun w' hw => runs_load rfl pl2 ((hM7.below hw hM7.lt).at rfl)) ?_
            refine hs_is rfl (fun w' hw => runs_move rfl) ?_
            refine hs_is rfl (fun w' hw => runs_len rfl und22) ?_
            refine hs_is rfl (fun w' hw => runs_call (args := [.int .i64 (9830 + x.inn * 85 / 100), .int .i64 ((l.length : Nat) : Int)]) goes40 rfl (floor_any (9830 + x.inn * 85 / 100) ((l.length : Nat) : Int) (by omega) (by omega) (by omega) (by omega) w')) ?_
            refine hs_pr rfl (fun _ _ _ h hb => owns_kept h hb) (fun w' hw hq => (runs_call (args := [.slice A l.length c, .int .i64 ((9830 + x.inn * 85 / 100) / ((l.length : Nat) : Int)), .int .i64 0]) goes39 rfl (rall_any l hsm _ ((9830 + x.inn * 85 / 100) / ((l.length : Nat) : Int)) 0 w' (hE.kept hw) (by omega) (by omega) hlw)).mono (by rintro u w5 ⟨hb, h3⟩; exact ⟨owns_mono h3 (Nat.le_trans hBw hw.size), hw.trans (hb.mono hw.size), hb⟩)) (fun sr => ?_)
            refine (fun a19 w19 hS hB19 hq => ?_)
            have hSent := (hq (7, _) List.mem_cons_self)
            clear hq
            have hB := hB.trans (hB19.mono hB.size)
            have hM1 := hM1.below hB19 hM1.lt
            have hM3 := hM3.below hB19 hM3.lt
            have hM5 := hM5.below hB19 hM5.lt
            have hM7 := hM7.below hB19 hM7.lt
            have hE := hEb.kept hB
            refine tail_none 8 (by kernel_rfl) rfl hS (runs_storeB (cs := [.int .i64 x.id, .int .i64 (9830 + x.inn * 85 / 100), .bool true, .bool false, .int .i64 0]) rfl rfl hM5 rfl rfl sz28) (fun v21 w21 a21 hp hS => ⟨trivial, ?_⟩)
            have hQ21 := hM5
            obtain ⟨hM5, hU21⟩ := hp
            have hB := But.new hB hU21 (fun i e => by rw [e]; exact hLhM5) (Nat.le_refl _)
            have hM1 := hM1.but hU21 (has_ne hM1 hQ21 (by decide))
            have hM3 := hM3.but hU21 (hNhM3hM5)
            have hM7 := hM7.but hU21 ((Ne.symm hNhM5hM7))
            have hE := hEb.kept hB
            have hSent := owns_but hSent hU21 (fun i old ho e => by subst e; exact has_ne ho hQ21 (by decide) rfl)
            refine tail_op 9 (by kernel_rfl) rfl hS (by decide) (runs_assign rfl) (fun v23 w23 a23 hp hS => ⟨trivial, ?_⟩)
            obtain ⟨rfl, rfl⟩ := hp
            refine wpAnyH_done (by kernel_rfl) ?_ _
            have a0 : ¬ at_ = 0 := by omega
            have e0 : (at_ == 0) = false := by rw [beq_eq_false_iff_ne]; exact a0
            have e2 : (at_ == steps - 1) = false := by rw [beq_eq_false_iff_ne]; exact la
            have hl0 : decide (0 < l.length) = true := by rw [decide_eq_true_eq]; omega
            have hfin : runL (kindL tg.data.toList) (at_ == 0) (at_ == steps - 1) (x.id == src) x.has (if x.has = true then x.inn else 0) x.val l = (((9830 + x.inn * 85 / 100), true), sendTo l (allF ((9830 + x.inn * 85 / 100) / ((l.length : Nat) : Int)) 0)) := by rw [hk, e0, e2]; simp [runL, rankL, rankV, allF_0, -decide_eq_true_eq, hh, hl0]
            rw [hfin]
            exact qx_ret (retRow2 (p := 8) (t := 9) (ty := 28) (by kernel_rfl) hS rfl rfl hM5 Try.underlying28 rfl (by rw [sz28]; rfl) ⟨_, rfl, hB, _, rfl, hSent⟩)
      · skip
        refine seq_is hS (by decide) (runs_gtr (r := false) rfl rfl (by rw [decide_eq_false_iff_not]; omega)) (fun a1 hS => ?_)
        refine nil_ok (wp_cond_false (hS.eval rfl) (wp_skip (qx_seq (qx_seq (reg_seq ?_)))))
        refine seq_is hS (by decide) (runs_move rfl) (fun a1 hS => ?_)
        refine seq_is hS (by decide) (runs_fieldK fo26_2 rfl) (fun a1 hS => ?_)
        refine seq_is hS (by decide) (runs_load rfl pl3 (hM1.at rfl)) (fun a1 hS => ?_)
        refine seq_is hS (by decide) (runs_sub rfl rfl (wrap64 (by omega) (by omega))) (fun a1 hS => ?_)
        by_cases la : at_ = steps - 1
        · skip
          refine seq_is hS (by decide) (runs_eql (r := true) rfl rfl (by simp [la])) (fun a1 hS => ?_)
          refine nil_ok (wp_cond_true (hS.eval rfl) (qx_seq (reg_seq ?_)))
          refine seq_is hS (by decide) (runs_loadRow rfl hM7 Try.underlying28 rfl (by rw [sz28]; rfl)) (fun a1 hS => ?_)
          refine seq_none hS (runs_storeB (cs := [.int .i64 x.id, .int .i64 x.val, .bool false, .bool false, .int .i64 0]) rfl rfl hM5 rfl rfl sz28) (fun v24 w24 a1 hp hS => ?_)
          have hQ24 := hM5
          obtain ⟨hM5, hU24⟩ := hp
          have hB := But.new hB hU24 (fun i e => by rw [e]; exact hLhM5) (Nat.le_refl _)
          have hM1 := hM1.but hU24 (has_ne hM1 hQ24 (by decide))
          have hM3 := hM3.but hU24 (hNhM3hM5)
          have hM7 := hM7.but hU24 ((Ne.symm hNhM5hM7))
          have hE := hEb.kept hB
          refine seq_is hS (by decide) (runs_assign rfl) (fun a1 hS => ?_)
          have a0 : at_ = 0 := by omega
          have e0 : (at_ == 0) = true := by rw [beq_iff_eq]; exact a0
          have e2 : (at_ == steps - 1) = true := by rw [beq_iff_eq]; exact la
          have hfin : runL (kindL tg.data.toList) (at_ == 0) (at_ == steps - 1) (x.id == src) x.has (if x.has = true then x.inn else 0) x.val l = ((x.val, false), []) := by rw [hk, e0, e2]; simp [runL, rankL, rankV, -decide_eq_true_eq]
          rw [hfin]
          exact nil_ok (qx_ret (retRow2 (p := 8) (t := 9) (ty := 28) (by kernel_rfl) hS rfl rfl hM5 Try.underlying28 rfl (by rw [sz28]; rfl) ⟨_, rfl, hB, _, rfl, ⟨rfl, .inl ⟨rfl, rfl⟩⟩⟩))
        · skip
          refine seq_is hS (by decide) (runs_eql (r := false) rfl rfl (by simp [la])) (fun a1 hS => ?_)
          refine nil_ok (wp_cond_false (hS.eval rfl) (wp_skip (qx_seq (reg_seq ?_))))
          refine seq_is hS (by decide) (runs_fieldK fo28_2 rfl) (fun a1 hS => ?_)
          refine seq_none hS (runs_storeC rfl rfl rfl s1_4 hM7 rfl) (fun v26 w26 a1 hp hS => ?_)
          have hQ26 := hM7
          obtain ⟨hM7, hU26⟩ := hp
          have hB := But.new hB hU26 (fun i e => by rw [e]; exact hLhM7) (Nat.le_refl _)
          have hM1 := hM1.but hU26 (has_ne hM1 hQ26 (by decide))
          have hM3 := hM3.but hU26 (hNhM3hM7)
          have hM5 := hM5.but hU26 (hNhM5hM7)
          have hE := hEb.kept hB
          refine nil_ok (qx_seq (qx_seq (reg_seq ?_)))
          refine seq_is hS (by decide) (runs_move rfl) (fun a1 hS => ?_)
          refine seq_is hS (by decide) (runs_len rfl und22) (fun a1 hS => ?_)
          by_cases l0 : l.length = 0
          · skip
            refine seq_is hS (by decide) (runs_eql (r := true) rfl rfl (by simp [l0])) (fun a1 hS => ?_)
            refine nil_ok (wp_cond_true (hS.eval rfl) (qx_seq (reg_seq ?_)))
            refine seq_is hS (by decide) (runs_loadRow rfl hM7 Try.underlying28 rfl (by rw [sz28]; rfl)) (fun a1 hS => ?_)
            refine seq_none hS (runs_storeB (cs := [.int .i64 x.id, .int .i64 x.val, .bool true, .bool false, .int .i64 0]) rfl rfl hM5 rfl rfl sz28) (fun v28 w28 a1 hp hS => ?_)
            have hQ28 := hM5
            obtain ⟨hM5, hU28⟩ := hp
            have hB := But.new hB hU28 (fun i e => by rw [e]; exact hLhM5) (Nat.le_refl _)
            have hM1 := hM1.but hU28 (has_ne hM1 hQ28 (by decide))
            have hM3 := hM3.but hU28 (hNhM3hM5)
            have hM7 := hM7.but hU28 ((Ne.symm hNhM5hM7))
            have hE := hEb.kept hB
            refine seq_is hS (by decide) (runs_assign rfl) (fun a1 hS => ?_)
            have a0 : at_ = 0 := by omega
            have e0 : (at_ == 0) = true := by rw [beq_iff_eq]; exact a0
            have e2 : (at_ == steps - 1) = false := by rw [beq_eq_false_iff_ne]; exact la
            have hl0 : decide (0 < l.length) = false := by rw [decide_eq_false_iff_not]; omega
            have hfin : runL (kindL tg.data.toList) (at_ == 0) (at_ == steps - 1) (x.id == src) x.has (if x.has = true then x.inn else 0) x.val l = ((x.val, true), []) := by rw [hk, e0, e2]; simp [runL, rankL, rankV, -decide_eq_true_eq, hl0]
            rw [hfin]
            exact nil_ok (qx_ret (retRow2 (p := 8) (t := 9) (ty := 28) (by kernel_rfl) hS rfl rfl hM5 Try.underlying28 rfl (by rw [sz28]; rfl) ⟨_, rfl, hB, _, rfl, ⟨rfl, .inl ⟨rfl, rfl⟩⟩⟩))
          · skip
            refine seq_is hS (by decide) (runs_eql (r := false) rfl rfl (by rw [beq_eq_false_iff_ne]; omega)) (fun a1 hS => ?_)
            refine nil_ok (wp_cond_false (hS.eval rfl) (wp_skip (qx_seq (?_))))
            have hd47 := ediv_bound (a := x.val) (b := ((l.length : Nat) : Int)) (M := 1200000000000000) (by omega) (by omega) (by omega) (by omega)
            have hBw := hB.size
            refine reg_guard (fun w' => Below w26.heap.size w26 w') [.inl (.agg #[.int .i64 x.id, .int .i64 x.val, .bool true, .bool false, .int .i64 0]), .inl (.slice A l.length c), .inl (.pointer (some ⟨w5.heap.size, 0 + 1, none⟩)), .inl (.int .i64 x.val), .inl (.slice A l.length c), .inl (.int .i64 ((l.length : Nat) : Int)), .inl (.int .i64 (x.val / ((l.length : Nat) : Int))), .inr (fun u w' => w'.ownsRow w.heap.size 48 3 u (sendTo l (allF (x.val / ((l.length : Nat) : Int)) 0)).length (cellsE (sendTo l (allF (x.val / ((l.length : Nat) : Int)) 0))))] 8 2 mixed rfl (by kernel_rfl) hS (Below.refl _ _) (fun _ h => h.drew) ?_
            refine hs_is rfl (fun w' hw => runs_loadRow rfl (hM7.below hw hM7.lt) Try.underlying28 rfl (by rw [sz28]; rfl)) ?_
            refine hs_is rfl (fun w' hw => runs_move rfl) ?_
            refine hs_is rfl (fun w' hw => runs_fieldK fo28_1 rfl) ?_
            refine hs_is rfl (fun w' hw => runs_load rfl pl2 ((hM7.below hw hM7.lt).at rfl)) ?_
            refine hs_is rfl (fun w' hw => runs_move rfl) ?_
            refine hs_is rfl (fun w' hw => runs_len rfl und22) ?_
            refine hs_is rfl (fun w' hw => runs_call (args := [.int .i64 x.val, .int .i64 ((l.length : Nat) : Int)]) goes40 rfl (floor_any x.val ((l.length : Nat) : Int) (by omega) (by omega) (by omega) (by omega) w')) ?_
            refine hs_pr rfl (fun _ _ _ h hb => owns_kept h hb) (fun w' hw hq => (runs_call (args := [.slice A l.length c, .int .i64 (x.val / ((l.length : Nat) : Int)), .int .i64 0]) goes39 rfl (rall_any l hsm _ (x.val / ((l.length : Nat) : Int)) 0 w' (hE.kept hw) (by omega) (by omega) hlw)).mono (by rintro u w5 ⟨hb, h3⟩; exact ⟨owns_mono h3 (Nat.le_trans hBw hw.size), hw.trans (hb.mono hw.size), hb⟩)) (fun sr => ?_)
            refine (fun a30 w30 hS hB30 hq => ?_)
            have hSent := (hq (7, _) List.mem_cons_self)
            clear hq
            have hB := hB.trans (hB30.mono hB.size)
            have hM1 := hM1.below hB30 hM1.lt
            have hM3 := hM3.below hB30 hM3.lt
            have hM5 := hM5.below hB30 hM5.lt
            have hM7 := hM7.below hB30 hM7.lt
            have hE := hEb.kept hB
            refine tail_none 8 (by kernel_rfl) rfl hS (runs_storeB (cs := [.int .i64 x.id, .int .i64 x.val, .bool true, .bool false, .int .i64 0]) rfl rfl hM5 rfl rfl sz28) (fun v32 w32 a32 hp hS => ⟨trivial, ?_⟩)
            have hQ32 := hM5
            obtain ⟨hM5, hU32⟩ := hp
            have hB := But.new hB hU32 (fun i e => by rw [e]; exact hLhM5) (Nat.le_refl _)
            have hM1 := hM1.but hU32 (has_ne hM1 hQ32 (by decide))
            have hM3 := hM3.but hU32 (hNhM3hM5)
            have hM7 := hM7.but hU32 ((Ne.symm hNhM5hM7))
            have hE := hEb.kept hB
            have hSent := owns_but hSent hU32 (fun i old ho e => by subst e; exact has_ne ho hQ32 (by decide) rfl)
            refine tail_op 9 (by kernel_rfl) rfl hS (by decide) (runs_assign rfl) (fun v34 w34 a34 hp hS => ⟨trivial, ?_⟩)
            obtain ⟨rfl, rfl⟩ := hp
            refine wpAnyH_done (by kernel_rfl) ?_ _
            have a0 : at_ = 0 := by omega
            have e0 : (at_ == 0) = true := by rw [beq_iff_eq]; exact a0
            have e2 : (at_ == steps - 1) = false := by rw [beq_eq_false_iff_ne]; exact la
            have hl0 : decide (0 < l.length) = true := by rw [decide_eq_true_eq]; omega
            have hfin : runL (kindL tg.data.toList) (at_ == 0) (at_ == steps - 1) (x.id == src) x.has (if x.has = true then x.inn else 0) x.val l = ((x.val, true), sendTo l (allF (x.val / ((l.length : Nat) : Int)) 0)) := by rw [hk, e0, e2]; simp [runL, rankL, rankV, allF_0, -decide_eq_true_eq, hl0]
            rw [hfin]
            exact qx_ret (retRow2 (p := 8) (t := 9) (ty := 28) (by kernel_rfl) hS rfl rfl hM5 Try.underlying28 rfl (by rw [sz28]; rfl) ⟨_, rfl, hB, _, rfl, hSent⟩)
    · skip
      refine seq_is hS (by decide) (runs_load rfl pl4 ((hM3.at rfl).trans (by rw [Bool.eq_false_iff.2 hh]))) (fun a1 hS => ?_)
      refine seq_is hS (by decide) (runs_not (b := false) rfl) (fun a1 hS => ?_)
      refine nil_ok (wp_cond_true (hS.eval rfl) (reg_seq ?_))
      refine seq_is hS (by decide) (runs_assign rfl) (fun a1 hS => ?_)
      refine nil_ok (qx_seq (qx_seq (reg_seq ?_)))
      refine seq_is hS (by decide) (runs_fieldK fo26_0 rfl) (fun a1 hS => ?_)
      refine seq_is hS (by decide) (runs_load rfl pl9 (hM1.at rfl)) (fun a1 hS => ?_)
      refine nil_ok (qx_block (qx_seq (qx_seq (reg_seq ?_))))
      refine seq_is hS (by decide) (runs_eqStr (r := false) rfl rfl ((is1 _).trans (by rw [hk]; rfl))) (fun a1 hS => ?_)
      refine seq_is hS (by decide) (runs_assign rfl) (fun a1 hS => ?_)
      refine nil_ok (wp_cond_false (hS.eval rfl) (reg_seq ?_))
      refine seq_is hS (by decide) (runs_eqStr (r := false) rfl rfl ((is2 _).trans (by rw [hk]; rfl))) (fun a1 hS => ?_)
      refine seq_is hS (by decide) (runs_assign rfl) (fun a1 hS => ?_)
      refine nil_ok (wp_cond_false (hS.eval rfl) (qx_seq (qx_seq (reg_seq ?_))))
      refine seq_is hS (by decide) (runs_eqStr (r := false) rfl rfl ((is3 _).trans (by rw [hk]; rfl))) (fun a1 hS => ?_)
      refine seq_is hS (by decide) (runs_assign rfl) (fun a1 hS => ?_)
      refine nil_ok (wp_cond_false (hS.eval rfl) (reg_seq ?_))
      refine seq_is hS (by decide) (runs_eqStr (r := false) rfl rfl ((is4 _).trans (by rw [hk]; rfl))) (fun a1 hS => ?_)
      refine seq_is hS (by decide) (runs_assign rfl) (fun a1 hS => ?_)
      refine nil_ok (wp_cond_false (hS.eval rfl) (qx_seq (reg_seq ?_)))
      refine seq_is hS (by decide) (runs_eqStr (r := false) rfl rfl ((is5 _).trans (by rw [hk]; rfl))) (fun a1 hS => ?_)
      refine seq_is hS (by decide) (runs_assign rfl) (fun a1 hS => ?_)
      refine nil_ok (wp_cond_false (hS.eval rfl) (qx_seq (reg_seq ?_)))
      refine seq_is hS (by decide) (runs_eqStr (r := false) rfl rfl ((is7 _).trans (by rw [hk]; rfl))) (fun a1 hS => ?_)
      refine seq_is hS (by decide) (runs_assign rfl) (fun a1 hS => ?_)
      refine nil_ok (wp_cond_false (hS.eval rfl) (wp_skip (qx_seq (qx_seq (reg_seq ?_)))))
      refine seq_is hS (by decide) (runs_move rfl) (fun a1 hS => ?_)
      by_cases a1 : at_ > 0
      · skip
        refine seq_is hS (by decide) (runs_gtr (r := true) rfl rfl (by rw [decide_eq_true_eq]; omega)) (fun a1 hS => ?_)
        refine nil_ok (wp_cond_true (hS.eval rfl) (reg_seq ?_))
        refine seq_is hS (by decide) (runs_move rfl) (fun a1 hS => ?_)
        have hfb := ediv_bound (a := 0 * 85) (b := 100) (M := 100000000000000000) (by omega) (by omega) (by omega) (by omega)
        refine seq_is hS (by decide) (runs_mul rfl rfl ((congrArg _ (Int.mul_comm _ _)).trans (wrap64 (by omega) (by omega)))) (fun a1 hS => ?_)
        refine seq_is hS (by decide) (runs_call (args := [.int .i64 (0 * 85), .int .i64 100]) goes40 rfl (floor_any (0 * 85) 100 (by omega) (by omega) (by omega) (by omega) w9)) (fun a1 hS => ?_)
        refine seq_is hS (by decide) (runs_add rfl rfl (wrap64 (by omega) (by omega))) (fun a1 hS => ?_)
        refine seq_is hS (by decide) (runs_fieldK fo28_1 rfl) (fun a1 hS => ?_)
        refine seq_none hS (runs_storeC rfl rfl rfl s1_2 hM7 rfl) (fun v35 w35 a1 hp hS => ?_)
        have hQ35 := hM7
        obtain ⟨hM7, hU35⟩ := hp
        have hB := But.new hB hU35 (fun i e => by rw [e]; exact hLhM7) (Nat.le_refl _)
        have hM1 := hM1.but hU35 (has_ne hM1 hQ35 (by decide))
        have hM3 := hM3.but hU35 (hNhM3hM7)
        have hM5 := hM5.but hU35 (hNhM5hM7)
        have hE := hEb.kept hB
        refine nil_ok (qx_seq (qx_seq (reg_seq ?_)))
        refine seq_is hS (by decide) (runs_move rfl) (fun a1 hS => ?_)
        refine seq_is hS (by decide) (runs_fieldK fo26_2 rfl) (fun a1 hS => ?_)
        refine seq_is hS (by decide) (runs_load rfl pl3 (hM1.at rfl)) (fun a1 hS => ?_)
        refine seq_is hS (by decide) (runs_sub rfl rfl (wrap64 (by omega) (by omega))) (fun a1 hS => ?_)
        by_cases la : at_ = steps - 1
        · skip
          refine seq_is hS (by decide) (runs_eql (r := true) rfl rfl (by simp [la])) (fun a1 hS => ?_)
          refine nil_ok (wp_cond_true (hS.eval rfl) (qx_seq (reg_seq ?_)))
          refine seq_is hS (by decide) (runs_loadRow rfl hM7 Try.underlying28 rfl (by rw [sz28]; rfl)) (fun a1 hS => ?_)
          refine seq_none hS (runs_storeB (cs := [.int .i64 x.id, .int .i64 (9830 + 0 * 85 / 100), .bool false, .bool false, .int .i64 0]) rfl rfl hM5 rfl rfl sz28) (fun v37 w37 a1 hp hS => ?_)
          have hQ37 := hM5
          obtain ⟨hM5, hU37⟩ := hp
          have hB := But.new hB hU37 (fun i e => by rw [e]; exact hLhM5) (Nat.le_refl _)
          have hM1 := hM1.but hU37 (has_ne hM1 hQ37 (by decide))
          have hM3 := hM3.but hU37 (hNhM3hM5)
          have hM7 := hM7.but hU37 ((Ne.symm hNhM5hM7))
          have hE := hEb.kept hB
          refine seq_is hS (by decide) (runs_assign rfl) (fun a1 hS => ?_)
          have a0 : ¬ at_ = 0 := by omega
          have e0 : (at_ == 0) = false := by rw [beq_eq_false_iff_ne]; exact a0
          have e2 : (at_ == steps - 1) = true := by rw [beq_iff_eq]; exact la
          have hfin : runL (kindL tg.data.toList) (at_ == 0) (at_ == steps - 1) (x.id == src) x.has (if x.has = true then x.inn else 0) x.val l = (((9830 + 0 * 85 / 100), false), []) := by rw [hk, e0, e2]; simp [runL, rankL, rankV, -decide_eq_true_eq, hh]
          rw [hfin]
          exact nil_ok (qx_ret (retRow2 (p := 8) (t := 9) (ty := 28) (by kernel_rfl) hS rfl rfl hM5 Try.underlying28 rfl (by rw [sz28]; rfl) ⟨_, rfl, hB, _, rfl, ⟨rfl, .inl ⟨rfl, rfl⟩⟩⟩))
        · skip
          refine seq_is hS (by decide) (runs_eql (r := false) rfl rfl (by simp [la])) (fun a1 hS => ?_)
          refine nil_ok (wp_cond_false (hS.eval rfl) (wp_skip (qx_seq (reg_seq ?_))))
          refine seq_is hS (by decide) (runs_fieldK fo28_2 rfl) (fun a1 hS => ?_)
          refine seq_none hS (runs_storeC rfl rfl rfl s1_4 hM7 rfl) (fun v39 w39 a1 hp hS => ?_)
          have hQ39 := hM7
          obtain ⟨hM7, hU39⟩ := hp
          have hB := But.new hB hU39 (fun i e => by rw [e]; exact hLhM7) (Nat.le_refl _)
          have hM1 := hM1.but hU39 (has_ne hM1 hQ39 (by decide))
          have hM3 := hM3.but hU39 (hNhM3hM7)
          have hM5 := hM5.but hU39 (hNhM5hM7)
          have hE := hEb.kept hB
          refine nil_ok (qx_seq (qx_seq (reg_seq ?_)))
          refine seq_is hS (by decide) (runs_move rfl) (fun a1 hS => ?_)
          refine seq_is hS (by decide) (runs_len rfl und22) (fun a1 hS => ?_)
          by_cases l0 : l.length = 0
          · skip
            refine seq_is hS (by decide) (runs_eql (r := true) rfl rfl (by simp [l0])) (fun a1 hS => ?_)
            refine nil_ok (wp_cond_true (hS.eval rfl) (qx_seq (reg_seq ?_)))
            refine seq_is hS (by decide) (runs_loadRow rfl hM7 Try.underlying28 rfl (by rw [sz28]; rfl)) (fun a1 hS => ?_)
            refine seq_none hS (runs_storeB (cs := [.int .i64 x.id, .int .i64 (9830 + 0 * 85 / 100), .bool true, .bool false, .int .i64 0]) rfl rfl hM5 rfl rfl sz28) (fun v41 w41 a1 hp hS => ?_)
            have hQ41 := hM5
            obtain ⟨hM5, hU41⟩ := hp
            have hB := But.new hB hU41 (fun i e => by rw [e]; exact hLhM5) (Nat.le_refl _)
            have hM1 := hM1.but hU41 (has_ne hM1 hQ41 (by decide))
            have hM3 := hM3.but hU41 (hNhM3hM5)
            have hM7 := hM7.but hU41 ((Ne.symm hNhM5hM7))
            have hE := hEb.kept hB
            refine seq_is hS (by decide) (runs_assign rfl) (fun a1 hS => ?_)
            have a0 : ¬ at_ = 0 := by omega
            have e0 : (at_ == 0) = false := by rw [beq_eq_false_iff_ne]; exact a0
            have e2 : (at_ == steps - 1) = false := by rw [beq_eq_false_iff_ne]; exact la
            have hl0 : decide (0 < l.length) = false := by rw [decide_eq_false_iff_not]; omega
            have hfin : runL (kindL tg.data.toList) (at_ == 0) (at_ == steps - 1) (x.id == src) x.has (if x.has = true then x.inn else 0) x.val l = (((9830 + 0 * 85 / 100), true), []) := by rw [hk, e0, e2]; simp [runL, rankL, rankV, -decide_eq_true_eq, hh, hl0]
            rw [hfin]
            exact nil_ok (qx_ret (retRow2 (p := 8) (t := 9) (ty := 28) (by kernel_rfl) hS rfl rfl hM5 Try.underlying28 rfl (by rw [sz28]; rfl) ⟨_, rfl, hB, _, rfl, ⟨rfl, .inl ⟨rfl, rfl⟩⟩⟩))
          · skip
            refine seq_is hS (by decide) (runs_eql (r := false) rfl rfl (by rw [beq_eq_false_iff_ne]; omega)) (fun a1 hS => ?_)
            refine nil_ok (wp_cond_false (hS.eval rfl) (wp_skip (qx_seq (?_))))
            have hd47 := ediv_bound (a := (9830 + 0 * 85 / 100)) (b := ((l.length : Nat) : Int)) (M := 1200000000000000) (by omega) (by omega) (by omega) (by omega)
            have hBw := hB.size
            refine reg_guard (fun w' => Below w39.heap.size w39 w') [.inl (.agg #[.int .i64 x.id, .int .i64 (9830 + 0 * 85 / 100), .bool true, .bool false, .int .i64 0]), .inl (.slice A l.length c), .inl (.pointer (some ⟨w5.heap.size, 0 + 1, none⟩)), .inl (.int .i64 (9830 + 0 * 85 / 100)), .inl (.slice A l.length c), .inl (.int .i64 ((l.length : Nat) : Int)), .inl (.int .i64 ((9830 + 0 * 85 / 100) / ((l.length : Nat) : Int))), .inr (fun u w' => w'.ownsRow w.heap.size 48 3 u (sendTo l (allF ((9830 + 0 * 85 / 100) / ((l.length : Nat) : Int)) 0)).length (cellsE (sendTo l (allF ((9830 + 0 * 85 / 100) / ((l.length : Nat) : Int)) 0))))] 8 2 mixed rfl (by kernel_rfl) hS (Below.refl _ _) (fun _ h => h.drew) ?_
            refine hs_is rfl (fun w' hw => runs_loadRow rfl (hM7.below hw hM7.lt) Try.underlying28 rfl (by rw [sz28]; rfl)) ?_
            refine hs_is rfl (fun w' hw => runs_move rfl) ?_
            refine hs_is rfl (fun w' hw => runs_fieldK fo28_1 rfl) ?_
            refine hs_is rfl (fun w' hw => runs_load rfl pl2 ((hM7.below hw hM7.lt).at rfl)) ?_
            refine hs_is rfl (fun w' hw => runs_move rfl) ?_
            refine hs_is rfl (fun w' hw => runs_len rfl und22) ?_
            refine hs_is rfl (fun w' hw => runs_call (args := [.int .i64 (9830 + 0 * 85 / 100), .int .i64 ((l.length : Nat) : Int)]) goes40 rfl (floor_any (9830 + 0 * 85 / 100) ((l.length : Nat) : Int) (by omega) (by omega) (by omega) (by omega) w')) ?_
            refine hs_pr rfl (fun _ _ _ h hb => owns_kept h hb) (fun w' hw hq => (runs_call (args := [.slice A l.length c, .int .i64 ((9830 + 0 * 85 / 100) / ((l.length : Nat) : Int)), .int .i64 0]) goes39 rfl (rall_any l hsm _ ((9830 + 0 * 85 / 100) / ((l.length : Nat) : Int)) 0 w' (hE.kept hw) (by omega) (by omega) hlw)).mono (by rintro u w5 ⟨hb, h3⟩; exact ⟨owns_mono h3 (Nat.le_trans hBw hw.size), hw.trans (hb.mono hw.size), hb⟩)) (fun sr => ?_)
            refine (fun a43 w43 hS hB43 hq => ?_)
            have hSent := (hq (7, _) List.mem_cons_self)
            clear hq
            have hB := hB.trans (hB43.mono hB.size)
            have hM1 := hM1.below hB43 hM1.lt
            have hM3 := hM3.below hB43 hM3.lt
            have hM5 := hM5.below hB43 hM5.lt
            have hM7 := hM7.below hB43 hM7.lt
            have hE := hEb.kept hB
            refine tail_none 8 (by kernel_rfl) rfl hS (runs_storeB (cs := [.int .i64 x.id, .int .i64 (9830 + 0 * 85 / 100), .bool true, .bool false, .int .i64 0]) rfl rfl hM5 rfl rfl sz28) (fun v45 w45 a45 hp hS => ⟨trivial, ?_⟩)
            have hQ45 := hM5
            obtain ⟨hM5, hU45⟩ := hp
            have hB := But.new hB hU45 (fun i e => by rw [e]; exact hLhM5) (Nat.le_refl _)
            have hM1 := hM1.but hU45 (has_ne hM1 hQ45 (by decide))
            have hM3 := hM3.but hU45 (hNhM3hM5)
            have hM7 := hM7.but hU45 ((Ne.symm hNhM5hM7))
            have hE := hEb.kept hB
            have hSent := owns_but hSent hU45 (fun i old ho e => by subst e; exact has_ne ho hQ45 (by decide) rfl)
            refine tail_op 9 (by kernel_rfl) rfl hS (by decide) (runs_assign rfl) (fun v47 w47 a47 hp hS => ⟨trivial, ?_⟩)
            obtain ⟨rfl, rfl⟩ := hp
            refine wpAnyH_done (by kernel_rfl) ?_ _
            have a0 : ¬ at_ = 0 := by omega
            have e0 : (at_ == 0) = false := by rw [beq_eq_false_iff_ne]; exact a0
            have e2 : (at_ == steps - 1) = false := by rw [beq_eq_false_iff_ne]; exact la
            have hl0 : decide (0 < l.length) = true := by rw [decide_eq_true_eq]; omega
            have hfin : runL (kindL tg.data.toList) (at_ == 0) (at_ == steps - 1) (x.id == src) x.has (if x.has = true then x.inn else 0) x.val l = (((9830 + 0 * 85 / 100), true), sendTo l (allF ((9830 + 0 * 85 / 100) / ((l.length : Nat) : Int)) 0)) := by rw [hk, e0, e2]; simp [runL, rankL, rankV, allF_0, -decide_eq_true_eq, hh, hl0]
            rw [hfin]
            exact qx_ret (retRow2 (p := 8) (t := 9) (ty := 28) (by kernel_rfl) hS rfl rfl hM5 Try.underlying28 rfl (by rw [sz28]; rfl) ⟨_, rfl, hB, _, rfl, hSent⟩)
      · skip
        refine seq_is hS (by decide) (runs_gtr (r := false) rfl rfl (by rw [decide_eq_false_iff_not]; omega)) (fun a1 hS => ?_)
        refine nil_ok (wp_cond_false (hS.eval rfl) (wp_skip (qx_seq (qx_seq (reg_seq ?_)))))
        refine seq_is hS (by decide) (runs_move rfl) (fun a1 hS => ?_)
        refine seq_is hS (by decide) (runs_fieldK fo26_2 rfl) (fun a1 hS => ?_)
        refine seq_is hS (by decide) (runs_load rfl pl3 (hM1.at rfl)) (fun a1 hS => ?_)
        refine seq_is hS (by decide) (runs_sub rfl rfl (wrap64 (by omega) (by omega))) (fun a1 hS => ?_)
        by_cases la : at_ = steps - 1
        · skip
          refine seq_is hS (by decide) (runs_eql (r := true) rfl rfl (by simp [la])) (fun a1 hS => ?_)
          refine nil_ok (wp_cond_true (hS.eval rfl) (qx_seq (reg_seq ?_)))
          refine seq_is hS (by decide) (runs_loadRow rfl hM7 Try.underlying28 rfl (by rw [sz28]; rfl)) (fun a1 hS => ?_)
          refine seq_none hS (runs_storeB (cs := [.int .i64 x.id, .int .i64 x.val, .bool false, .bool false, .int .i64 0]) rfl rfl hM5 rfl rfl sz28) (fun v48 w48 a1 hp hS => ?_)
          have hQ48 := hM5
          obtain ⟨hM5, hU48⟩ := hp
          have hB := But.new hB hU48 (fun i e => by rw [e]; exact hLhM5) (Nat.le_refl _)
          have hM1 := hM1.but hU48 (has_ne hM1 hQ48 (by decide))
          have hM3 := hM3.but hU48 (hNhM3hM5)
          have hM7 := hM7.but hU48 ((Ne.symm hNhM5hM7))
          have hE := hEb.kept hB
          refine seq_is hS (by decide) (runs_assign rfl) (fun a1 hS => ?_)
          have a0 : at_ = 0 := by omega
          have e0 : (at_ == 0) = true := by rw [beq_iff_eq]; exact a0
          have e2 : (at_ == steps - 1) = true := by rw [beq_iff_eq]; exact la
          have hfin : runL (kindL tg.data.toList) (at_ == 0) (at_ == steps - 1) (x.id == src) x.has (if x.has = true then x.inn else 0) x.val l = ((x.val, false), []) := by rw [hk, e0, e2]; simp [runL, rankL, rankV, -decide_eq_true_eq]
          rw [hfin]
          exact nil_ok (qx_ret (retRow2 (p := 8) (t := 9) (ty := 28) (by kernel_rfl) hS rfl rfl hM5 Try.underlying28 rfl (by rw [sz28]; rfl) ⟨_, rfl, hB, _, rfl, ⟨rfl, .inl ⟨rfl, rfl⟩⟩⟩))
        · skip
          refine seq_is hS (by decide) (runs_eql (r := false) rfl rfl (by simp [la])) (fun a1 hS => ?_)
          refine nil_ok (wp_cond_false (hS.eval rfl) (wp_skip (qx_seq (reg_seq ?_))))
          refine seq_is hS (by decide) (runs_fieldK fo28_2 rfl) (fun a1 hS => ?_)
          refine seq_none hS (runs_storeC rfl rfl rfl s1_4 hM7 rfl) (fun v50 w50 a1 hp hS => ?_)
          have hQ50 := hM7
          obtain ⟨hM7, hU50⟩ := hp
          have hB := But.new hB hU50 (fun i e => by rw [e]; exact hLhM7) (Nat.le_refl _)
          have hM1 := hM1.but hU50 (has_ne hM1 hQ50 (by decide))
          have hM3 := hM3.but hU50 (hNhM3hM7)
          have hM5 := hM5.but hU50 (hNhM5hM7)
          have hE := hEb.kept hB
          refine nil_ok (qx_seq (qx_seq (reg_seq ?_)))
          refine seq_is hS (by decide) (runs_move rfl) (fun a1 hS => ?_)
          refine seq_is hS (by decide) (runs_len rfl und22) (fun a1 hS => ?_)
          by_cases l0 : l.length = 0
          · skip
            refine seq_is hS (by decide) (runs_eql (r := true) rfl rfl (by simp [l0])) (fun a1 hS => ?_)
            refine nil_ok (wp_cond_true (hS.eval rfl) (qx_seq (reg_seq ?_)))
            refine seq_is hS (by decide) (runs_loadRow rfl hM7 Try.underlying28 rfl (by rw [sz28]; rfl)) (fun a1 hS => ?_)
            refine seq_none hS (runs_storeB (cs := [.int .i64 x.id, .int .i64 x.val, .bool true, .bool false, .int .i64 0]) rfl rfl hM5 rfl rfl sz28) (fun v52 w52 a1 hp hS => ?_)
            have hQ52 := hM5
            obtain ⟨hM5, hU52⟩ := hp
            have hB := But.new hB hU52 (fun i e => by rw [e]; exact hLhM5) (Nat.le_refl _)
            have hM1 := hM1.but hU52 (has_ne hM1 hQ52 (by decide))
            have hM3 := hM3.but hU52 (hNhM3hM5)
            have hM7 := hM7.but hU52 ((Ne.symm hNhM5hM7))
            have hE := hEb.kept hB
            refine seq_is hS (by decide) (runs_assign rfl) (fun a1 hS => ?_)
            have a0 : at_ = 0 := by omega
            have e0 : (at_ == 0) = true := by rw [beq_iff_eq]; exact a0
            have e2 : (at_ == steps - 1) = false := by rw [beq_eq_false_iff_ne]; exact la
            have hl0 : decide (0 < l.length) = false := by rw [decide_eq_false_iff_not]; omega
            have hfin : runL (kindL tg.data.toList) (at_ == 0) (at_ == steps - 1) (x.id == src) x.has (if x.has = true then x.inn else 0) x.val l = ((x.val, true), []) := by rw [hk, e0, e2]; simp [runL, rankL, rankV, -decide_eq_true_eq, hl0]
            rw [hfin]
            exact nil_ok (qx_ret (retRow2 (p := 8) (t := 9) (ty := 28) (by kernel_rfl) hS rfl rfl hM5 Try.underlying28 rfl (by rw [sz28]; rfl) ⟨_, rfl, hB, _, rfl, ⟨rfl, .inl ⟨rfl, rfl⟩⟩⟩))
          · skip
            refine seq_is hS (by decide) (runs_eql (r := false) rfl rfl (by rw [beq_eq_false_iff_ne]; omega)) (fun a1 hS => ?_)
            refine nil_ok (wp_cond_false (hS.eval rfl) (wp_skip (qx_seq (?_))))
            have hd47 := ediv_bound (a := x.val) (b := ((l.length : Nat) : Int)) (M := 1200000000000000) (by omega) (by omega) (by omega) (by omega)
            have hBw := hB.size
            refine reg_guard (fun w' => Below w50.heap.size w50 w') [.inl (.agg #[.int .i64 x.id, .int .i64 x.val, .bool true, .bool false, .int .i64 0]), .inl (.slice A l.length c), .inl (.pointer (some ⟨w5.heap.size, 0 + 1, none⟩)), .inl (.int .i64 x.val), .inl (.slice A l.length c), .inl (.int .i64 ((l.length : Nat) : Int)), .inl (.int .i64 (x.val / ((l.length : Nat) : Int))), .inr (fun u w' => w'.ownsRow w.heap.size 48 3 u (sendTo l (allF (x.val / ((l.length : Nat) : Int)) 0)).length (cellsE (sendTo l (allF (x.val / ((l.length : Nat) : Int)) 0))))] 8 2 mixed rfl (by kernel_rfl) hS (Below.refl _ _) (fun _ h => h.drew) ?_
            refine hs_is rfl (fun w' hw => runs_loadRow rfl (hM7.below hw hM7.lt) Try.underlying28 rfl (by rw [sz28]; rfl)) ?_
            refine hs_is rfl (fun w' hw => runs_move rfl) ?_
            refine hs_is rfl (fun w' hw => runs_fieldK fo28_1 rfl) ?_
            refine hs_is rfl (fun w' hw => runs_load rfl pl2 ((hM7.below hw hM7.lt).at rfl)) ?_
            refine hs_is rfl (fun w' hw => runs_move rfl) ?_
            refine hs_is rfl (fun w' hw => runs_len rfl und22) ?_
            refine hs_is rfl (fun w' hw => runs_call (args := [.int .i64 x.val, .int .i64 ((l.length : Nat) : Int)]) goes40 rfl (floor_any x.val ((l.length : Nat) : Int) (by omega) (by omega) (by omega) (by omega) w')) ?_
            refine hs_pr rfl (fun _ _ _ h hb => owns_kept h hb) (fun w' hw hq => (runs_call (args := [.slice A l.length c, .int .i64 (x.val / ((l.length : Nat) : Int)), .int .i64 0]) goes39 rfl (rall_any l hsm _ (x.val / ((l.length : Nat) : Int)) 0 w' (hE.kept hw) (by omega) (by omega) hlw)).mono (by rintro u w5 ⟨hb, h3⟩; exact ⟨owns_mono h3 (Nat.le_trans hBw hw.size), hw.trans (hb.mono hw.size), hb⟩)) (fun sr => ?_)
            refine (fun a54 w54 hS hB54 hq => ?_)
            have hSent := (hq (7, _) List.mem_cons_self)
            clear hq
            have hB := hB.trans (hB54.mono hB.size)
            have hM1 := hM1.below hB54 hM1.lt
            have hM3 := hM3.below hB54 hM3.lt
            have hM5 := hM5.below hB54 hM5.lt
            have hM7 := hM7.below hB54 hM7.lt
            have hE := hEb.kept hB
            refine tail_none 8 (by kernel_rfl) rfl hS (runs_storeB (cs := [.int .i64 x.id, .int .i64 x.val, .bool true, .bool false, .int .i64 0]) rfl rfl hM5 rfl rfl sz28) (fun v56 w56 a56 hp hS => ⟨trivial, ?_⟩)
            have hQ56 := hM5
            obtain ⟨hM5, hU56⟩ := hp
            have hB := But.new hB hU56 (fun i e => by rw [e]; exact hLhM5) (Nat.le_refl _)
            have hM1 := hM1.but hU56 (has_ne hM1 hQ56 (by decide))
            have hM3 := hM3.but hU56 (hNhM3hM5)
            have hM7 := hM7.but hU56 ((Ne.symm hNhM5hM7))
            have hE := hEb.kept hB
            have hSent := owns_but hSent hU56 (fun i old ho e => by subst e; exact has_ne ho hQ56 (by decide) rfl)
            refine tail_op 9 (by kernel_rfl) rfl hS (by decide) (runs_assign rfl) (fun v58 w58 a58 hp hS => ⟨trivial, ?_⟩)
            obtain ⟨rfl, rfl⟩ := hp
            refine wpAnyH_done (by kernel_rfl) ?_ _
            have a0 : at_ = 0 := by omega
            have e0 : (at_ == 0) = true := by rw [beq_iff_eq]; exact a0
            have e2 : (at_ == steps - 1) = false := by rw [beq_eq_false_iff_ne]; exact la
            have hl0 : decide (0 < l.length) = true := by rw [decide_eq_true_eq]; omega
            have hfin : runL (kindL tg.data.toList) (at_ == 0) (at_ == steps - 1) (x.id == src) x.has (if x.has = true then x.inn else 0) x.val l = ((x.val, true), sendTo l (allF (x.val / ((l.length : Nat) : Int)) 0)) := by rw [hk, e0, e2]; simp [runL, rankL, rankV, allF_0, -decide_eq_true_eq, hl0]
            rw [hfin]
            exact qx_ret (retRow2 (p := 8) (t := 9) (ty := 28) (by kernel_rfl) hS rfl rfl hM5 Try.underlying28 rfl (by rw [sz28]; rfl) ⟨_, rfl, hB, _, rfl, hSent⟩)
  · skip
    refine calls_qx (args := [.agg (jc tg src steps).toArray, .int .i64 at_, .agg (vc x).toArray, .slice A l.length c]) 163 Try.func30 rfl (by kernel_rfl) (by simp) (fun a hS => ?_)
    have hB := Below.refl w.heap.size w
    have hEb := hE
    refine qx_seq (reg_seq ?_)
    refine seq_op hS (by decide) (runs_boxB (cs := jc tg src steps) rfl rfl) (fun v1 w1 a1 hp hS => ?_)
    obtain ⟨rfl, hM1, hB1⟩ := hp
    have hB := hB.trans (hB1.mono hB.size)
    have hE := hEb.kept hB
    refine seq_op hS (by decide) (runs_boxB (cs := vc x) rfl rfl) (fun v3 w3 a1 hp hS => ?_)
    obtain ⟨rfl, hM3, hB3⟩ := hp
    have hB := hB.trans (hB3.mono hB.size)
    have hM1 := hM1.below hB3 hM1.lt
    have hE := hEb.kept hB
    refine seq_op hS (by decide) (runs_allocB (cs := [.int .i64 0, .int .i64 0, .bool false, .bool false, .int .i64 0]) zo28 rfl) (fun v5 w5 a1 hp hS => ?_)
    obtain ⟨rfl, hM5, hB5⟩ := hp
    have hLhM5 : w.heap.size ≤ w3.heap.size := hB.size
    have hNhM3hM5 : w1.heap.size ≠ w3.heap.size := by have := hM3.lt; omega
    have hB := hB.trans (hB5.mono hB.size)
    have hM1 := hM1.below hB5 hM1.lt
    have hM3 := hM3.below hB5 hM3.lt
    have hE := hEb.kept hB
    refine seq_is hS (by decide) (runs_assign rfl) (fun a1 hS => ?_)
    refine nil_ok (qx_seq (reg_seq ?_))
    refine seq_is hS (by decide) (runs_fieldK fo28_0 rfl) (fun a1 hS => ?_)
    refine seq_is hS (by decide) (runs_load rfl pl3 (hM3.at rfl)) (fun a1 hS => ?_)
    refine seq_is hS (by decide) (runs_fieldK fo28_1 rfl) (fun a1 hS => ?_)
    refine seq_is hS (by decide) (runs_load rfl pl2 (hM3.at rfl)) (fun a1 hS => ?_)
    refine seq_is hS (by decide) (runs_buildK (pv := [(0, .int .i64 x.id), (1, .int .i64 x.val)]) (cells := #[.int .i64 x.id, .int .i64 x.val, .bool false, .bool false, .int .i64 0]) rfl (by kernel_rfl)) (fun a1 hS => ?_)
    refine seq_op hS (by decide) (runs_allocB (cs := [.int .i64 0, .int .i64 0, .bool false, .bool false, .int .i64 0]) zo28 rfl) (fun v7 w7 a1 hp hS => ?_)
    obtain ⟨rfl, hM7, hB7⟩ := hp
    have hLhM7 : w.heap.size ≤ w5.heap.size := hB.size
    have hNhM3hM7 : w1.heap.size ≠ w5.heap.size := by have := hM3.lt; omega
    have hNhM5hM7 : w3.heap.size ≠ w5.heap.size := by have := hM5.lt; omega
    have hB := hB.trans (hB7.mono hB.size)
    have hM1 := hM1.below hB7 hM1.lt
    have hM3 := hM3.below hB7 hM3.lt
    have hM5 := hM5.below hB7 hM5.lt
    have hE := hEb.kept hB
    refine seq_none hS (runs_storeB (cs := [.int .i64 x.id, .int .i64 x.val, .bool false, .bool false, .int .i64 0]) rfl rfl hM7 rfl rfl sz28) (fun v9 w9 a1 hp hS => ?_)
    have hQ9 := hM7
    obtain ⟨hM7, hU9⟩ := hp
    have hB := But.new hB hU9 (fun i e => by rw [e]; exact hLhM7) (Nat.le_refl _)
    have hM1 := hM1.but hU9 (has_ne hM1 hQ9 (by decide))
    have hM3 := hM3.but hU9 (hNhM3hM7)
    have hM5 := hM5.but hU9 (hNhM5hM7)
    have hE := hEb.kept hB
    refine nil_ok (qx_seq (reg_seq ?_))
    refine seq_is hS (by decide) (runs_fieldK fo28_4 rfl) (fun a1 hS => ?_)
    refine seq_is hS (by decide) (runs_load rfl pl2 (hM3.at rfl)) (fun a1 hS => ?_)
    refine seq_is hS (by decide) (runs_assign rfl) (fun a1 hS => ?_)
    refine nil_ok (qx_seq (qx_seq (reg_seq ?_)))
    refine seq_is hS (by decide) (runs_fieldK fo28_3 rfl) (fun a1 hS => ?_)
    by_cases hh : x.has = true
    · skip
      refine seq_is hS (by decide) (runs_load rfl pl4 ((hM3.at rfl).trans (by rw [hh]))) (fun a1 hS => ?_)
      refine seq_is hS (by decide) (runs_not (b := true) rfl) (fun a1 hS => ?_)
      refine nil_ok (wp_cond_false (hS.eval rfl) (wp_skip (qx_seq (qx_seq (reg_seq ?_)))))
      refine seq_is hS (by decide) (runs_fieldK fo26_0 rfl) (fun a1 hS => ?_)
      refine seq_is hS (by decide) (runs_load rfl pl9 (hM1.at rfl)) (fun a1 hS => ?_)
      refine nil_ok (qx_block (qx_seq (qx_seq (reg_seq ?_))))
      refine seq_is hS (by decide) (runs_eqStr (r := false) rfl rfl ((is1 _).trans (by rw [hk]; rfl))) (fun a1 hS => ?_)
      refine seq_is hS (by decide) (runs_assign rfl) (fun a1 hS => ?_)
      refine nil_ok (wp_cond_false (hS.eval rfl) (reg_seq ?_))
      refine seq_is hS (by decide) (runs_eqStr (r := false) rfl rfl ((is2 _).trans (by rw [hk]; rfl))) (fun a1 hS => ?_)
      refine seq_is hS (by decide) (runs_assign rfl) (fun a1 hS => ?_)
      refine nil_ok (wp_cond_false (hS.eval rfl) (qx_seq (qx_seq (reg_seq ?_))))
      refine seq_is hS (by decide) (runs_eqStr (r := false) rfl rfl ((is3 _).trans (by rw [hk]; rfl))) (fun a1 hS => ?_)
      refine seq_is hS (by decide) (runs_assign rfl) (fun a1 hS => ?_)
      refine nil_ok (wp_cond_false (hS.eval rfl) (reg_seq ?_))
      refine seq_is hS (by decide) (runs_eqStr (r := false) rfl rfl ((is4 _).trans (by rw [hk]; rfl))) (fun a1 hS => ?_)
      refine seq_is hS (by decide) (runs_assign rfl) (fun a1 hS => ?_)
      refine nil_ok (wp_cond_false (hS.eval rfl) (qx_seq (reg_seq ?_)))
      refine seq_is hS (by decide) (runs_eqStr (r := false) rfl rfl ((is5 _).trans (by rw [hk]; rfl))) (fun a1 hS => ?_)
      refine seq_is hS (by decide) (runs_assign rfl) (fun a1 hS => ?_)
      refine nil_ok (wp_cond_false (hS.eval rfl) (qx_seq (reg_seq ?_)))
      refine seq_is hS (by decide) (runs_eqStr (r := true) rfl rfl ((is7 _).trans (by rw [hk]; rfl))) (fun a1 hS => ?_)
      refine seq_is hS (by decide) (runs_assign rfl) (fun a1 hS => ?_)
      refine nil_ok (wp_cond_true (hS.eval rfl) (qx_seq (qx_seq (reg_seq ?_))))
      refine seq_is hS (by decide) (runs_move rfl) (fun a1 hS => ?_)
      by_cases a0 : at_ = 0
      · skip
        refine seq_is hS (by decide) (runs_eql (r := true) rfl rfl (by simp [a0])) (fun a1 hS => ?_)
        have hBw := hB.size
        refine nil_ok (wp_cond_true (hS.eval rfl) (qx_seq (reg_guard (fun w' => Below w9.heap.size w9 w') [.inl (.agg #[.int .i64 x.id, .int .i64 x.val, .bool false, .bool false, .int .i64 0]), .inl (.slice A l.length c), .inr (fun u w' => w'.ownsRow w.heap.size 48 3 u (sendTo l (allF 1 0)).length (cellsE (sendTo l (allF 1 0))))] 3 2 mixed rfl (by kernel_rfl) hS (Below.refl _ _) (fun _ h => h.drew) ?_)))
        refine hs_is rfl (fun w' hw => runs_loadRow rfl (hM7.below hw hM7.lt) Try.underlying28 rfl (by rw [sz28]; rfl)) ?_
        refine hs_is rfl (fun w' hw => runs_move rfl) ?_
        refine hs_pr rfl (fun _ _ _ h hb => owns_kept h hb) (fun w' hw hq => (runs_call (args := [.slice A l.length c, .int .i64 1, .int .i64 0]) goes39 rfl (rall_any l hsm _ 1 0 w' (hE.kept hw) (by omega) (by omega) hlw)).mono (by rintro u w5 ⟨hb, h3⟩; exact ⟨owns_mono h3 (Nat.le_trans hBw hw.size), hw.trans (hb.mono hw.size), hb⟩)) (fun sr => ?_)
        refine (fun a11 w11 hS hB11 hq => ?_)
        have hSent := (hq (2, _) List.mem_cons_self)
        clear hq
        have hB := hB.trans (hB11.mono hB.size)
        have hM1 := hM1.below hB11 hM1.lt
        have hM3 := hM3.below hB11 hM3.lt
        have hM5 := hM5.below hB11 hM5.lt
        have hM7 := hM7.below hB11 hM7.lt
        have hE := hEb.kept hB
        refine tail_none 3 (by kernel_rfl) rfl hS (runs_storeB (cs := [.int .i64 x.id, .int .i64 x.val, .bool false, .bool false, .int .i64 0]) rfl rfl hM5 rfl rfl sz28) (fun v13 w13 a13 hp hS => ⟨trivial, ?_⟩)
        have hQ13 := hM5
        obtain ⟨hM5, hU13⟩ := hp
        have hB := But.new hB hU13 (fun i e => by rw [e]; exact hLhM5) (Nat.le_refl _)
        have hM1 := hM1.but hU13 (has_ne hM1 hQ13 (by decide))
        have hM3 := hM3.but hU13 (hNhM3hM5)
        have hM7 := hM7.but hU13 ((Ne.symm hNhM5hM7))
        have hE := hEb.kept hB
        have hSent := owns_but hSent hU13 (fun i old ho e => by subst e; exact has_ne ho hQ13 (by decide) rfl)
        refine tail_op 4 (by kernel_rfl) rfl hS (by decide) (runs_assign rfl) (fun v15 w15 a15 hp hS => ⟨trivial, ?_⟩)
        obtain ⟨rfl, rfl⟩ := hp
        refine wpAnyH_done (by kernel_rfl) ?_ _
        have e0 : (at_ == 0) = true := by rw [beq_iff_eq]; exact a0
        have hfin : runL (kindL tg.data.toList) (at_ == 0) (at_ == steps - 1) (x.id == src) x.has (if x.has = true then x.inn else 0) x.val l = ((x.val, false), sendTo l (allF 1 0)) := by rw [hk, e0]; simp [runL, walkL, allF_0, -decide_eq_true_eq]
        rw [hfin]
        exact qx_ret (retRow2 (p := 8) (t := 9) (ty := 28) (by kernel_rfl) hS rfl rfl hM5 Try.underlying28 rfl (by rw [sz28]; rfl) ⟨_, rfl, hB, _, rfl, hSent⟩)
      · skip
        refine seq_is hS (by decide) (runs_eql (r := false) rfl rfl (by simp [a0])) (fun a1 hS => ?_)
        refine nil_ok (wp_cond_false (hS.eval rfl) (wp_skip (qx_seq (qx_seq (reg_seq ?_)))))
        refine seq_is hS (by decide) (runs_fieldK fo28_3 rfl) (fun a1 hS => ?_)
        refine seq_is hS (by decide) (runs_load rfl pl4 ((hM3.at rfl).trans (by rw [hh]))) (fun a1 hS => ?_)
        refine seq_is hS (by decide) (runs_not (b := true) rfl) (fun a1 hS => ?_)
        refine nil_ok (wp_cond_false (hS.eval rfl) (wp_skip (qx_seq (reg_seq ?_))))
        refine seq_is hS (by decide) (runs_fieldK fo28_1 rfl) (fun a1 hS => ?_)
        refine seq_is hS (by decide) (runs_load rfl pl2 (hM3.at rfl)) (fun a1 hS => ?_)
        refine seq_is hS (by decide) (runs_move rfl) (fun a1 hS => ?_)
        refine seq_is hS (by decide) (runs_add rfl rfl (wrap64 (by omega) (by omega))) (fun a1 hS => ?_)
        refine seq_is hS (by decide) (runs_fieldK fo28_1 rfl) (fun a1 hS => ?_)
        refine seq_none hS (runs_storeC rfl rfl rfl s1_2 hM7 rfl) (fun v16 w16 a1 hp hS => ?_)
        have hQ16 := hM7
        obtain ⟨hM7, hU16⟩ := hp
        have hB := But.new hB hU16 (fun i e => by rw [e]; exact hLhM7) (Nat.le_refl _)
        have hM1 := hM1.but hU16 (has_ne hM1 hQ16 (by decide))
        have hM3 := hM3.but hU16 (hNhM3hM7)
        have hM5 := hM5.but hU16 (hNhM5hM7)
        have hE := hEb.kept hB
        have hBw := hB.size
        refine nil_ok (qx_seq (reg_guard (fun w' => Below w16.heap.size w16 w') [.inl (.agg #[.int .i64 x.id, .int .i64 (x.val + x.inn), .bool false, .bool false, .int .i64 0]), .inl (.slice A l.length c), .inl (.int .i64 x.inn), .inr (fun u w' => w'.ownsRow w.heap.size 48 3 u (sendTo l (allF x.inn 0)).length (cellsE (sendTo l (allF x.inn 0))))] 4 2 mixed rfl (by kernel_rfl) hS (Below.refl _ _) (fun _ h => h.drew) ?_))
        refine hs_is rfl (fun w' hw => runs_loadRow rfl (hM7.below hw hM7.lt) Try.underlying28 rfl (by rw [sz28]; rfl)) ?_
        refine hs_is rfl (fun w' hw => runs_move rfl) ?_
        refine hs_is rfl (fun w' hw => runs_move rfl) ?_
        refine hs_pr rfl (fun _ _ _ h hb => owns_kept h hb) (fun w' hw hq => (runs_call (args := [.slice A l.length c, .int .i64 x.inn, .int .i64 0]) goes39 rfl (rall_any l hsm _ x.inn 0 w' (hE.kept hw) (by omega) (by omega) hlw)).mono (by rintro u w5 ⟨hb, h3⟩; exact ⟨owns_mono h3 (Nat.le_trans hBw hw.size), hw.trans (hb.mono hw.size), hb⟩)) (fun sr => ?_)
        refine (fun a18 w18 hS hB18 hq => ?_)
        have hSent := (hq (3, _) List.mem_cons_self)
        clear hq
        have hB := hB.trans (hB18.mono hB.size)
        have hM1 := hM1.below hB18 hM1.lt
        have hM3 := hM3.below hB18 hM3.lt
        have hM5 := hM5.below hB18 hM5.lt
        have hM7 := hM7.below hB18 hM7.lt
        have hE := hEb.kept hB
        refine tail_none 4 (by kernel_rfl) rfl hS (runs_storeB (cs := [.int .i64 x.id, .int .i64 (x.val + x.inn), .bool false, .bool false, .int .i64 0]) rfl rfl hM5 rfl rfl sz28) (fun v20 w20 a20 hp hS => ⟨trivial, ?_⟩)
        have hQ20 := hM5
        obtain ⟨hM5, hU20⟩ := hp
        have hB := But.new hB hU20 (fun i e => by rw [e]; exact hLhM5) (Nat.le_refl _)
        have hM1 := hM1.but hU20 (has_ne hM1 hQ20 (by decide))
        have hM3 := hM3.but hU20 (hNhM3hM5)
        have hM7 := hM7.but hU20 ((Ne.symm hNhM5hM7))
        have hE := hEb.kept hB
        have hSent := owns_but hSent hU20 (fun i old ho e => by subst e; exact has_ne ho hQ20 (by decide) rfl)
        refine tail_op 5 (by kernel_rfl) rfl hS (by decide) (runs_assign rfl) (fun v22 w22 a22 hp hS => ⟨trivial, ?_⟩)
        obtain ⟨rfl, rfl⟩ := hp
        refine wpAnyH_done (by kernel_rfl) ?_ _
        have e0 : (at_ == 0) = false := by rw [beq_eq_false_iff_ne]; exact a0
        have hfin : runL (kindL tg.data.toList) (at_ == 0) (at_ == steps - 1) (x.id == src) x.has (if x.has = true then x.inn else 0) x.val l = (((x.val + x.inn), false), sendTo l (allF x.inn 0)) := by rw [hk, e0]; simp [runL, walkL, allF_0, -decide_eq_true_eq, hh]
        rw [hfin]
        exact qx_ret (retRow2 (p := 8) (t := 9) (ty := 28) (by kernel_rfl) hS rfl rfl hM5 Try.underlying28 rfl (by rw [sz28]; rfl) ⟨_, rfl, hB, _, rfl, hSent⟩)
    · skip
      refine seq_is hS (by decide) (runs_load rfl pl4 ((hM3.at rfl).trans (by rw [Bool.eq_false_iff.2 hh]))) (fun a1 hS => ?_)
      refine seq_is hS (by decide) (runs_not (b := false) rfl) (fun a1 hS => ?_)
      refine nil_ok (wp_cond_true (hS.eval rfl) (reg_seq ?_))
      refine seq_is hS (by decide) (runs_assign rfl) (fun a1 hS => ?_)
      refine nil_ok (qx_seq (qx_seq (reg_seq ?_)))
      refine seq_is hS (by decide) (runs_fieldK fo26_0 rfl) (fun a1 hS => ?_)
      refine seq_is hS (by decide) (runs_load rfl pl9 (hM1.at rfl)) (fun a1 hS => ?_)
      refine nil_ok (qx_block (qx_seq (qx_seq (reg_seq ?_))))
      refine seq_is hS (by decide) (runs_eqStr (r := false) rfl rfl ((is1 _).trans (by rw [hk]; rfl))) (fun a1 hS => ?_)
      refine seq_is hS (by decide) (runs_assign rfl) (fun a1 hS => ?_)
      refine nil_ok (wp_cond_false (hS.eval rfl) (reg_seq ?_))
      refine seq_is hS (by decide) (runs_eqStr (r := false) rfl rfl ((is2 _).trans (by rw [hk]; rfl))) (fun a1 hS => ?_)
      refine seq_is hS (by decide) (runs_assign rfl) (fun a1 hS => ?_)
      refine nil_ok (wp_cond_false (hS.eval rfl) (qx_seq (qx_seq (reg_seq ?_))))
      refine seq_is hS (by decide) (runs_eqStr (r := false) rfl rfl ((is3 _).trans (by rw [hk]; rfl))) (fun a1 hS => ?_)
      refine seq_is hS (by decide) (runs_assign rfl) (fun a1 hS => ?_)
      refine nil_ok (wp_cond_false (hS.eval rfl) (reg_seq ?_))
      refine seq_is hS (by decide) (runs_eqStr (r := false) rfl rfl ((is4 _).trans (by rw [hk]; rfl))) (fun a1 hS => ?_)
      refine seq_is hS (by decide) (runs_assign rfl) (fun a1 hS => ?_)
      refine nil_ok (wp_cond_false (hS.eval rfl) (qx_seq (reg_seq ?_)))
      refine seq_is hS (by decide) (runs_eqStr (r := false) rfl rfl ((is5 _).trans (by rw [hk]; rfl))) (fun a1 hS => ?_)
      refine seq_is hS (by decide) (runs_assign rfl) (fun a1 hS => ?_)
      refine nil_ok (wp_cond_false (hS.eval rfl) (qx_seq (reg_seq ?_)))
      refine seq_is hS (by decide) (runs_eqStr (r := true) rfl rfl ((is7 _).trans (by rw [hk]; rfl))) (fun a1 hS => ?_)
      refine seq_is hS (by decide) (runs_assign rfl) (fun a1 hS => ?_)
      refine nil_ok (wp_cond_true (hS.eval rfl) (qx_seq (qx_seq (reg_seq ?_))))
      refine seq_is hS (by decide) (runs_move rfl) (fun a1 hS => ?_)
      by_cases a0 : at_ = 0
      · skip
        refine seq_is hS (by decide) (runs_eql (r := true) rfl rfl (by simp [a0])) (fun a1 hS => ?_)
        have hBw := hB.size
        refine nil_ok (wp_cond_true (hS.eval rfl) (qx_seq (reg_guard (fun w' => Below w9.heap.size w9 w') [.inl (.agg #[.int .i64 x.id, .int .i64 x.val, .bool false, .bool false, .int .i64 0]), .inl (.slice A l.length c), .inr (fun u w' => w'.ownsRow w.heap.size 48 3 u (sendTo l (allF 1 0)).length (cellsE (sendTo l (allF 1 0))))] 3 2 mixed rfl (by kernel_rfl) hS (Below.refl _ _) (fun _ h => h.drew) ?_)))
        refine hs_is rfl (fun w' hw => runs_loadRow rfl (hM7.below hw hM7.lt) Try.underlying28 rfl (by rw [sz28]; rfl)) ?_
        refine hs_is rfl (fun w' hw => runs_move rfl) ?_
        refine hs_pr rfl (fun _ _ _ h hb => owns_kept h hb) (fun w' hw hq => (runs_call (args := [.slice A l.length c, .int .i64 1, .int .i64 0]) goes39 rfl (rall_any l hsm _ 1 0 w' (hE.kept hw) (by omega) (by omega) hlw)).mono (by rintro u w5 ⟨hb, h3⟩; exact ⟨owns_mono h3 (Nat.le_trans hBw hw.size), hw.trans (hb.mono hw.size), hb⟩)) (fun sr => ?_)
        refine (fun a23 w23 hS hB23 hq => ?_)
        have hSent := (hq (2, _) List.mem_cons_self)
        clear hq
        have hB := hB.trans (hB23.mono hB.size)
        have hM3 := hM3.below hB23 hM3.lt
        have hM5 := hM5.below hB23 hM5.lt
        have hM7 := hM7.below hB23 hM7.lt
        refine tail_none 3 (by kernel_rfl) rfl hS (runs_storeB (cs := [.int .i64 x.id, .int .i64 x.val, .bool false, .bool false, .int .i64 0]) rfl rfl hM5 rfl rfl sz28) (fun v25 w25 a25 hp hS => ⟨trivial, ?_⟩)
        have hQ25 := hM5
        obtain ⟨hM5, hU25⟩ := hp
        have hB := But.new hB hU25 (fun i e => by rw [e]; exact hLhM5) (Nat.le_refl _)
        have hM3 := hM3.but hU25 (hNhM3hM5)
        have hM7 := hM7.but hU25 ((Ne.symm hNhM5hM7))
        have hSent := owns_but hSent hU25 (fun i old ho e => by subst e; exact has_ne ho hQ25 (by decide) rfl)
        refine tail_op 4 (by kernel_rfl) rfl hS (by decide) (runs_assign rfl) (fun v27 w27 a27 hp hS => ⟨trivial, ?_⟩)
        obtain ⟨rfl, rfl⟩ := hp
        refine wpAnyH_done (by kernel_rfl) ?_ _
        have e0 : (at_ == 0) = true := by rw [beq_iff_eq]; exact a0
        have hfin : runL (kindL tg.data.toList) (at_ == 0) (at_ == steps - 1) (x.id == src) x.has (if x.has = true then x.inn else 0) x.val l = ((x.val, false), sendTo l (allF 1 0)) := by rw [hk, e0]; simp [runL, walkL, allF_0, -decide_eq_true_eq]
        rw [hfin]
        exact qx_ret (retRow2 (p := 8) (t := 9) (ty := 28) (by kernel_rfl) hS rfl rfl hM5 Try.underlying28 rfl (by rw [sz28]; rfl) ⟨_, rfl, hB, _, rfl, hSent⟩)
      · skip
        refine seq_is hS (by decide) (runs_eql (r := false) rfl rfl (by simp [a0])) (fun a1 hS => ?_)
        refine nil_ok (wp_cond_false (hS.eval rfl) (wp_skip (qx_seq (qx_seq (reg_seq ?_)))))
        refine seq_is hS (by decide) (runs_fieldK fo28_3 rfl) (fun a1 hS => ?_)
        refine seq_is hS (by decide) (runs_load rfl pl4 ((hM3.at rfl).trans (by rw [Bool.eq_false_iff.2 hh]))) (fun a1 hS => ?_)
        refine seq_is hS (by decide) (runs_not (b := false) rfl) (fun a1 hS => ?_)
        refine nil_ok (wp_cond_true (hS.eval rfl) (qx_seq (reg_seq ?_)))
        refine seq_is hS (by decide) (runs_loadRow rfl hM7 Try.underlying28 rfl (by rw [sz28]; rfl)) (fun a1 hS => ?_)
        refine seq_none hS (runs_storeB (cs := [.int .i64 x.id, .int .i64 x.val, .bool false, .bool false, .int .i64 0]) rfl rfl hM5 rfl rfl sz28) (fun v28 w28 a1 hp hS => ?_)
        obtain ⟨hM5, hU28⟩ := hp
        have hB := But.new hB hU28 (fun i e => by rw [e]; exact hLhM5) (Nat.le_refl _)
        refine seq_is hS (by decide) (runs_assign rfl) (fun a1 hS => ?_)
        have e0 : (at_ == 0) = false := by rw [beq_eq_false_iff_ne]; exact a0
        have hfin : runL (kindL tg.data.toList) (at_ == 0) (at_ == steps - 1) (x.id == src) x.has (if x.has = true then x.inn else 0) x.val l = ((x.val, false), []) := by rw [hk, e0]; simp [runL, walkL, -decide_eq_true_eq, hh]
        rw [hfin]
        exact nil_ok (qx_ret (retRow2 (p := 8) (t := 9) (ty := 28) (by kernel_rfl) hS rfl rfl hM5 Try.underlying28 rfl (by rw [sz28]; rfl) ⟨_, rfl, hB, _, rfl, ⟨rfl, .inl ⟨rfl, rfl⟩⟩⟩))
end Go.Proofs.Ytfceckdhoaabnaa
