/- The document's Step. Conditions: none of our own. -/
import Derived.Test.YtfceckdhoaabnaaSPlain
namespace Go.Proofs.Ytfceckdhoaabnaa
open Go.RowKit
set_option maxRecDepth 100000

theorem OwnOr.kf {B B' : Nat} {F : List Value} {w w' : World} {v : Value} {acc : List E} (h : OwnOr B w v acc) (k : KF B' 28 F w w') : OwnOr B w' v acc := by
  rcases h with h | h
  · exact .inl h
  · exact .inr (k.owns h (by decide))
theorem rplain_is {l : List E} {v : Value} {tg : ByteArray} {src steps at_ : Int} {x : Vx} {RR : (Int × Bool) × List E} {RL : List E} (h : runL (kindL tg.data.toList) (at_ == 0) (at_ == steps - 1) (x.id == src) x.has (if x.has = true then x.inn else 0) x.val l = RR) (h2 : RR.2 = RL) (hsm : l.length ≤ 600) (w : World) (hE : Edges w v l) (hkn : kindL tg.data.toList ≠ 0) (hgv : great x.val = false) (hgi : great x.inn = false) (hlw : ∀ e ∈ l, 0 ≤ e.2.2 ∧ e.2.2 ≤ 1048576) (hs1 : 1 ≤ steps) (hs2 : steps ≤ 64) (hat : 0 ≤ at_) :
    Ans 30 [jv tg src steps, .int .i64 at_, vv x, v] w (fun u w' => Below w.heap.size w w' ∧ ∃ sv, u = .tuple #[vv ⟨x.id, RR.1.1, RR.1.2, false, 0⟩, sv] ∧ w'.ownsRow w.heap.size 48 3 sv RL.length (cellsE RL)) := by
  have := rplain_any l hsm v tg src steps at_ x w hE hkn hgv hgi hlw hs1 hs2 hat
  rw [h, h2] at this
  exact this
set_option maxHeartbeats 1000000 in
theorem rstep_any (n : Int) (es : List E) (v : Value) (tg : ByteArray) (src steps at_ : Int) (x : Vx) (w : World) (hE : Edges w v es) :
    Ans 14 [gv n v, jv tg src steps, .int .i64 at_, vv x] w (fun u w' => Below w.heap.size w w' ∧ ∃ sv, u = .tuple #[vv (stepL n es (kindL tg.data.toList) src steps at_ x).1, sv, .int .i64 (stepL n es (kindL tg.data.toList) src steps at_ x).2.2] ∧ w'.ownsRow w.heap.size 48 3 sv (stepL n es (kindL tg.data.toList) src steps at_ x).2.1.length (cellsE (stepL n es (kindL tg.data.toList) src steps at_ x).2.1)) := by
  obtain ⟨A, c, rfl, h1, h2, hA⟩ := hE
  have hE : Edges w (.slice A es.length c) es := ⟨A, c, rfl, h1, h2, hA⟩
  refine calls_qx (args := [gv n (.slice A es.length c), .agg (jc tg src steps).toArray, .int .i64 at_, .agg (vc x).toArray]) 93 Try.func14 rfl (by kernel_rfl) (by simp) (fun a hS => ?_)
  have hB := Below.refl w.heap.size w
  have hEb := hE
  refine qx_seq (reg_seq ?_)
  refine seq_op hS (by decide) (runs_boxB (cs := [.int .i64 n, .slice A es.length c]) rfl rfl) (fun v1 w1 a1 hp hS => ?_)
  obtain ⟨rfl, hM1, hB1⟩ := hp
  have hB := hB.trans (hB1.mono hB.size)
  have hE := hEb.kept hB
  refine seq_op hS (by decide) (runs_boxB (cs := jc tg src steps) rfl rfl) (fun v3 w3 a1 hp hS => ?_)
  obtain ⟨rfl, hM3, hB3⟩ := hp
  have hB := hB.trans (hB3.mono hB.size)
  have hM1 := hM1.below hB3 hM1.lt
  have hE := hEb.kept hB
  refine seq_op hS (by decide) (runs_boxB (cs := vc x) rfl rfl) (fun v5 w5 a1 hp hS => ?_)
  obtain ⟨rfl, hM5, hB5⟩ := hp
  have hB := hB.trans (hB5.mono hB.size)
  have hM1 := hM1.below hB5 hM1.lt
  have hM3 := hM3.below hB5 hM3.lt
  have hE := hEb.kept hB
  refine seq_op hS (by decide) (runs_allocB (cs := [.int .i64 0, .int .i64 0, .bool false, .bool false, .int .i64 0]) zo28 rfl) (fun v7 w7 a1 hp hS => ?_)
  obtain ⟨rfl, hM7, hB7⟩ := hp
  have hLhM7 : w.heap.size ≤ w5.heap.size := hB.size
  have hNhM5hM7 : w3.heap.size ≠ w5.heap.size := by have := hM5.lt; omega
  have hB := hB.trans (hB7.mono hB.size)
  have hM1 := hM1.below hB7 hM1.lt
  have hM3 := hM3.below hB7 hM3.lt
  have hM5 := hM5.below hB7 hM5.lt
  have hE := hEb.kept hB
  refine seq_is hS (by decide) (runs_assign rfl) (fun a1 hS => ?_)
  refine seq_is hS (by decide) (runs_assign rfl) (fun a1 hS => ?_)
  refine nil_ok (qx_seq (qx_seq (reg_seq ?_)))
  refine seq_is hS (by decide) (runs_loadRow rfl hM1 Try.underlying24 rfl (by rw [sz24]; rfl)) (fun a1 hS => ?_)
  refine seq_is hS (by decide) (runs_loadRow rfl hM3 Try.underlying26 rfl (by rw [sz26]; rfl)) (fun a1 hS => ?_)
  refine seq_op hS (by decide) (runs_call (args := [gv n (.slice A es.length c), .agg (jc tg src steps).toArray]) goes11 rfl (right_any n es _ tg src steps w7 hE)) (fun v9 w9 a1 hp hS => ?_)
  obtain ⟨rfl, hB9⟩ := hp
  have hB := hB.trans (hB9.mono hB.size)
  have hM1 := hM1.below hB9 hM1.lt
  have hM3 := hM3.below hB9 hM3.lt
  have hM5 := hM5.below hB9 hM5.lt
  have hM7 := hM7.below hB9 hM7.lt
  have hE := hEb.kept hB
  by_cases r1 : jobB n es (kindL tg.data.toList) src steps = true
  · skip
    rw [r1] at hS
    refine seq_is hS (by decide) (runs_not (b := true) rfl) (fun a1 hS => ?_)
    refine seq_is hS (by decide) (runs_move rfl) (fun a1 hS => ?_)
    refine seq_yis hS (by decide) rfl (by decide) rfl (runs_fieldK fo28_0 rfl) (fun a1 hS => ?_)
    refine seq_yis hS (by decide) rfl (by decide) rfl (runs_load rfl pl3 (hM5.at rfl)) (fun a1 hS => ?_)
    by_cases r2 : x.id < 0
    · skip
      refine seq_yis hS (by decide) rfl (by decide) rfl (runs_lss (r := true) rfl rfl (by rw [decide_eq_true_eq]; omega)) (fun a1 hS => ?_)
      refine seq_is hS (by decide) (runs_pick rfl rfl) (fun a1 hS => ?_)
      refine seq_is hS (by decide) (runs_move rfl) (fun a1 hS => ?_)
      refine seq_no hS (by decide) rfl (by decide) rfl rfl (fun a1 hS => ?_)
      refine seq_no hS (by decide) rfl (by decide) rfl rfl (fun a1 hS => ?_)
      refine seq_no hS (by decide) rfl (by decide) rfl rfl (fun a1 hS => ?_)
      refine seq_no hS (by decide) rfl (by decide) rfl rfl (fun a1 hS => ?_)
      refine seq_no hS (by decide) rfl (by decide) rfl rfl (fun a1 hS => ?_)
      refine seq_is hS (by decide) (runs_pick rfl rfl) (fun a1 hS => ?_)
      refine seq_is hS (by decide) (runs_move rfl) (fun a1 hS => ?_)
      refine seq_no hS (by decide) rfl (by decide) rfl rfl (fun a1 hS => ?_)
      refine seq_no hS (by decide) rfl (by decide) rfl rfl (fun a1 hS => ?_)
      refine seq_is hS (by decide) (runs_pick rfl rfl) (fun a1 hS => ?_)
      refine seq_is hS (by decide) (runs_move rfl) (fun a1 hS => ?_)
      refine seq_no hS (by decide) rfl (by decide) rfl rfl (fun a1 hS => ?_)
      refine seq_no hS (by decide) rfl (by decide) rfl rfl (fun a1 hS => ?_)
      refine seq_no hS (by decide) rfl (by decide) rfl rfl (fun a1 hS => ?_)
      refine seq_no hS (by decide) rfl (by decide) rfl rfl (fun a1 hS => ?_)
      refine seq_is hS (by decide) (runs_pick rfl rfl) (fun a1 hS => ?_)
      refine nil_ok (wp_cond_true (hS.eval rfl) (qx_seq (reg_seq ?_)))
      refine seq_is hS (by decide) (runs_buildK (pv := []) (cells := #[.int .i64 0, .int .i64 0, .bool false, .bool false, .int .i64 0]) rfl (by kernel_rfl)) (fun a1 hS => ?_)
      refine seq_none hS (runs_storeB (cs := [.int .i64 0, .int .i64 0, .bool false, .bool false, .int .i64 0]) rfl rfl hM7 rfl rfl sz28) (fun v11 w11 a1 hp hS => ?_)
      have hQ11 := hM7
      obtain ⟨hM7, hU11⟩ := hp
      have hB := But.new hB hU11 (fun i e => by rw [e]; exact hLhM7) (Nat.le_refl _)
      have hM1 := hM1.but hU11 (has_ne hM1 hQ11 (by decide))
      have hM3 := hM3.but hU11 (has_ne hM3 hQ11 (by decide))
      have hM5 := hM5.but hU11 (hNhM5hM7)
      have hE := hEb.kept hB
      refine seq_is hS (by decide) (runs_assign rfl) (fun a1 hS => ?_)
      refine seq_is hS (by decide) (runs_assign rfl) (fun a1 hS => ?_)
      have hm : mayB n es (kindL tg.data.toList) src steps at_ x = false := by rw [Bool.eq_false_iff]; intro h; rw [may_iff] at h; first | exact r1 h.1 | omega
      have hfin : stepL n es (kindL tg.data.toList) src steps at_ x = (noVx, [], 70) := by unfold stepL; rw [if_pos hm]
      exact nil_ok (qx_ret (retRow3 (p := 8) (t := 9) (r := 10) (ty := 28) (by kernel_rfl) hS rfl rfl rfl hM7 Try.underlying28 rfl (by rw [sz28]; rfl) ⟨_, rfl, hB, by rw [hfin]; exact ⟨_, rfl, ⟨rfl, .inl ⟨rfl, rfl⟩⟩⟩⟩))
    · skip
      refine seq_yis hS (by decide) rfl (by decide) rfl (runs_lss (r := false) rfl rfl (by rw [decide_eq_false_iff_not]; omega)) (fun a1 hS => ?_)
      refine seq_is hS (by decide) (runs_pick rfl rfl) (fun a1 hS => ?_)
      refine seq_is hS (by decide) (runs_move rfl) (fun a1 hS => ?_)
      refine seq_yis hS (by decide) rfl (by decide) rfl (runs_fieldK fo28_0 rfl) (fun a1 hS => ?_)
      refine seq_yis hS (by decide) rfl (by decide) rfl (runs_load rfl pl3 (hM5.at rfl)) (fun a1 hS => ?_)
      refine seq_yis hS (by decide) rfl (by decide) rfl (runs_fieldK fo24_0 rfl) (fun a1 hS => ?_)
      refine seq_yis hS (by decide) rfl (by decide) rfl (runs_load rfl pl3 (hM1.at rfl)) (fun a1 hS => ?_)
      by_cases r3 : x.id ≥ n
      · skip
        refine seq_yis hS (by decide) rfl (by decide) rfl (runs_geq (r := true) rfl rfl (by rw [decide_eq_true_eq]; omega)) (fun a1 hS => ?_)
        refine seq_is hS (by decide) (runs_pick rfl rfl) (fun a1 hS => ?_)
        refine seq_is hS (by decide) (runs_move rfl) (fun a1 hS => ?_)
        refine seq_no hS (by decide) rfl (by decide) rfl rfl (fun a1 hS => ?_)
        refine seq_no hS (by decide) rfl (by decide) rfl rfl (fun a1 hS => ?_)
        refine seq_is hS (by decide) (runs_pick rfl rfl) (fun a1 hS => ?_)
        refine seq_is hS (by decide) (runs_move rfl) (fun a1 hS => ?_)
        refine seq_no hS (by decide) rfl (by decide) rfl rfl (fun a1 hS => ?_)
        refine seq_no hS (by decide) rfl (by decide) rfl rfl (fun a1 hS => ?_)
        refine seq_no hS (by decide) rfl (by decide) rfl rfl (fun a1 hS => ?_)
        refine seq_no hS (by decide) rfl (by decide) rfl rfl (fun a1 hS => ?_)
        refine seq_is hS (by decide) (runs_pick rfl rfl) (fun a1 hS => ?_)
        refine nil_ok (wp_cond_true (hS.eval rfl) (qx_seq (reg_seq ?_)))
        refine seq_is hS (by decide) (runs_buildK (pv := []) (cells := #[.int .i64 0, .int .i64 0, .bool false, .bool false, .int .i64 0]) rfl (by kernel_rfl)) (fun a1 hS => ?_)
        refine seq_none hS (runs_storeB (cs := [.int .i64 0, .int .i64 0, .bool false, .bool false, .int .i64 0]) rfl rfl hM7 rfl rfl sz28) (fun v13 w13 a1 hp hS => ?_)
        have hQ13 := hM7
        obtain ⟨hM7, hU13⟩ := hp
        have hB := But.new hB hU13 (fun i e => by rw [e]; exact hLhM7) (Nat.le_refl _)
        have hM1 := hM1.but hU13 (has_ne hM1 hQ13 (by decide))
        have hM3 := hM3.but hU13 (has_ne hM3 hQ13 (by decide))
        have hM5 := hM5.but hU13 (hNhM5hM7)
        have hE := hEb.kept hB
        refine seq_is hS (by decide) (runs_assign rfl) (fun a1 hS => ?_)
        refine seq_is hS (by decide) (runs_assign rfl) (fun a1 hS => ?_)
        have hm : mayB n es (kindL tg.data.toList) src steps at_ x = false := by rw [Bool.eq_false_iff]; intro h; rw [may_iff] at h; first | exact r1 h.1 | omega
        have hfin : stepL n es (kindL tg.data.toList) src steps at_ x = (noVx, [], 70) := by unfold stepL; rw [if_pos hm]
        exact nil_ok (qx_ret (retRow3 (p := 8) (t := 9) (r := 10) (ty := 28) (by kernel_rfl) hS rfl rfl rfl hM7 Try.underlying28 rfl (by rw [sz28]; rfl) ⟨_, rfl, hB, by rw [hfin]; exact ⟨_, rfl, ⟨rfl, .inl ⟨rfl, rfl⟩⟩⟩⟩))
      · skip
        refine seq_yis hS (by decide) rfl (by decide) rfl (runs_geq (r := false) rfl rfl (by rw [decide_eq_false_iff_not]; omega)) (fun a1 hS => ?_)
        refine seq_is hS (by decide) (runs_pick rfl rfl) (fun a1 hS => ?_)
        refine seq_is hS (by decide) (runs_move rfl) (fun a1 hS => ?_)
        refine seq_yis hS (by decide) rfl (by decide) rfl (runs_move rfl) (fun a1 hS => ?_)
        by_cases r4 : at_ < 0
        · skip
          refine seq_yis hS (by decide) rfl (by decide) rfl (runs_lss (r := true) rfl rfl (by rw [decide_eq_true_eq]; omega)) (fun a1 hS => ?_)
          refine seq_is hS (by decide) (runs_pick rfl rfl) (fun a1 hS => ?_)
          refine seq_is hS (by decide) (runs_move rfl) (fun a1 hS => ?_)
          refine seq_no hS (by decide) rfl (by decide) rfl rfl (fun a1 hS => ?_)
          refine seq_no hS (by decide) rfl (by decide) rfl rfl (fun a1 hS => ?_)
          refine seq_no hS (by decide) rfl (by decide) rfl rfl (fun a1 hS => ?_)
          refine seq_no hS (by decide) rfl (by decide) rfl rfl (fun a1 hS => ?_)
          refine seq_is hS (by decide) (runs_pick rfl rfl) (fun a1 hS => ?_)
          refine nil_ok (wp_cond_true (hS.eval rfl) (qx_seq (reg_seq ?_)))
          refine seq_is hS (by decide) (runs_buildK (pv := []) (cells := #[.int .i64 0, .int .i64 0, .bool false, .bool false, .int .i64 0]) rfl (by kernel_rfl)) (fun a1 hS => ?_)
          refine seq_none hS (runs_storeB (cs := [.int .i64 0, .int .i64 0, .bool false, .bool false, .int .i64 0]) rfl rfl hM7 rfl rfl sz28) (fun v15 w15 a1 hp hS => ?_)
          have hQ15 := hM7
          obtain ⟨hM7, hU15⟩ := hp
          have hB := But.new hB hU15 (fun i e => by rw [e]; exact hLhM7) (Nat.le_refl _)
          have hM1 := hM1.but hU15 (has_ne hM1 hQ15 (by decide))
          have hM3 := hM3.but hU15 (has_ne hM3 hQ15 (by decide))
          have hM5 := hM5.but hU15 (hNhM5hM7)
          have hE := hEb.kept hB
          refine seq_is hS (by decide) (runs_assign rfl) (fun a1 hS => ?_)
          refine seq_is hS (by decide) (runs_assign rfl) (fun a1 hS => ?_)
          have hm : mayB n es (kindL tg.data.toList) src steps at_ x = false := by rw [Bool.eq_false_iff]; intro h; rw [may_iff] at h; first | exact r1 h.1 | omega
          have hfin : stepL n es (kindL tg.data.toList) src steps at_ x = (noVx, [], 70) := by unfold stepL; rw [if_pos hm]
          exact nil_ok (qx_ret (retRow3 (p := 8) (t := 9) (r := 10) (ty := 28) (by kernel_rfl) hS rfl rfl rfl hM7 Try.underlying28 rfl (by rw [sz28]; rfl) ⟨_, rfl, hB, by rw [hfin]; exact ⟨_, rfl, ⟨rfl, .inl ⟨rfl, rfl⟩⟩⟩⟩))
        · skip
          refine seq_yis hS (by decide) rfl (by decide) rfl (runs_lss (r := false) rfl rfl (by rw [decide_eq_false_iff_not]; omega)) (fun a1 hS => ?_)
          refine seq_is hS (by decide) (runs_pick rfl rfl) (fun a1 hS => ?_)
          refine seq_is hS (by decide) (runs_move rfl) (fun a1 hS => ?_)
          refine seq_yis hS (by decide) rfl (by decide) rfl (runs_move rfl) (fun a1 hS => ?_)
          refine seq_yis hS (by decide) rfl (by decide) rfl (runs_fieldK fo26_2 rfl) (fun a1 hS => ?_)
          refine seq_yis hS (by decide) rfl (by decide) rfl (runs_load rfl pl3 (hM3.at rfl)) (fun a1 hS => ?_)
          by_cases r5 : at_ ≥ steps
          · skip
            refine seq_yis hS (by decide) rfl (by decide) rfl (runs_geq (r := true) rfl rfl (by rw [decide_eq_true_eq]; omega)) (fun a1 hS => ?_)
            refine seq_is hS (by decide) (runs_pick rfl rfl) (fun a1 hS => ?_)
            refine nil_ok (wp_cond_true (hS.eval rfl) (qx_seq (reg_seq ?_)))
            refine seq_is hS (by decide) (runs_buildK (pv := []) (cells := #[.int .i64 0, .int .i64 0, .bool false, .bool false, .int .i64 0]) rfl (by kernel_rfl)) (fun a1 hS => ?_)
            refine seq_none hS (runs_storeB (cs := [.int .i64 0, .int .i64 0, .bool false, .bool false, .int .i64 0]) rfl rfl hM7 rfl rfl sz28) (fun v17 w17 a1 hp hS => ?_)
            have hQ17 := hM7
            obtain ⟨hM7, hU17⟩ := hp
            have hB := But.new hB hU17 (fun i e => by rw [e]; exact hLhM7) (Nat.le_refl _)
            have hM1 := hM1.but hU17 (has_ne hM1 hQ17 (by decide))
            have hM3 := hM3.but hU17 (has_ne hM3 hQ17 (by decide))
            have hM5 := hM5.but hU17 (hNhM5hM7)
            have hE := hEb.kept hB
            refine seq_is hS (by decide) (runs_assign rfl) (fun a1 hS => ?_)
            refine seq_is hS (by decide) (runs_assign rfl) (fun a1 hS => ?_)
            have hm : mayB n es (kindL tg.data.toList) src steps at_ x = false := by rw [Bool.eq_false_iff]; intro h; rw [may_iff] at h; first | exact r1 h.1 | omega
            have hfin : stepL n es (kindL tg.data.toList) src steps at_ x = (noVx, [], 70) := by unfold stepL; rw [if_pos hm]
            exact nil_ok (qx_ret (retRow3 (p := 8) (t := 9) (r := 10) (ty := 28) (by kernel_rfl) hS rfl rfl rfl hM7 Try.underlying28 rfl (by rw [sz28]; rfl) ⟨_, rfl, hB, by rw [hfin]; exact ⟨_, rfl, ⟨rfl, .inl ⟨rfl, rfl⟩⟩⟩⟩))
          · skip
            refine seq_yis hS (by decide) rfl (by decide) rfl (runs_geq (r := false) rfl rfl (by rw [decide_eq_false_iff_not]; omega)) (fun a1 hS => ?_)
            refine seq_is hS (by decide) (runs_pick rfl rfl) (fun a1 hS => ?_)
            refine nil_ok (wp_cond_false (hS.eval rfl) (wp_skip (qx_seq (qx_seq (reg_seq ?_)))))
            refine seq_is hS (by decide) (runs_fieldK fo28_1 rfl) (fun a1 hS => ?_)
            refine seq_is hS (by decide) (runs_load rfl pl2 (hM5.at rfl)) (fun a1 hS => ?_)
            by_cases g1 : great x.val = true
            · skip
              refine seq_is hS (by decide) (runs_call (args := [.int .i64 x.val]) goes29 rfl (rgreat_is w9 g1)) (fun a1 hS => ?_)
              refine seq_is hS (by decide) (runs_move rfl) (fun a1 hS => ?_)
              refine seq_no hS (by decide) rfl (by decide) rfl rfl (fun a1 hS => ?_)
              refine seq_no hS (by decide) rfl (by decide) rfl rfl (fun a1 hS => ?_)
              refine seq_no hS (by decide) rfl (by decide) rfl rfl (fun a1 hS => ?_)
              refine seq_is hS (by decide) (runs_pick rfl rfl) (fun a1 hS => ?_)
              refine nil_ok (wp_cond_true (hS.eval rfl) (qx_seq (reg_seq ?_)))
              refine seq_is hS (by decide) (runs_buildK (pv := []) (cells := #[.int .i64 0, .int .i64 0, .bool false, .bool false, .int .i64 0]) rfl (by kernel_rfl)) (fun a1 hS => ?_)
              refine seq_none hS (runs_storeB (cs := [.int .i64 0, .int .i64 0, .bool false, .bool false, .int .i64 0]) rfl rfl hM7 rfl rfl sz28) (fun v19 w19 a1 hp hS => ?_)
              have hQ19 := hM7
              obtain ⟨hM7, hU19⟩ := hp
              have hB := But.new hB hU19 (fun i e => by rw [e]; exact hLhM7) (Nat.le_refl _)
              have hM1 := hM1.but hU19 (has_ne hM1 hQ19 (by decide))
              have hM3 := hM3.but hU19 (has_ne hM3 hQ19 (by decide))
              have hM5 := hM5.but hU19 (hNhM5hM7)
              have hE := hEb.kept hB
              refine seq_is hS (by decide) (runs_assign rfl) (fun a1 hS => ?_)
              refine seq_is hS (by decide) (runs_assign rfl) (fun a1 hS => ?_)
              have hm : mayB n es (kindL tg.data.toList) src steps at_ x = true := may_iff.2 ⟨r1, by omega, by omega, by omega, by omega⟩
              have hfin : stepL n es (kindL tg.data.toList) src steps at_ x = (noVx, [], 71) := by unfold stepL; rw [if_neg (by rw [hm]; simp)]; simp [g1]
              exact nil_ok (qx_ret (retRow3 (p := 8) (t := 9) (r := 10) (ty := 28) (by kernel_rfl) hS rfl rfl rfl hM7 Try.underlying28 rfl (by rw [sz28]; rfl) ⟨_, rfl, hB, by rw [hfin]; exact ⟨_, rfl, ⟨rfl, .inl ⟨rfl, rfl⟩⟩⟩⟩))
            · skip
              refine seq_is hS (by decide) (runs_call (args := [.int .i64 x.val]) goes29 rfl (rgreat_is w9 (Bool.eq_false_iff.2 g1))) (fun a1 hS => ?_)
              refine seq_is hS (by decide) (runs_move rfl) (fun a1 hS => ?_)
              refine seq_yis hS (by decide) rfl (by decide) rfl (runs_fieldK fo28_4 rfl) (fun a1 hS => ?_)
              refine seq_yis hS (by decide) rfl (by decide) rfl (runs_load rfl pl2 (hM5.at rfl)) (fun a1 hS => ?_)
              by_cases g2 : great x.inn = true
              · skip
                refine seq_yis hS (by decide) rfl (by decide) rfl (runs_call (args := [.int .i64 x.inn]) goes29 rfl (rgreat_is w9 g2)) (fun a1 hS => ?_)
                refine seq_is hS (by decide) (runs_pick rfl rfl) (fun a1 hS => ?_)
                refine nil_ok (wp_cond_true (hS.eval rfl) (qx_seq (reg_seq ?_)))
                refine seq_is hS (by decide) (runs_buildK (pv := []) (cells := #[.int .i64 0, .int .i64 0, .bool false, .bool false, .int .i64 0]) rfl (by kernel_rfl)) (fun a1 hS => ?_)
                refine seq_none hS (runs_storeB (cs := [.int .i64 0, .int .i64 0, .bool false, .bool false, .int .i64 0]) rfl rfl hM7 rfl rfl sz28) (fun v21 w21 a1 hp hS => ?_)
                have hQ21 := hM7
                obtain ⟨hM7, hU21⟩ := hp
                have hB := But.new hB hU21 (fun i e => by rw [e]; exact hLhM7) (Nat.le_refl _)
                have hM1 := hM1.but hU21 (has_ne hM1 hQ21 (by decide))
                have hM3 := hM3.but hU21 (has_ne hM3 hQ21 (by decide))
                have hM5 := hM5.but hU21 (hNhM5hM7)
                have hE := hEb.kept hB
                refine seq_is hS (by decide) (runs_assign rfl) (fun a1 hS => ?_)
                refine seq_is hS (by decide) (runs_assign rfl) (fun a1 hS => ?_)
                have hm : mayB n es (kindL tg.data.toList) src steps at_ x = true := may_iff.2 ⟨r1, by omega, by omega, by omega, by omega⟩
                have hfin : stepL n es (kindL tg.data.toList) src steps at_ x = (noVx, [], 71) := by unfold stepL; rw [if_neg (by rw [hm]; simp)]; simp [g1, g2]
                exact nil_ok (qx_ret (retRow3 (p := 8) (t := 9) (r := 10) (ty := 28) (by kernel_rfl) hS rfl rfl rfl hM7 Try.underlying28 rfl (by rw [sz28]; rfl) ⟨_, rfl, hB, by rw [hfin]; exact ⟨_, rfl, ⟨rfl, .inl ⟨rfl, rfl⟩⟩⟩⟩))
              · skip
                refine seq_yis hS (by decide) rfl (by decide) rfl (runs_call (args := [.int .i64 x.inn]) goes29 rfl (rgreat_is w9 (Bool.eq_false_iff.2 g2))) (fun a1 hS => ?_)
                refine seq_is hS (by decide) (runs_pick rfl rfl) (fun a1 hS => ?_)
                refine nil_ok (wp_cond_false (hS.eval rfl) (wp_skip (qx_seq (qx_seq (reg_seq ?_)))))
                refine seq_is hS (by decide) (runs_fieldK fo28_2 rfl) (fun a1 hS => ?_)
                by_cases q1 : x.act = true
                · skip
                  refine seq_is hS (by decide) (runs_load rfl pl4 ((hM5.at rfl).trans (by rw [q1]))) (fun a1 hS => ?_)
                  refine seq_is hS (by decide) (runs_not (b := true) rfl) (fun a1 hS => ?_)
                  refine seq_is hS (by decide) (runs_move rfl) (fun a1 hS => ?_)
                  refine seq_no hS (by decide) rfl (by decide) rfl rfl (fun a1 hS => ?_)
                  refine seq_no hS (by decide) rfl (by decide) rfl rfl (fun a1 hS => ?_)
                  refine seq_no hS (by decide) rfl (by decide) rfl rfl (fun a1 hS => ?_)
                  refine seq_is hS (by decide) (runs_pick rfl rfl) (fun a1 hS => ?_)
                  refine nil_ok (wp_cond_false (hS.eval rfl) (wp_skip (qx_seq (?_))))
                  have hW0 := hB.size
                  obtain ⟨hc0, hk0, hs0, hs1, hs2, hs3⟩ := job_iff.1 r1
                  obtain ⟨RR, hRR⟩ : ∃ RR, (turnL n es (kindL tg.data.toList) src steps at_ x) = RR := ⟨_, rfl⟩
                  obtain ⟨RL, hRL⟩ : ∃ RL, RR.2 = RL := ⟨_, rfl⟩
                  have lthM5 := hM5.lt
                  have lthM7 := hM7.lt
                  refine reg_v (KF (w9.heap.size) 28 (vc (⟨x.id, RR.1.1, RR.1.2, false, 0⟩ : Vx))) (fun w' => KF (w9.heap.size) 28 (vc (⟨x.id, RR.1.1, RR.1.2, false, 0⟩ : Vx)) w9 w') [.inl (.agg (jc tg src steps).toArray), .inl (.int .i64 at_), .inl (.agg (vc x).toArray), .inl (gv n (.slice A es.length c)), .inl (.pointer (some ⟨w3.heap.size, 0 + 0, none⟩)), .inl (.int .i64 x.id), .inr (fun _ => fun v w' => ∃ Bo, OwnOr Bo w' v (outL n es x.id)), .inr (fun _ => fun v w' => ∃ sv, v = .tuple #[vv (⟨x.id, RR.1.1, RR.1.2, false, 0⟩ : Vx), sv] ∧ w'.ownsRow w9.heap.size 48 3 sv (RL).length (cellsE (RL))), .inr (fun _ => fun v w' => ∃ sv, v = .tuple #[vv (⟨x.id, RR.1.1, RR.1.2, false, 0⟩ : Vx), sv] ∧ w'.ownsRow w9.heap.size 48 3 sv (RL).length (cellsE (RL))), .inl (.agg (vc (⟨x.id, RR.1.1, RR.1.2, false, 0⟩ : Vx)).toArray), .inr (fun _ => fun v w' => w'.ownsRow w9.heap.size 48 3 v (RL).length (cellsE (RL))), .inr (fun _ => fun v w' => ∃ g, v = .pointer (some ⟨g, 0, none⟩) ∧ w9.heap.size ≤ g ∧ ∃ cs : List Value, cs.length = 5 ∧ Has w' g 28 cs), .inr (fun vs _ => fun w' => ∃ g, vs 11 = .pointer (some ⟨g, 0, none⟩) ∧ w9.heap.size ≤ g ∧ Has w' g 28 (vc (⟨x.id, RR.1.1, RR.1.2, false, 0⟩ : Vx))), .inr (fun _ => fun v w' => w'.ownsRow w9.heap.size 48 3 v (RL).length (cellsE (RL)))] 14 0 ⟨trivial, trivial, trivial, trivial, trivial, trivial, fun _ _ _ => rfl, fun _ _ _ => rfl, fun _ _ _ => rfl, trivial, fun _ _ _ => rfl, fun _ _ _ => rfl, fun vs vs' h => by simp only [h 11 (by kernel_rfl)], fun _ _ _ => rfl, trivial⟩ mixed rfl (by kernel_rfl) hS (KF.refl _ _ _ _) (fun _ h => h.drew) ?_
                  refine fun vs => ?_
                  refine vs_is rfl (fun w' hw => runs_loadRow rfl (hw.other _ _ _ (by decide) hM3) Try.underlying26 rfl (by rw [sz26]; rfl)) ?_
                  refine vs_is rfl (fun w' hw => runs_move rfl) ?_
                  refine vs_is rfl (fun w' hw => runs_loadRow rfl (hM5.below hw.below (hM5.lt)) Try.underlying28 rfl (by rw [sz28]; rfl)) ?_
                  refine vs_is rfl (fun w' hw => runs_loadRow rfl (hw.other _ _ _ (by decide) hM1) Try.underlying24 rfl (by rw [sz24]; rfl)) ?_
                  refine vs_is rfl (fun w' hw => runs_fieldK fo28_0 rfl) ?_
                  refine vs_is rfl (fun w' hw => runs_load rfl pl3 ((hM5.below hw.below (hM5.lt)).at rfl)) ?_
                  refine vs_pr rfl (fun _ _ _ h hk => by obtain ⟨Bo, ho⟩ := h; exact ⟨Bo, ho.kf hk⟩) (fun w' hw hq => (runs_call (args := [gv n (.slice A es.length c), .int .i64 x.id]) goes31 rfl (rout2_any n x.id es _ w' (hE.kept hw.below) hc0)).mono (by rintro v w5 ⟨hb, ho⟩; exact ⟨ho, hw.more (Nat.le_refl _) hb, KF.of hb hw.below.size⟩)) (fun vo evo => ?_)
                  refine vs_pr rfl (fun _ _ _ h hk => by obtain ⟨sv, h1, h2⟩ := h; exact ⟨sv, h1, hk.owns h2 (by decide)⟩) (fun w' hw hq => (by obtain ⟨Bo, ho⟩ := hq (6, _) List.mem_cons_self (by kernel_rfl); exact (runs_call (args := [.agg (jc tg src steps).toArray, .int .i64 at_, .agg (vc x).toArray, vo]) goes30 rfl (rplain_is hRR hRL (by have := outL_length hc0 x.id; omega) w' ho.edges hk0 (Bool.eq_false_iff.2 g1) (Bool.eq_false_iff.2 g2) (fun e he => outL_ok hc0 he) hs2 hs3 (by omega))).mono (by rintro v w5 ⟨hb, sv, h1, h2⟩; exact ⟨⟨sv, h1, owns_mono h2 hw.below.size⟩, hw.more (Nat.le_refl _) hb, KF.of hb hw.below.size⟩))) (fun vc1 evc1 => ?_)
                  refine vs_pr rfl (fun _ _ _ h hk => by obtain ⟨sv, h1, h2⟩ := h; exact ⟨sv, h1, hk.owns h2 (by decide)⟩) (fun w' hw hq => (by obtain ⟨sv, rfl, h2⟩ := hq (7, _) List.mem_cons_self (by kernel_rfl); exact (runs_move rfl).mono (by rintro v w5 ⟨rfl, rfl⟩; exact ⟨⟨sv, rfl, h2⟩, hw, KF.refl _ _ _ _⟩))) (fun vc2 evc2 => ?_)
                  refine vs_val rfl (fun w' hw hq => (by obtain ⟨sv, rfl, _⟩ := hq (8, _) List.mem_cons_self (by kernel_rfl); exact (runs_extract rfl rfl).mono (by rintro v w5 ⟨rfl, rfl⟩; exact ⟨rfl, hw, KF.refl _ _ _ _⟩))) ?_
                  refine vs_pr rfl (fun _ _ _ h hk => hk.owns h (by decide)) (fun w' hw hq => (by obtain ⟨sv, rfl, h2⟩ := hq (8, _) List.mem_cons_self (by kernel_rfl); exact (runs_extract rfl rfl).mono (by rintro v w5 ⟨rfl, rfl⟩; exact ⟨h2, hw, KF.refl _ _ _ _⟩))) (fun sl esl => ?_)
                  refine vs_pr rfl (fun _ _ _ h hk => by obtain ⟨g, h1, h2, cs, h3, h4⟩ := h; obtain ⟨cs', h5, h6⟩ := hk.len _ _ h4; exact ⟨g, h1, h2, cs', h5.trans h3, h6⟩) (fun w' hw hq => (runs_allocB (cs := [.int .i64 0, .int .i64 0, .bool false, .bool false, .int .i64 0]) zo28 rfl).mono (by rintro v w5 ⟨rfl, h2, h3⟩; exact ⟨⟨_, rfl, hw.below.size, _, rfl, h2⟩, hw.more (Nat.le_refl _) h3, KF.of h3 hw.below.size⟩)) (fun va eva => ?_)
                  refine vs_none rfl (fun w1 w2 h hk => by obtain ⟨g, h1, h2, h3⟩ := h; exact ⟨g, h1, h2, hk.fin _ h3⟩) (fun w' hw hq => (by obtain ⟨g, rfl, hBg, cs, hcs, hg⟩ := hq (11, _) List.mem_cons_self (by kernel_rfl); exact (runs_storeB (cs := vc (⟨x.id, RR.1.1, RR.1.2, false, 0⟩ : Vx)) rfl rfl hg (hcs.trans rfl) rfl sz28).mono (by rintro v w2 ⟨h1, h2⟩; have hk := KF.store (F := vc (⟨x.id, RR.1.1, RR.1.2, false, 0⟩ : Vx)) hg hBg (hcs.trans rfl) h1 h2; exact ⟨⟨g, eva, hBg, h1⟩, hw.trans hk, hk⟩))) (fun _ _ => ?_)
                  refine vs_pr rfl (fun _ _ _ h hk => hk.owns h (by decide)) (fun w' hw hq => (by have h2 := hq (10, _) (List.mem_cons_of_mem _ (List.mem_cons_of_mem _ List.mem_cons_self)) (by kernel_rfl); exact (runs_assign rfl).mono (by rintro v w5 ⟨rfl, rfl⟩; exact ⟨h2, hw, KF.refl _ _ _ _⟩))) (fun sm esm => ?_)
                  refine (fun a23 w23 hS hK23 hq => ?_)
                  obtain ⟨gs, hgs, hgBs, hYs⟩ := (hq (12, _) (List.mem_cons_of_mem _ List.mem_cons_self))
                  rw [eva] at hgs
                  subst hgs
                  have hOwn := (hq (13, _) List.mem_cons_self)
                  clear hq
                  have hB := hB.trans (hK23.below.mono (hB.size))
                  have hM1 := hK23.other _ _ _ (by decide) hM1
                  have hM3 := hK23.other _ _ _ (by decide) hM3
                  have hM5 := hM5.below hK23.below (hM5.lt)
                  have hM7 := hM7.below hK23.below (hM7.lt)
                  have hE := hEb.kept hB
                  have hNYshM7 : gs ≠ w5.heap.size := by omega
                  obtain ⟨A2, c2, hsm, hc21, hc22, _⟩ := edges_ownE hOwn rfl
                  unfold maxLen at hc22
                  subst hsm
                  refine wpAnyH_done (by kernel_rfl) ?_ _
                  refine qx_seq (reg_seq ?_)
                  refine seq_is hS (by decide) (runs_fieldK fo28_1 rfl) (fun a1 hS => ?_)
                  refine seq_is hS (by decide) (runs_load rfl pl2 (hYs.at rfl)) (fun a1 hS => ?_)
                  refine seq_is hS (by decide) (runs_call (args := [.int .i64 RR.1.1]) goes29 rfl (rgreat_any RR.1.1 w23)) (fun a1 hS => ?_)
                  refine seq_is hS (by decide) (runs_assign rfl) (fun a1 hS => ?_)
                  refine nil_ok (qx_seq (qx_seq (reg_seq ?_)))
                  refine seq_is hS (by decide) (runs_assign rfl) (fun a1 hS => ?_)
                  refine nil_ok (?_)
                  have hBo1 := hB
                  refine qx_for (fun mm a w' => ∃ (i : Nat) (t : Bool), i ≤ RL.length ∧ mm = RL.length - i ∧ Below w23.heap.size w23 w' ∧ t = (great RR.1.1 || (RL.take i).any (fun m => great m.2.2)) ∧ Sees 93 [(14, .int .i64 (i : Int)), (13, .bool t), (12, .slice A2 RL.length c2), (11, .pointer (some ⟨gs, 0, none⟩)), (10, .int .i64 0), (9, .slice none 0 0), (8, .pointer (some ⟨w5.heap.size, 0, none⟩))] a) RL.length ⟨0, great RR.1.1, by omega, by omega, Below.refl _ _, by simp, hS.only _ ⟨rfl, rfl, rfl, rfl, rfl, rfl, rfl, trivial⟩⟩ ?_
                  clear hS
                  rintro mm a wl1 ⟨i, t, hi1, rfl, hBl1, ht, hS⟩
                  have hM1 := hM1.below hBl1 hM1.lt
                  have hM3 := hM3.below hBl1 hM3.lt
                  have hM5 := hM5.below hBl1 hM5.lt
                  have hM7 := hM7.below hBl1 hM7.lt
                  have hYs := hYs.below hBl1 hYs.lt
                  have hE := hE.kept hBl1
                  have hOwn := owns_kept hOwn hBl1
                  have hB := Below.refl wl1.heap.size wl1
                  refine reg_seq ?_
                  refine seq_is hS (by decide) (runs_move rfl) (fun a1 hS => ?_)
                  refine seq_is hS (by decide) (runs_move rfl) (fun a1 hS => ?_)
                  refine seq_is hS (by decide) (runs_len rfl und32) (fun a1 hS => ?_)
                  by_cases hlt1 : i < RL.length
                  · skip
                    refine seq_is hS (by decide) (runs_lss (r := true) rfl rfl (by rw [decide_eq_true_eq]; omega)) (fun a1 hS => ?_)
                    refine nil_ok ⟨_, hS.eval rfl, fun h => by simp at h, fun _ => ?_⟩
                    obtain ⟨m, hmi⟩ : ∃ m, RL[i]? = some m := ⟨RL[i], by simp [hlt1]⟩
                    obtain ⟨b, o, hAe, hbw, hr⟩ := edges_row (edges_ownE hOwn rfl) (by omega)
                    have hre := edges_at hr hmi
                    refine qx_seq (qx_block (?_))
                    cases t with
                    | false =>
                      refine reg_seq ?_
                      refine seq_is hS (by decide) (runs_move rfl) (fun a1 hS => ?_)
                      refine seq_is hS (by decide) (runs_move rfl) (fun a1 hS => ?_)
                      refine seq_yis hS (by decide) rfl (by decide) rfl (runs_move rfl) (fun a1 hS => ?_)
                      refine seq_yis hS (by decide) rfl (by decide) rfl (runs_move rfl) (fun a1 hS => ?_)
                      refine seq_yis hS (by decide) rfl (by decide) rfl (runs_indexAddrG (j := i) (by rw [← hAe]; rfl) rfl und32 sz48 rfl hlt1) (fun a1 hS => ?_)
                      refine seq_yis hS (by decide) rfl (by decide) rfl (runs_fieldK fo48_2 rfl) (fun a1 hS => ?_)
                      refine seq_yis hS (by decide) rfl (by decide) rfl (runs_load rfl pl2 (hre 2 _ rfl)) (fun a1 hS => ?_)
                      by_cases gm : great m.2.2 = true
                      · skip
                        refine seq_yis hS (by decide) rfl (by decide) rfl (runs_call (args := [.int .i64 m.2.2]) goes29 rfl (rgreat_is wl1 gm)) (fun a1 hS => ?_)
                        refine seq_is hS (by decide) (runs_pick rfl rfl) (fun a1 hS => ?_)
                        refine seq_is hS (by decide) (runs_assign rfl) (fun a1 hS => ?_)
                        refine nil_ok (reg_seq ?_)
                        refine seq_is hS (by decide) (runs_move rfl) (fun a1 hS => ?_)
                        refine seq_is hS (by decide) (runs_add (r := ((i + 1 : Nat) : Int)) rfl rfl (by simp [IntKind.wrap, IntKind.bits, IntKind.signed]; omega)) (fun a1 hS => ?_)
                        refine seq_is hS (by decide) (runs_assign rfl) (fun a1 hS => ?_)
                        exact nil_ok ⟨_, by omega, i + 1, true, by omega, rfl, hBl1.trans (hB.mono hBl1.size), by rw [any_take _ hmi, ← Bool.or_assoc, ← ht]; simp [gm], hS.only _ ⟨rfl, rfl, rfl, rfl, rfl, rfl, rfl, trivial⟩⟩
                      · skip
                        refine seq_yis hS (by decide) rfl (by decide) rfl (runs_call (args := [.int .i64 m.2.2]) goes29 rfl (rgreat_is wl1 (Bool.eq_false_iff.2 gm))) (fun a1 hS => ?_)
                        refine seq_is hS (by decide) (runs_pick rfl rfl) (fun a1 hS => ?_)
                        refine seq_is hS (by decide) (runs_assign rfl) (fun a1 hS => ?_)
                        refine nil_ok (reg_seq ?_)
                        refine seq_is hS (by decide) (runs_move rfl) (fun a1 hS => ?_)
                        refine seq_is hS (by decide) (runs_add (r := ((i + 1 : Nat) : Int)) rfl rfl (by simp [IntKind.wrap, IntKind.bits, IntKind.signed]; omega)) (fun a1 hS => ?_)
                        refine seq_is hS (by decide) (runs_assign rfl) (fun a1 hS => ?_)
                        exact nil_ok ⟨_, by omega, i + 1, false, by omega, rfl, hBl1.trans (hB.mono hBl1.size), by rw [any_take _ hmi, ← Bool.or_assoc, ← ht]; simp [gm], hS.only _ ⟨rfl, rfl, rfl, rfl, rfl, rfl, rfl, trivial⟩⟩
                    | true =>
                      refine reg_seq ?_
                      refine seq_is hS (by decide) (runs_move rfl) (fun a1 hS => ?_)
                      refine seq_is hS (by decide) (runs_move rfl) (fun a1 hS => ?_)
                      refine seq_no hS (by decide) rfl (by decide) rfl rfl (fun a1 hS => ?_)
                      refine seq_no hS (by decide) rfl (by decide) rfl rfl (fun a1 hS => ?_)
                      refine seq_no hS (by decide) rfl (by decide) rfl rfl (fun a1 hS => ?_)
                      refine seq_no hS (by decide) rfl (by decide) rfl rfl (fun a1 hS => ?_)
                      refine seq_no hS (by decide) rfl (by decide) rfl rfl (fun a1 hS => ?_)
                      refine seq_no hS (by decide) rfl (by decide) rfl rfl (fun a1 hS => ?_)
                      refine seq_is hS (by decide) (runs_pick rfl rfl) (fun a1 hS => ?_)
                      refine seq_is hS (by decide) (runs_assign rfl) (fun a1 hS => ?_)
                      refine nil_ok (reg_seq ?_)
                      refine seq_is hS (by decide) (runs_move rfl) (fun a1 hS => ?_)
                      refine seq_is hS (by decide) (runs_add (r := ((i + 1 : Nat) : Int)) rfl rfl (by simp [IntKind.wrap, IntKind.bits, IntKind.signed]; omega)) (fun a1 hS => ?_)
                      refine seq_is hS (by decide) (runs_assign rfl) (fun a1 hS => ?_)
                      exact nil_ok ⟨_, by omega, i + 1, true, by omega, rfl, hBl1.trans (hB.mono hBl1.size), by rw [any_take _ hmi, ← Bool.or_assoc, ← ht]; simp, hS.only _ ⟨rfl, rfl, rfl, rfl, rfl, rfl, rfl, trivial⟩⟩
                  · skip
                    refine seq_is hS (by decide) (runs_lss (r := false) rfl rfl (by rw [decide_eq_false_iff_not]; omega)) (fun a1 hS => ?_)
                    obtain rfl : i = RL.length := by omega
                    refine nil_ok ⟨_, hS.eval rfl, fun _ => ?_, fun h => by simp at h⟩
                    have hB := hBo1.trans ((hBl1.trans (hB.mono hBl1.size)).mono hBo1.size)
                    rw [List.take_length] at ht
                    refine qx_seq (qx_seq (reg_seq ?_))
                    by_cases gt : t = true
                    · skip
                      rw [gt] at hS
                      refine seq_is hS (by decide) (runs_move rfl) (fun a1 hS => ?_)
                      refine nil_ok (wp_cond_true (hS.eval rfl) (qx_seq (reg_seq ?_)))
                      refine seq_is hS (by decide) (runs_buildK (pv := []) (cells := #[.int .i64 0, .int .i64 0, .bool false, .bool false, .int .i64 0]) rfl (by kernel_rfl)) (fun a1 hS => ?_)
                      refine seq_none hS (runs_storeB (cs := [.int .i64 0, .int .i64 0, .bool false, .bool false, .int .i64 0]) rfl rfl hM7 rfl rfl sz28) (fun v25 w25 a1 hp hS => ?_)
                      have hQ25 := hM7
                      obtain ⟨hM7, hU25⟩ := hp
                      have hB := But.new hB hU25 (fun i e => by rw [e]; exact hLhM7) (Nat.le_refl _)
                      have hM1 := hM1.but hU25 (has_ne hM1 hQ25 (by decide))
                      have hM3 := hM3.but hU25 (has_ne hM3 hQ25 (by decide))
                      have hM5 := hM5.but hU25 (hNhM5hM7)
                      have hYs := hYs.but hU25 (hNYshM7)
                      have hE := hEb.kept hB
                      have hOwn := owns_but hOwn hU25 (fun i old ho e => by subst e; exact has_ne ho hQ25 (by decide) rfl)
                      refine seq_is hS (by decide) (runs_assign rfl) (fun a1 hS => ?_)
                      refine seq_is hS (by decide) (runs_assign rfl) (fun a1 hS => ?_)
                      have hm : mayB n es (kindL tg.data.toList) src steps at_ x = true := may_iff.2 ⟨r1, by omega, by omega, by omega, by omega⟩
                      have htt : (great RR.1.1 || RL.any (fun m => great m.2.2)) = true := by rw [← ht]; exact gt
                      have hfin : stepL n es (kindL tg.data.toList) src steps at_ x = (noVx, [], 71) := by unfold stepL; rw [if_neg (by rw [hm]; simp)]; rw [if_neg (by simp [g1, g2]), if_neg (by simp [q1])]; dsimp only; rw [hRR, hRL, htt]; rfl
                      exact nil_ok (qx_ret (retRow3 (p := 8) (t := 9) (r := 10) (ty := 28) (by kernel_rfl) hS rfl rfl rfl hM7 Try.underlying28 rfl (by rw [sz28]; rfl) ⟨_, rfl, hB, by rw [hfin]; exact ⟨_, rfl, ⟨rfl, .inl ⟨rfl, rfl⟩⟩⟩⟩))
                    · skip
                      rw [Bool.eq_false_iff.2 gt] at hS
                      refine seq_is hS (by decide) (runs_move rfl) (fun a1 hS => ?_)
                      refine nil_ok (wp_cond_false (hS.eval rfl) (wp_skip (qx_seq (reg_seq ?_))))
                      refine seq_is hS (by decide) (runs_loadRow rfl hYs Try.underlying28 rfl (by rw [sz28]; rfl)) (fun a1 hS => ?_)
                      refine seq_is hS (by decide) (runs_move rfl) (fun a1 hS => ?_)
                      refine seq_none hS (runs_storeB (cs := vc (⟨x.id, RR.1.1, RR.1.2, false, 0⟩ : Vx)) rfl rfl hM7 rfl rfl sz28) (fun v27 w27 a1 hp hS => ?_)
                      have hQ27 := hM7
                      obtain ⟨hM7, hU27⟩ := hp
                      have hB := But.new hB hU27 (fun i e => by rw [e]; exact hLhM7) (Nat.le_refl _)
                      have hM1 := hM1.but hU27 (has_ne hM1 hQ27 (by decide))
                      have hM3 := hM3.but hU27 (has_ne hM3 hQ27 (by decide))
                      have hM5 := hM5.but hU27 (hNhM5hM7)
                      have hYs := hYs.but hU27 (hNYshM7)
                      have hE := hEb.kept hB
                      have hOwn := owns_but hOwn hU27 (fun i old ho e => by subst e; exact has_ne ho hQ27 (by decide) rfl)
                      refine seq_is hS (by decide) (runs_assign rfl) (fun a1 hS => ?_)
                      refine seq_is hS (by decide) (runs_assign rfl) (fun a1 hS => ?_)
                      have hm : mayB n es (kindL tg.data.toList) src steps at_ x = true := may_iff.2 ⟨r1, by omega, by omega, by omega, by omega⟩
                      have htt : (great RR.1.1 || RL.any (fun m => great m.2.2)) = false := by rw [← ht]; exact Bool.eq_false_iff.2 gt
                      have hfin : stepL n es (kindL tg.data.toList) src steps at_ x = ((⟨x.id, RR.1.1, RR.1.2, false, 0⟩ : Vx), RL, 0) := by unfold stepL; rw [if_neg (by rw [hm]; simp)]; rw [if_neg (by simp [g1, g2]), if_neg (by simp [q1])]; dsimp only; rw [hRR, hRL, htt]; rfl
                      exact nil_ok (qx_ret (retRow3 (p := 8) (t := 9) (r := 10) (ty := 28) (by kernel_rfl) hS rfl rfl rfl hM7 Try.underlying28 rfl (by rw [sz28]; rfl) ⟨_, rfl, hB, by rw [hfin]; exact ⟨_, rfl, owns_mono hOwn hW0⟩⟩))
                · skip
                  refine seq_is hS (by decide) (runs_load rfl pl4 ((hM5.at rfl).trans (by rw [Bool.eq_false_iff.2 q1]))) (fun a1 hS => ?_)
                  refine seq_is hS (by decide) (runs_not (b := false) rfl) (fun a1 hS => ?_)
                  refine seq_is hS (by decide) (runs_move rfl) (fun a1 hS => ?_)
                  refine seq_yis hS (by decide) rfl (by decide) rfl (runs_fieldK fo28_3 rfl) (fun a1 hS => ?_)
                  by_cases q2 : x.has = true
                  · skip
                    refine seq_yis hS (by decide) rfl (by decide) rfl (runs_load rfl pl4 ((hM5.at rfl).trans (by rw [q2]))) (fun a1 hS => ?_)
                    refine seq_yis hS (by decide) rfl (by decide) rfl (runs_not (b := true) rfl) (fun a1 hS => ?_)
                    refine seq_is hS (by decide) (runs_pick rfl rfl) (fun a1 hS => ?_)
                    refine nil_ok (wp_cond_false (hS.eval rfl) (wp_skip (qx_seq (?_))))
                    have hW0 := hB.size
                    obtain ⟨hc0, hk0, hs0, hs1, hs2, hs3⟩ := job_iff.1 r1
                    obtain ⟨RR, hRR⟩ : ∃ RR, (turnL n es (kindL tg.data.toList) src steps at_ x) = RR := ⟨_, rfl⟩
                    obtain ⟨RL, hRL⟩ : ∃ RL, RR.2 = RL := ⟨_, rfl⟩
                    have lthM5 := hM5.lt
                    have lthM7 := hM7.lt
                    refine reg_v (KF (w9.heap.size) 28 (vc (⟨x.id, RR.1.1, RR.1.2, false, 0⟩ : Vx))) (fun w' => KF (w9.heap.size) 28 (vc (⟨x.id, RR.1.1, RR.1.2, false, 0⟩ : Vx)) w9 w') [.inl (.agg (jc tg src steps).toArray), .inl (.int .i64 at_), .inl (.agg (vc x).toArray), .inl (gv n (.slice A es.length c)), .inl (.pointer (some ⟨w3.heap.size, 0 + 0, none⟩)), .inl (.int .i64 x.id), .inr (fun _ => fun v w' => ∃ Bo, OwnOr Bo w' v (outL n es x.id)), .inr (fun _ => fun v w' => ∃ sv, v = .tuple #[vv (⟨x.id, RR.1.1, RR.1.2, false, 0⟩ : Vx), sv] ∧ w'.ownsRow w9.heap.size 48 3 sv (RL).length (cellsE (RL))), .inr (fun _ => fun v w' => ∃ sv, v = .tuple #[vv (⟨x.id, RR.1.1, RR.1.2, false, 0⟩ : Vx), sv] ∧ w'.ownsRow w9.heap.size 48 3 sv (RL).length (cellsE (RL))), .inl (.agg (vc (⟨x.id, RR.1.1, RR.1.2, false, 0⟩ : Vx)).toArray), .inr (fun _ => fun v w' => w'.ownsRow w9.heap.size 48 3 v (RL).length (cellsE (RL))), .inr (fun _ => fun v w' => ∃ g, v = .pointer (some ⟨g, 0, none⟩) ∧ w9.heap.size ≤ g ∧ ∃ cs : List Value, cs.length = 5 ∧ Has w' g 28 cs), .inr (fun vs _ => fun w' => ∃ g, vs 11 = .pointer (some ⟨g, 0, none⟩) ∧ w9.heap.size ≤ g ∧ Has w' g 28 (vc (⟨x.id, RR.1.1, RR.1.2, false, 0⟩ : Vx))), .inr (fun _ => fun v w' => w'.ownsRow w9.heap.size 48 3 v (RL).length (cellsE (RL)))] 14 0 ⟨trivial, trivial, trivial, trivial, trivial, trivial, fun _ _ _ => rfl, fun _ _ _ => rfl, fun _ _ _ => rfl, trivial, fun _ _ _ => rfl, fun _ _ _ => rfl, fun vs vs' h => by simp only [h 11 (by kernel_rfl)], fun _ _ _ => rfl, trivial⟩ mixed rfl (by kernel_rfl) hS (KF.refl _ _ _ _) (fun _ h => h.drew) ?_
                    refine fun vs => ?_
                    refine vs_is rfl (fun w' hw => runs_loadRow rfl (hw.other _ _ _ (by decide) hM3) Try.underlying26 rfl (by rw [sz26]; rfl)) ?_
                    refine vs_is rfl (fun w' hw => runs_move rfl) ?_
                    refine vs_is rfl (fun w' hw => runs_loadRow rfl (hM5.below hw.below (hM5.lt)) Try.underlying28 rfl (by rw [sz28]; rfl)) ?_
                    refine vs_is rfl (fun w' hw => runs_loadRow rfl (hw.other _ _ _ (by decide) hM1) Try.underlying24 rfl (by rw [sz24]; rfl)) ?_
                    refine vs_is rfl (fun w' hw => runs_fieldK fo28_0 rfl) ?_
                    refine vs_is rfl (fun w' hw => runs_load rfl pl3 ((hM5.below hw.below (hM5.lt)).at rfl)) ?_
                    refine vs_pr rfl (fun _ _ _ h hk => by obtain ⟨Bo, ho⟩ := h; exact ⟨Bo, ho.kf hk⟩) (fun w' hw hq => (runs_call (args := [gv n (.slice A es.length c), .int .i64 x.id]) goes31 rfl (rout2_any n x.id es _ w' (hE.kept hw.below) hc0)).mono (by rintro v w5 ⟨hb, ho⟩; exact ⟨ho, hw.more (Nat.le_refl _) hb, KF.of hb hw.below.size⟩)) (fun vo evo => ?_)
                    refine vs_pr rfl (fun _ _ _ h hk => by obtain ⟨sv, h1, h2⟩ := h; exact ⟨sv, h1, hk.owns h2 (by decide)⟩) (fun w' hw hq => (by obtain ⟨Bo, ho⟩ := hq (6, _) List.mem_cons_self (by kernel_rfl); exact (runs_call (args := [.agg (jc tg src steps).toArray, .int .i64 at_, .agg (vc x).toArray, vo]) goes30 rfl (rplain_is hRR hRL (by have := outL_length hc0 x.id; omega) w' ho.edges hk0 (Bool.eq_false_iff.2 g1) (Bool.eq_false_iff.2 g2) (fun e he => outL_ok hc0 he) hs2 hs3 (by omega))).mono (by rintro v w5 ⟨hb, sv, h1, h2⟩; exact ⟨⟨sv, h1, owns_mono h2 hw.below.size⟩, hw.more (Nat.le_refl _) hb, KF.of hb hw.below.size⟩))) (fun vc1 evc1 => ?_)
                    refine vs_pr rfl (fun _ _ _ h hk => by obtain ⟨sv, h1, h2⟩ := h; exact ⟨sv, h1, hk.owns h2 (by decide)⟩) (fun w' hw hq => (by obtain ⟨sv, rfl, h2⟩ := hq (7, _) List.mem_cons_self (by kernel_rfl); exact (runs_move rfl).mono (by rintro v w5 ⟨rfl, rfl⟩; exact ⟨⟨sv, rfl, h2⟩, hw, KF.refl _ _ _ _⟩))) (fun vc2 evc2 => ?_)
                    refine vs_val rfl (fun w' hw hq => (by obtain ⟨sv, rfl, _⟩ := hq (8, _) List.mem_cons_self (by kernel_rfl); exact (runs_extract rfl rfl).mono (by rintro v w5 ⟨rfl, rfl⟩; exact ⟨rfl, hw, KF.refl _ _ _ _⟩))) ?_
                    refine vs_pr rfl (fun _ _ _ h hk => hk.owns h (by decide)) (fun w' hw hq => (by obtain ⟨sv, rfl, h2⟩ := hq (8, _) List.mem_cons_self (by kernel_rfl); exact (runs_extract rfl rfl).mono (by rintro v w5 ⟨rfl, rfl⟩; exact ⟨h2, hw, KF.refl _ _ _ _⟩))) (fun sl esl => ?_)
                    refine vs_pr rfl (fun _ _ _ h hk => by obtain ⟨g, h1, h2, cs, h3, h4⟩ := h; obtain ⟨cs', h5, h6⟩ := hk.len _ _ h4; exact ⟨g, h1, h2, cs', h5.trans h3, h6⟩) (fun w' hw hq => (runs_allocB (cs := [.int .i64 0, .int .i64 0, .bool false, .bool false, .int .i64 0]) zo28 rfl).mono (by rintro v w5 ⟨rfl, h2, h3⟩; exact ⟨⟨_, rfl, hw.below.size, _, rfl, h2⟩, hw.more (Nat.le_refl _) h3, KF.of h3 hw.below.size⟩)) (fun va eva => ?_)
                    refine vs_none rfl (fun w1 w2 h hk => by obtain ⟨g, h1, h2, h3⟩ := h; exact ⟨g, h1, h2, hk.fin _ h3⟩) (fun w' hw hq => (by obtain ⟨g, rfl, hBg, cs, hcs, hg⟩ := hq (11, _) List.mem_cons_self (by kernel_rfl); exact (runs_storeB (cs := vc (⟨x.id, RR.1.1, RR.1.2, false, 0⟩ : Vx)) rfl rfl hg (hcs.trans rfl) rfl sz28).mono (by rintro v w2 ⟨h1, h2⟩; have hk := KF.store (F := vc (⟨x.id, RR.1.1, RR.1.2, false, 0⟩ : Vx)) hg hBg (hcs.trans rfl) h1 h2; exact ⟨⟨g, eva, hBg, h1⟩, hw.trans hk, hk⟩))) (fun _ _ => ?_)
                    refine vs_pr rfl (fun _ _ _ h hk => hk.owns h (by decide)) (fun w' hw hq => (by have h2 := hq (10, _) (List.mem_cons_of_mem _ (List.mem_cons_of_mem _ List.mem_cons_self)) (by kernel_rfl); exact (runs_assign rfl).mono (by rintro v w5 ⟨rfl, rfl⟩; exact ⟨h2, hw, KF.refl _ _ _ _⟩))) (fun sm esm => ?_)
                    refine (fun a29 w29 hS hK29 hq => ?_)
                    obtain ⟨gs, hgs, hgBs, hYs⟩ := (hq (12, _) (List.mem_cons_of_mem _ List.mem_cons_self))
                    rw [eva] at hgs
                    subst hgs
                    have hOwn := (hq (13, _) List.mem_cons_self)
                    clear hq
                    have hB := hB.trans (hK29.below.mono (hB.size))
                    have hM5 := hM5.below hK29.below (hM5.lt)
                    have hM7 := hM7.below hK29.below (hM7.lt)
                    have hNYshM7 : gs ≠ w5.heap.size := by omega
                    obtain ⟨A2, c2, hsm, hc21, hc22, _⟩ := edges_ownE hOwn rfl
                    unfold maxLen at hc22
                    subst hsm
                    refine wpAnyH_done (by kernel_rfl) ?_ _
                    refine qx_seq (reg_seq ?_)
                    refine seq_is hS (by decide) (runs_fieldK fo28_1 rfl) (fun a1 hS => ?_)
                    refine seq_is hS (by decide) (runs_load rfl pl2 (hYs.at rfl)) (fun a1 hS => ?_)
                    refine seq_is hS (by decide) (runs_call (args := [.int .i64 RR.1.1]) goes29 rfl (rgreat_any RR.1.1 w29)) (fun a1 hS => ?_)
                    refine seq_is hS (by decide) (runs_assign rfl) (fun a1 hS => ?_)
                    refine nil_ok (qx_seq (qx_seq (reg_seq ?_)))
                    refine seq_is hS (by decide) (runs_assign rfl) (fun a1 hS => ?_)
                    refine nil_ok (?_)
                    have hBo1 := hB
                    refine qx_for (fun mm a w' => ∃ (i : Nat) (t : Bool), i ≤ RL.length ∧ mm = RL.length - i ∧ Below w29.heap.size w29 w' ∧ t = (great RR.1.1 || (RL.take i).any (fun m => great m.2.2)) ∧ Sees 93 [(14, .int .i64 (i : Int)), (13, .bool t), (12, .slice A2 RL.length c2), (11, .pointer (some ⟨gs, 0, none⟩)), (10, .int .i64 0), (9, .slice none 0 0), (8, .pointer (some ⟨w5.heap.size, 0, none⟩))] a) RL.length ⟨0, great RR.1.1, by omega, by omega, Below.refl _ _, by simp, hS.only _ ⟨rfl, rfl, rfl, rfl, rfl, rfl, rfl, trivial⟩⟩ ?_
                    clear hS
                    rintro mm a wl1 ⟨i, t, hi1, rfl, hBl1, ht, hS⟩
                    have hM5 := hM5.below hBl1 hM5.lt
                    have hM7 := hM7.below hBl1 hM7.lt
                    have hYs := hYs.below hBl1 hYs.lt
                    have hOwn := owns_kept hOwn hBl1
                    have hB := Below.refl wl1.heap.size wl1
                    refine reg_seq ?_
                    refine seq_is hS (by decide) (runs_move rfl) (fun a1 hS => ?_)
                    refine seq_is hS (by decide) (runs_move rfl) (fun a1 hS => ?_)
                    refine seq_is hS (by decide) (runs_len rfl und32) (fun a1 hS => ?_)
                    by_cases hlt1 : i < RL.length
                    · skip
                      refine seq_is hS (by decide) (runs_lss (r := true) rfl rfl (by rw [decide_eq_true_eq]; omega)) (fun a1 hS => ?_)
                      refine nil_ok ⟨_, hS.eval rfl, fun h => by simp at h, fun _ => ?_⟩
                      obtain ⟨m, hmi⟩ : ∃ m, RL[i]? = some m := ⟨RL[i], by simp [hlt1]⟩
                      obtain ⟨b, o, hAe, hbw, hr⟩ := edges_row (edges_ownE hOwn rfl) (by omega)
                      have hre := edges_at hr hmi
                      refine qx_seq (qx_block (?_))
                      cases t with
                      | false =>
                        refine reg_seq ?_
                        refine seq_is hS (by decide) (runs_move rfl) (fun a1 hS => ?_)
                        refine seq_is hS (by decide) (runs_move rfl) (fun a1 hS => ?_)
                        refine seq_yis hS (by decide) rfl (by decide) rfl (runs_move rfl) (fun a1 hS => ?_)
                        refine seq_yis hS (by decide) rfl (by decide) rfl (runs_move rfl) (fun a1 hS => ?_)
                        refine seq_yis hS (by decide) rfl (by decide) rfl (runs_indexAddrG (j := i) (by rw [← hAe]; rfl) rfl und32 sz48 rfl hlt1) (fun a1 hS => ?_)
                        refine seq_yis hS (by decide) rfl (by decide) rfl (runs_fieldK fo48_2 rfl) (fun a1 hS => ?_)
                        refine seq_yis hS (by decide) rfl (by decide) rfl (runs_load rfl pl2 (hre 2 _ rfl)) (fun a1 hS => ?_)
                        by_cases gm : great m.2.2 = true
                        · skip
                          refine seq_yis hS (by decide) rfl (by decide) rfl (runs_call (args := [.int .i64 m.2.2]) goes29 rfl (rgreat_is wl1 gm)) (fun a1 hS => ?_)
                          refine seq_is hS (by decide) (runs_pick rfl rfl) (fun a1 hS => ?_)
                          refine seq_is hS (by decide) (runs_assign rfl) (fun a1 hS => ?_)
                          refine nil_ok (reg_seq ?_)
                          refine seq_is hS (by decide) (runs_move rfl) (fun a1 hS => ?_)
                          refine seq_is hS (by decide) (runs_add (r := ((i + 1 : Nat) : Int)) rfl rfl (by simp [IntKind.wrap, IntKind.bits, IntKind.signed]; omega)) (fun a1 hS => ?_)
                          refine seq_is hS (by decide) (runs_assign rfl) (fun a1 hS => ?_)
                          exact nil_ok ⟨_, by omega, i + 1, true, by omega, rfl, hBl1.trans (hB.mono hBl1.size), by rw [any_take _ hmi, ← Bool.or_assoc, ← ht]; simp [gm], hS.only _ ⟨rfl, rfl, rfl, rfl, rfl, rfl, rfl, trivial⟩⟩
                        · skip
                          refine seq_yis hS (by decide) rfl (by decide) rfl (runs_call (args := [.int .i64 m.2.2]) goes29 rfl (rgreat_is wl1 (Bool.eq_false_iff.2 gm))) (fun a1 hS => ?_)
                          refine seq_is hS (by decide) (runs_pick rfl rfl) (fun a1 hS => ?_)
                          refine seq_is hS (by decide) (runs_assign rfl) (fun a1 hS => ?_)
                          refine nil_ok (reg_seq ?_)
                          refine seq_is hS (by decide) (runs_move rfl) (fun a1 hS => ?_)
                          refine seq_is hS (by decide) (runs_add (r := ((i + 1 : Nat) : Int)) rfl rfl (by simp [IntKind.wrap, IntKind.bits, IntKind.signed]; omega)) (fun a1 hS => ?_)
                          refine seq_is hS (by decide) (runs_assign rfl) (fun a1 hS => ?_)
                          exact nil_ok ⟨_, by omega, i + 1, false, by omega, rfl, hBl1.trans (hB.mono hBl1.size), by rw [any_take _ hmi, ← Bool.or_assoc, ← ht]; simp [gm], hS.only _ ⟨rfl, rfl, rfl, rfl, rfl, rfl, rfl, trivial⟩⟩
                      | true =>
                        refine reg_seq ?_
                        refine seq_is hS (by decide) (runs_move rfl) (fun a1 hS => ?_)
                        refine seq_is hS (by decide) (runs_move rfl) (fun a1 hS => ?_)
                        refine seq_no hS (by decide) rfl (by decide) rfl rfl (fun a1 hS => ?_)
                        refine seq_no hS (by decide) rfl (by decide) rfl rfl (fun a1 hS => ?_)
                        refine seq_no hS (by decide) rfl (by decide) rfl rfl (fun a1 hS => ?_)
                        refine seq_no hS (by decide) rfl (by decide) rfl rfl (fun a1 hS => ?_)
                        refine seq_no hS (by decide) rfl (by decide) rfl rfl (fun a1 hS => ?_)
                        refine seq_no hS (by decide) rfl (by decide) rfl rfl (fun a1 hS => ?_)
                        refine seq_is hS (by decide) (runs_pick rfl rfl) (fun a1 hS => ?_)
                        refine seq_is hS (by decide) (runs_assign rfl) (fun a1 hS => ?_)
                        refine nil_ok (reg_seq ?_)
                        refine seq_is hS (by decide) (runs_move rfl) (fun a1 hS => ?_)
                        refine seq_is hS (by decide) (runs_add (r := ((i + 1 : Nat) : Int)) rfl rfl (by simp [IntKind.wrap, IntKind.bits, IntKind.signed]; omega)) (fun a1 hS => ?_)
                        refine seq_is hS (by decide) (runs_assign rfl) (fun a1 hS => ?_)
                        exact nil_ok ⟨_, by omega, i + 1, true, by omega, rfl, hBl1.trans (hB.mono hBl1.size), by rw [any_take _ hmi, ← Bool.or_assoc, ← ht]; simp, hS.only _ ⟨rfl, rfl, rfl, rfl, rfl, rfl, rfl, trivial⟩⟩
                    · skip
                      refine seq_is hS (by decide) (runs_lss (r := false) rfl rfl (by rw [decide_eq_false_iff_not]; omega)) (fun a1 hS => ?_)
                      obtain rfl : i = RL.length := by omega
                      refine nil_ok ⟨_, hS.eval rfl, fun _ => ?_, fun h => by simp at h⟩
                      have hB := hBo1.trans ((hBl1.trans (hB.mono hBl1.size)).mono hBo1.size)
                      rw [List.take_length] at ht
                      refine qx_seq (qx_seq (reg_seq ?_))
                      by_cases gt : t = true
                      · skip
                        rw [gt] at hS
                        refine seq_is hS (by decide) (runs_move rfl) (fun a1 hS => ?_)
                        refine nil_ok (wp_cond_true (hS.eval rfl) (qx_seq (reg_seq ?_)))
                        refine seq_is hS (by decide) (runs_buildK (pv := []) (cells := #[.int .i64 0, .int .i64 0, .bool false, .bool false, .int .i64 0]) rfl (by kernel_rfl)) (fun a1 hS => ?_)
                        refine seq_none hS (runs_storeB (cs := [.int .i64 0, .int .i64 0, .bool false, .bool false, .int .i64 0]) rfl rfl hM7 rfl rfl sz28) (fun v31 w31 a1 hp hS => ?_)
                        have hQ31 := hM7
                        obtain ⟨hM7, hU31⟩ := hp
                        have hB := But.new hB hU31 (fun i e => by rw [e]; exact hLhM7) (Nat.le_refl _)
                        have hM5 := hM5.but hU31 (hNhM5hM7)
                        have hYs := hYs.but hU31 (hNYshM7)
                        have hOwn := owns_but hOwn hU31 (fun i old ho e => by subst e; exact has_ne ho hQ31 (by decide) rfl)
                        refine seq_is hS (by decide) (runs_assign rfl) (fun a1 hS => ?_)
                        refine seq_is hS (by decide) (runs_assign rfl) (fun a1 hS => ?_)
                        have hm : mayB n es (kindL tg.data.toList) src steps at_ x = true := may_iff.2 ⟨r1, by omega, by omega, by omega, by omega⟩
                        have htt : (great RR.1.1 || RL.any (fun m => great m.2.2)) = true := by rw [← ht]; exact gt
                        have hfin : stepL n es (kindL tg.data.toList) src steps at_ x = (noVx, [], 71) := by unfold stepL; rw [if_neg (by rw [hm]; simp)]; rw [if_neg (by simp [g1, g2]), if_neg (by simp [q1, q2])]; dsimp only; rw [hRR, hRL, htt]; rfl
                        exact nil_ok (qx_ret (retRow3 (p := 8) (t := 9) (r := 10) (ty := 28) (by kernel_rfl) hS rfl rfl rfl hM7 Try.underlying28 rfl (by rw [sz28]; rfl) ⟨_, rfl, hB, by rw [hfin]; exact ⟨_, rfl, ⟨rfl, .inl ⟨rfl, rfl⟩⟩⟩⟩))
                      · skip
                        rw [Bool.eq_false_iff.2 gt] at hS
                        refine seq_is hS (by decide) (runs_move rfl) (fun a1 hS => ?_)
                        refine nil_ok (wp_cond_false (hS.eval rfl) (wp_skip (qx_seq (reg_seq ?_))))
                        refine seq_is hS (by decide) (runs_loadRow rfl hYs Try.underlying28 rfl (by rw [sz28]; rfl)) (fun a1 hS => ?_)
                        refine seq_is hS (by decide) (runs_move rfl) (fun a1 hS => ?_)
                        refine seq_none hS (runs_storeB (cs := vc (⟨x.id, RR.1.1, RR.1.2, false, 0⟩ : Vx)) rfl rfl hM7 rfl rfl sz28) (fun v33 w33 a1 hp hS => ?_)
                        have hQ33 := hM7
                        obtain ⟨hM7, hU33⟩ := hp
                        have hB := But.new hB hU33 (fun i e => by rw [e]; exact hLhM7) (Nat.le_refl _)
                        have hM5 := hM5.but hU33 (hNhM5hM7)
                        have hOwn := owns_but hOwn hU33 (fun i old ho e => by subst e; exact has_ne ho hQ33 (by decide) rfl)
                        refine seq_is hS (by decide) (runs_assign rfl) (fun a1 hS => ?_)
                        refine seq_is hS (by decide) (runs_assign rfl) (fun a1 hS => ?_)
                        have hm : mayB n es (kindL tg.data.toList) src steps at_ x = true := may_iff.2 ⟨r1, by omega, by omega, by omega, by omega⟩
                        have htt : (great RR.1.1 || RL.any (fun m => great m.2.2)) = false := by rw [← ht]; exact Bool.eq_false_iff.2 gt
                        have hfin : stepL n es (kindL tg.data.toList) src steps at_ x = ((⟨x.id, RR.1.1, RR.1.2, false, 0⟩ : Vx), RL, 0) := by unfold stepL; rw [if_neg (by rw [hm]; simp)]; rw [if_neg (by simp [g1, g2]), if_neg (by simp [q1, q2])]; dsimp only; rw [hRR, hRL, htt]; rfl
                        exact nil_ok (qx_ret (retRow3 (p := 8) (t := 9) (r := 10) (ty := 28) (by kernel_rfl) hS rfl rfl rfl hM7 Try.underlying28 rfl (by rw [sz28]; rfl) ⟨_, rfl, hB, by rw [hfin]; exact ⟨_, rfl, owns_mono hOwn hW0⟩⟩))
                  · skip
                    refine seq_yis hS (by decide) rfl (by decide) rfl (runs_load rfl pl4 ((hM5.at rfl).trans (by rw [Bool.eq_false_iff.2 q2]))) (fun a1 hS => ?_)
                    refine seq_yis hS (by decide) rfl (by decide) rfl (runs_not (b := false) rfl) (fun a1 hS => ?_)
                    refine seq_is hS (by decide) (runs_pick rfl rfl) (fun a1 hS => ?_)
                    refine nil_ok (wp_cond_true (hS.eval rfl) (qx_seq (reg_seq ?_)))
                    refine seq_is hS (by decide) (runs_loadRow rfl hM5 Try.underlying28 rfl (by rw [sz28]; rfl)) (fun a1 hS => ?_)
                    refine seq_none hS (runs_storeB (cs := vc x) rfl rfl hM7 rfl rfl sz28) (fun v35 w35 a1 hp hS => ?_)
                    obtain ⟨hM7, hU35⟩ := hp
                    have hB := But.new hB hU35 (fun i e => by rw [e]; exact hLhM7) (Nat.le_refl _)
                    refine seq_is hS (by decide) (runs_assign rfl) (fun a1 hS => ?_)
                    refine seq_is hS (by decide) (runs_assign rfl) (fun a1 hS => ?_)
                    have hm : mayB n es (kindL tg.data.toList) src steps at_ x = true := may_iff.2 ⟨r1, by omega, by omega, by omega, by omega⟩
                    have hfin : stepL n es (kindL tg.data.toList) src steps at_ x = (x, [], 0) := by unfold stepL; rw [if_neg (by rw [hm]; simp)]; simp [g1, g2, q1, q2]
                    exact nil_ok (qx_ret (retRow3 (p := 8) (t := 9) (r := 10) (ty := 28) (by kernel_rfl) hS rfl rfl rfl hM7 Try.underlying28 rfl (by rw [sz28]; rfl) ⟨_, rfl, hB, by rw [hfin]; exact ⟨_, rfl, ⟨rfl, .inl ⟨rfl, rfl⟩⟩⟩⟩))
  · skip
    rw [Bool.eq_false_iff.2 r1] at hS
    refine seq_is hS (by decide) (runs_not (b := false) rfl) (fun a1 hS => ?_)
    refine seq_is hS (by decide) (runs_move rfl) (fun a1 hS => ?_)
    refine seq_no hS (by decide) rfl (by decide) rfl rfl (fun a1 hS => ?_)
    refine seq_no hS (by decide) rfl (by decide) rfl rfl (fun a1 hS => ?_)
    refine seq_no hS (by decide) rfl (by decide) rfl rfl (fun a1 hS => ?_)
    refine seq_is hS (by decide) (runs_pick rfl rfl) (fun a1 hS => ?_)
    refine seq_is hS (by decide) (runs_move rfl) (fun a1 hS => ?_)
    refine seq_no hS (by decide) rfl (by decide) rfl rfl (fun a1 hS => ?_)
    refine seq_no hS (by decide) rfl (by decide) rfl rfl (fun a1 hS => ?_)
    refine seq_no hS (by decide) rfl (by decide) rfl rfl (fun a1 hS => ?_)
    refine seq_no hS (by decide) rfl (by decide) rfl rfl (fun a1 hS => ?_)
    refine seq_no hS (by decide) rfl (by decide) rfl rfl (fun a1 hS => ?_)
    refine seq_is hS (by decide) (runs_pick rfl rfl) (fun a1 hS => ?_)
    refine seq_is hS (by decide) (runs_move rfl) (fun a1 hS => ?_)
    refine seq_no hS (by decide) rfl (by decide) rfl rfl (fun a1 hS => ?_)
    refine seq_no hS (by decide) rfl (by decide) rfl rfl (fun a1 hS => ?_)
    refine seq_is hS (by decide) (runs_pick rfl rfl) (fun a1 hS => ?_)
    refine seq_is hS (by decide) (runs_move rfl) (fun a1 hS => ?_)
    refine seq_no hS (by decide) rfl (by decide) rfl rfl (fun a1 hS => ?_)
    refine seq_no hS (by decide) rfl (by decide) rfl rfl (fun a1 hS => ?_)
    refine seq_no hS (by decide) rfl (by decide) rfl rfl (fun a1 hS => ?_)
    refine seq_no hS (by decide) rfl (by decide) rfl rfl (fun a1 hS => ?_)
    refine seq_is hS (by decide) (runs_pick rfl rfl) (fun a1 hS => ?_)
    refine nil_ok (wp_cond_true (hS.eval rfl) (qx_seq (reg_seq ?_)))
    refine seq_is hS (by decide) (runs_buildK (pv := []) (cells := #[.int .i64 0, .int .i64 0, .bool false, .bool false, .int .i64 0]) rfl (by kernel_rfl)) (fun a1 hS => ?_)
    refine seq_none hS (runs_storeB (cs := [.int .i64 0, .int .i64 0, .bool false, .bool false, .int .i64 0]) rfl rfl hM7 rfl rfl sz28) (fun v37 w37 a1 hp hS => ?_)
    obtain ⟨hM7, hU37⟩ := hp
    have hB := But.new hB hU37 (fun i e => by rw [e]; exact hLhM7) (Nat.le_refl _)
    refine seq_is hS (by decide) (runs_assign rfl) (fun a1 hS => ?_)
    refine seq_is hS (by decide) (runs_assign rfl) (fun a1 hS => ?_)
    have hm : mayB n es (kindL tg.data.toList) src steps at_ x = false := by rw [Bool.eq_false_iff]; intro h; rw [may_iff] at h; first | exact r1 h.1 | omega
    have hfin : stepL n es (kindL tg.data.toList) src steps at_ x = (noVx, [], 70) := by unfold stepL; rw [if_pos hm]
    exact nil_ok (qx_ret (retRow3 (p := 8) (t := 9) (r := 10) (ty := 28) (by kernel_rfl) hS rfl rfl rfl hM7 Try.underlying28 rfl (by rw [sz28]; rfl) ⟨_, rfl, hB, by rw [hfin]; exact ⟨_, rfl, ⟨rfl, .inl ⟨rfl, rfl⟩⟩⟩⟩))
end Go.Proofs.Ytfceckdhoaabnaa
