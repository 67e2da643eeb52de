/- PartOne, walked. Conditions: none of our own. -/
import Derived.Test.YtfomkgppdcghgaaQAwake
namespace Go.Proofs.Ytfomkgppdcghgaa
open Go.RowKit
open Part
set_option maxRecDepth 100000

set_option maxHeartbeats 1000000 in
theorem one_walk (n v k : Int) (w : World) : Ans 8 [.int .i64 n, .int .i64 v, .int .i64 k] w (fun u w' => u = .bool true ∧ Below w.heap.size w w') := by
  refine calls_qx (args := [.int .i64 n, .int .i64 v, .int .i64 k]) 64 Try.func8 rfl (by kernel_rfl) (by simp) (fun a hS => ?_)
  refine qx_seq (reg_seq ?_)
  refine seq_is hS (by decide) (runs_assign rfl) (fun a1 hS => ?_)
  refine nil_ok (qx_seq (qx_seq (reg_seq ?_)))
  refine seq_op hS (by decide) (runs_call (args := []) goes9 rfl (awake_any w)) (fun v1 w1 a1 hp1 hS => ?_)
  obtain ⟨rfl, hB1⟩ := hp1
  refine seq_is hS (by decide) (runs_not (b := true) rfl) (fun a1 hS => ?_)
  refine seq_is hS (by decide) (runs_move rfl) (fun a1 hS => ?_)
  refine seq_yis hS (by decide) rfl (by decide) rfl (runs_move rfl) (fun a1 hS => ?_)
  by_cases h1 : right n 1 = true
  · skip
    refine seq_yis hS (by decide) rfl (by decide) rfl (runs_call (args := [.int .i64 n, .int .i64 1]) goes16 rfl (right_is w1 h1)) (fun a1 hS => ?_)
    refine seq_yis hS (by decide) rfl (by decide) rfl (runs_not (b := true) rfl) (fun a1 hS => ?_)
    refine seq_is hS (by decide) (runs_pick rfl rfl) (fun a1 hS => ?_)
    refine seq_is hS (by decide) (runs_move rfl) (fun a1 hS => ?_)
    refine seq_yis hS (by decide) rfl (by decide) rfl (runs_move rfl) (fun a1 hS => ?_)
    by_cases h2 : v < 0
    · skip
      refine seq_yis hS (by decide) rfl (by decide) rfl (runs_lss (r := true) rfl rfl (by rw [decide_eq_true_eq]; omega)) (fun a1 hS => ?_)
      refine seq_is hS (by decide) (runs_pick rfl rfl) (fun a1 hS => ?_)
      refine nil_ok (wp_cond_true (hS.eval rfl) (qx_seq (reg_seq ?_)))
      refine seq_op hS (by decide) (runs_call (args := []) goes9 rfl (awake_any w1)) (fun v9 w9 a9 hp9 hS => ?_)
      obtain ⟨rfl, hB9⟩ := hp9
      refine seq_is hS (by decide) (runs_assign rfl) (fun a1 hS => ?_)
      exact nil_ok (qx_ret (ret1 (t := 6) (by kernel_rfl) hS rfl ⟨_, rfl, rfl, hB1.trans (hB9.mono hB1.size)⟩))
    · skip
      refine seq_yis hS (by decide) rfl (by decide) rfl (runs_lss (r := false) rfl rfl (by rw [decide_eq_false_iff_not]; omega)) (fun a1 hS => ?_)
      refine seq_is hS (by decide) (runs_pick rfl rfl) (fun a1 hS => ?_)
      obtain ⟨r1, r2, _, _⟩ := right_iff.1 h1
      obtain ⟨q, rfl⟩ : ∃ q : Nat, n = (q : Int) := ⟨n.toNat, by omega⟩
      refine nil_ok (wp_cond_false (hS.eval rfl) (wp_skip (qx_seq (reg_seq ?_))))
      refine seq_is hS (by decide) (runs_move rfl) (fun a1 hS => ?_)
      refine seq_op hS (by decide) (runs_call (args := [.int .i64 (q : Int), .int .i64 1, .int .i64 0]) goes14 rfl (of_ok q (by omega) (by omega) 1 0 (by omega) (by omega) (by omega) w1)) (fun v3 w2 a3 hp3 hS => ?_)
      obtain ⟨sv, rfl, hown, hB3⟩ := hp3
      have hB2 := hB1.trans (hB3.mono hB1.size)
      rw [ofL_one, List.length_range] at hown
      obtain ⟨A, c, rfl⟩ := owns_slice hown
      refine seq_is hS (by decide) (runs_move rfl) (fun a1 hS => ?_)
      refine seq_is hS (by decide) (runs_extract rfl rfl) (fun a1 hS => ?_)
      refine seq_is hS (by decide) (runs_extract rfl rfl) (fun a1 hS => ?_)
      refine seq_is hS (by decide) (runs_assign rfl) (fun a1 hS => ?_)
      refine seq_is hS (by decide) (runs_assign rfl) (fun a1 hS => ?_)
      refine nil_ok (qx_seq (reg_seq ?_))
      refine seq_is hS (by decide) (runs_move rfl) (fun a1 hS => ?_)
      refine seq_is hS (by decide) (runs_move rfl) (fun a1 hS => ?_)
      refine seq_is hS (by decide) (runs_call (args := [.int .i64 v, .int .i64 k]) goes12 rfl (own_any v k w2)) (fun a1 hS => ?_)
      refine seq_is hS (by decide) (runs_assign rfl) (fun a1 hS => ?_)
      refine nil_ok (qx_seq (reg_seq ?_))
      refine seq_is hS (by decide) (runs_move rfl) (fun a1 hS => ?_)
      refine seq_is hS (by decide) (runs_eql (r := true) rfl rfl (beq_self_eq_true _)) (fun a1 hS => ?_)
      refine seq_is hS (by decide) (runs_move rfl) (fun a1 hS => ?_)
      refine seq_yis hS (by decide) rfl (by decide) rfl (runs_move rfl) (fun a1 hS => ?_)
      refine seq_yis hS (by decide) rfl (by decide) rfl (runs_len rfl und27) (fun a1 hS => ?_)
      refine seq_yis hS (by decide) rfl (by decide) rfl (runs_move rfl) (fun a1 hS => ?_)
      refine seq_yis hS (by decide) rfl (by decide) rfl (runs_eql (r := true) rfl rfl (beq_self_eq_true _)) (fun a1 hS => ?_)
      refine seq_is hS (by decide) (runs_pick rfl rfl) (fun a1 hS => ?_)
      refine seq_is hS (by decide) (runs_move rfl) (fun a1 hS => ?_)
      refine seq_yis hS (by decide) rfl (by decide) rfl (runs_move rfl) (fun a1 hS => ?_)
      refine seq_yis hS (by decide) rfl (by decide) rfl (runs_call (args := [.int .i64 v, .int .i64 1]) goes12 rfl (own_any v 1 w2)) (fun a1 hS => ?_)
      refine seq_yis hS (by decide) rfl (by decide) rfl (runs_eql (r := true) rfl rfl (by rw [own_one (by omega)]; rfl)) (fun a1 hS => ?_)
      refine seq_is hS (by decide) (runs_pick rfl rfl) (fun a1 hS => ?_)
      refine seq_is hS (by decide) (runs_move rfl) (fun a1 hS => ?_)
      refine seq_yis hS (by decide) rfl (by decide) rfl (runs_move rfl) (fun a1 hS => ?_)
      by_cases hk : 1 ≤ k ∧ k ≤ 64
      · skip
        refine seq_yis hS (by decide) rfl (by decide) rfl (runs_geq (r := true) rfl rfl (decide_eq_true (own_range (v := v) (k := k) (by omega) (by omega) (by omega)).1)) (fun a1 hS => ?_)
        refine seq_yis hS (by decide) rfl (by decide) rfl (runs_move rfl) (fun a1 hS => ?_)
        refine seq_yis hS (by decide) rfl (by decide) rfl (runs_move rfl) (fun a1 hS => ?_)
        refine seq_yis hS (by decide) rfl (by decide) rfl (runs_move rfl) (fun a1 hS => ?_)
        refine seq_yis hS (by decide) rfl (by decide) rfl (runs_lss (r := true) rfl rfl (decide_eq_true (own_range (v := v) (k := k) (by omega) (by omega) (by omega)).2)) (fun a1 hS => ?_)
        refine seq_yis hS (by decide) rfl (by decide) rfl (runs_pick rfl rfl) (fun a1 hS => ?_)
        refine seq_yis hS (by decide) rfl (by decide) rfl (runs_move rfl) (fun a1 hS => ?_)
        refine seq_no hS (by decide) rfl (by decide) rfl rfl (fun a1 hS => ?_)
        refine seq_no hS (by decide) rfl (by decide) rfl rfl (fun a1 hS => ?_)
        refine seq_no hS (by decide) rfl (by decide) rfl rfl (fun a1 hS => ?_)
        refine seq_skip2 hS (by decide) rfl (by decide) rfl (fun a1 hS => ?_)
        refine seq_skip2 hS (by decide) rfl (by decide) rfl (fun a1 hS => ?_)
        refine seq_skip2 hS (by decide) rfl (by decide) rfl (fun a1 hS => ?_)
        refine seq_skip2 hS (by decide) rfl (by decide) rfl (fun a1 hS => ?_)
        refine seq_skip2 hS (by decide) rfl (by decide) rfl (fun a1 hS => ?_)
        refine seq_skip2 hS (by decide) rfl (by decide) rfl (fun a1 hS => ?_)
        refine seq_no hS (by decide) rfl (by decide) rfl rfl (fun a1 hS => ?_)
        refine seq_yis hS (by decide) rfl (by decide) rfl (runs_pick rfl rfl) (fun a1 hS => ?_)
        refine seq_is hS (by decide) (runs_pick rfl rfl) (fun a1 hS => ?_)
        refine seq_is hS (by decide) (runs_assign rfl) (fun a1 hS => ?_)
        exact nil_ok (qx_ret (ret1 (t := 6) (by kernel_rfl) hS rfl ⟨_, rfl, rfl, hB2⟩))
      · skip
        refine seq_yis hS (by decide) rfl (by decide) rfl (runs_geq (r := false) rfl rfl (by rw [own_none (by omega)]; rfl)) (fun a1 hS => ?_)
        refine seq_yis hS (by decide) rfl (by decide) rfl (runs_move rfl) (fun a1 hS => ?_)
        refine seq_no hS (by decide) rfl (by decide) rfl rfl (fun a1 hS => ?_)
        refine seq_no hS (by decide) rfl (by decide) rfl rfl (fun a1 hS => ?_)
        refine seq_no hS (by decide) rfl (by decide) rfl rfl (fun a1 hS => ?_)
        refine seq_yis hS (by decide) rfl (by decide) rfl (runs_pick rfl rfl) (fun a1 hS => ?_)
        refine seq_yis hS (by decide) rfl (by decide) rfl (runs_move rfl) (fun a1 hS => ?_)
        refine seq_yis hS (by decide) rfl (by decide) rfl (runs_move rfl) (fun a1 hS => ?_)
        refine seq_yis hS (by decide) rfl (by decide) rfl (runs_eql (r := true) rfl rfl (by rw [own_none (by omega)]; rfl)) (fun a1 hS => ?_)
        refine seq_yis hS (by decide) rfl (by decide) rfl (runs_move rfl) (fun a1 hS => ?_)
        refine seq_yis hS (by decide) rfl (by decide) rfl (runs_move rfl) (fun a1 hS => ?_)
        by_cases hk1 : k < 1
        · skip
          refine seq_yis hS (by decide) rfl (by decide) rfl (runs_lss (r := true) rfl rfl (by rw [decide_eq_true_eq]; omega)) (fun a1 hS => ?_)
          refine seq_yis hS (by decide) rfl (by decide) rfl (runs_move rfl) (fun a1 hS => ?_)
          refine seq_no hS (by decide) rfl (by decide) rfl rfl (fun a1 hS => ?_)
          refine seq_no hS (by decide) rfl (by decide) rfl rfl (fun a1 hS => ?_)
          refine seq_yis hS (by decide) rfl (by decide) rfl (runs_pick rfl rfl) (fun a1 hS => ?_)
          refine seq_yis hS (by decide) rfl (by decide) rfl (runs_pick rfl rfl) (fun a1 hS => ?_)
          refine seq_yis hS (by decide) rfl (by decide) rfl (runs_pick rfl rfl) (fun a1 hS => ?_)
          refine seq_is hS (by decide) (runs_pick rfl rfl) (fun a1 hS => ?_)
          refine seq_is hS (by decide) (runs_assign rfl) (fun a1 hS => ?_)
          exact nil_ok (qx_ret (ret1 (t := 6) (by kernel_rfl) hS rfl ⟨_, rfl, rfl, hB2⟩))
        · skip
          refine seq_yis hS (by decide) rfl (by decide) rfl (runs_lss (r := false) rfl rfl (by rw [decide_eq_false_iff_not]; omega)) (fun a1 hS => ?_)
          refine seq_yis hS (by decide) rfl (by decide) rfl (runs_move rfl) (fun a1 hS => ?_)
          refine seq_yis hS (by decide) rfl (by decide) rfl (runs_move rfl) (fun a1 hS => ?_)
          refine seq_yis hS (by decide) rfl (by decide) rfl (runs_gtr (r := true) rfl rfl (by rw [decide_eq_true_eq]; omega)) (fun a1 hS => ?_)
          refine seq_yis hS (by decide) rfl (by decide) rfl (runs_pick rfl rfl) (fun a1 hS => ?_)
          refine seq_yis hS (by decide) rfl (by decide) rfl (runs_pick rfl rfl) (fun a1 hS => ?_)
          refine seq_yis hS (by decide) rfl (by decide) rfl (runs_pick rfl rfl) (fun a1 hS => ?_)
          refine seq_is hS (by decide) (runs_pick rfl rfl) (fun a1 hS => ?_)
          refine seq_is hS (by decide) (runs_assign rfl) (fun a1 hS => ?_)
          exact nil_ok (qx_ret (ret1 (t := 6) (by kernel_rfl) hS rfl ⟨_, rfl, rfl, hB2⟩))
  · skip
    refine seq_yis hS (by decide) rfl (by decide) rfl (runs_call (args := [.int .i64 n, .int .i64 1]) goes16 rfl (right_is w1 (Bool.eq_false_iff.2 h1))) (fun a1 hS => ?_)
    refine seq_yis hS (by decide) rfl (by decide) rfl (runs_not (b := false) rfl) (fun a1 hS => ?_)
    refine seq_is hS (by decide) (runs_pick rfl rfl) (fun a1 hS => ?_)
    refine seq_is hS (by decide) (runs_move rfl) (fun a1 hS => ?_)
    refine seq_no hS (by decide) rfl (by decide) rfl rfl (fun a1 hS => ?_)
    refine seq_no hS (by decide) rfl (by decide) rfl rfl (fun a1 hS => ?_)
    refine seq_is hS (by decide) (runs_pick rfl rfl) (fun a1 hS => ?_)
    refine nil_ok (wp_cond_true (hS.eval rfl) (qx_seq (reg_seq ?_)))
    refine seq_op hS (by decide) (runs_call (args := []) goes9 rfl (awake_any w1)) (fun v9 w9 a9 hp9 hS => ?_)
    obtain ⟨rfl, hB9⟩ := hp9
    refine seq_is hS (by decide) (runs_assign rfl) (fun a1 hS => ?_)
    exact nil_ok (qx_ret (ret1 (t := 6) (by kernel_rfl) hS rfl ⟨_, rfl, rfl, hB1.trans (hB9.mono hB1.size)⟩))
end Go.Proofs.Ytfomkgppdcghgaa
