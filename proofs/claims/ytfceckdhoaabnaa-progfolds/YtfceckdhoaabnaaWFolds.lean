/- modillionlaw07.ProgFolds, walked. Conditions: none of our own. -/
import Derived.Test.YtfceckdhoaabnaaSAwake
namespace Go.Proofs.Ytfceckdhoaabnaa
open Go.RowKit
set_option maxRecDepth 100000

theorem foldV_comm (k : Nat) (a b : Int) : foldV k a b = foldV k b a := by
  unfold foldV; split
  · split <;> split <;> omega
  · split
    · split <;> split <;> omega
    · omega
theorem foldV_assoc (k : Nat) (a b c : Int) : foldV k (foldV k a b) c = foldV k a (foldV k b c) := by
  unfold foldV; split
  · repeat' split <;> first | omega | skip
    all_goals omega
  · split
    · repeat' split <;> first | omega | skip
      all_goals omega
    · omega
theorem foldL_comm (k : Nat) (a b : Int) : foldL k a b = foldL k b a := by
  unfold foldL; rw [foldV_comm k a b, Bool.or_comm (great a)]
theorem foldL_ok {k : Nat} {a b : Int} (h : (foldL k a b).2 = 0) : (foldL k a b).1 = foldV k a b := by
  unfold foldL at h ⊢
  split at h <;> try (simp at h; done)
  split at h <;> try (simp at h; done)
  split at h <;> try (simp at h; done)
  rename_i h1 h2 h3
  rw [if_neg h1, if_neg h2, if_neg h3]
theorem foldL_assoc {k : Nat} {a b c : Int} (h1 : (foldL k a b).2 = 0) (h2 : (foldL k b c).2 = 0) (h3 : (foldL k (foldL k a b).1 c).2 = 0) (h4 : (foldL k a (foldL k b c).1).2 = 0) : (foldL k (foldL k a b).1 c).1 = (foldL k a (foldL k b c).1).1 := by
  rw [foldL_ok h3, foldL_ok h4, foldL_ok h1, foldL_ok h2, foldV_assoc]
set_option maxHeartbeats 1000000 in
theorem folds_any (tg : ByteArray) (a0 b0 c0 : Int) (w : World) : Ans 5 [.string tg, .int .i64 a0, .int .i64 b0, .int .i64 c0] w (fun u w' => u = .bool true ∧ Below w.heap.size w w') := by
  refine calls_qx (args := [.string tg, .int .i64 a0, .int .i64 b0, .int .i64 c0]) 102 Try.func5 rfl (by kernel_rfl) (by simp) (fun a hS => ?_)
  have hB := Below.refl w.heap.size w
  refine qx_seq (reg_seq ?_)
  refine seq_is hS (by decide) (runs_assign rfl) (fun a1 hS => ?_)
  refine nil_ok (qx_seq (reg_seq ?_))
  refine seq_is hS (by decide) (runs_move rfl) (fun a1 hS => ?_)
  refine seq_is hS (by decide) (runs_move rfl) (fun a1 hS => ?_)
  refine seq_is hS (by decide) (runs_move rfl) (fun a1 hS => ?_)
  refine seq_op hS (by decide) (runs_call (args := [.string tg, .int .i64 a0, .int .i64 b0]) goes21 rfl (fold_any tg a0 b0 w)) (fun v1 w1 a1 hp hS => ?_)
  obtain ⟨rfl, rfl⟩ := hp
  refine seq_is hS (by decide) (runs_move rfl) (fun a1 hS => ?_)
  refine seq_is hS (by decide) (runs_extract rfl rfl) (fun a1 hS => ?_)
  refine seq_is hS (by decide) (runs_extract rfl rfl) (fun a1 hS => ?_)
  refine seq_is hS (by decide) (runs_assign rfl) (fun a1 hS => ?_)
  refine seq_is hS (by decide) (runs_assign rfl) (fun a1 hS => ?_)
  refine nil_ok (qx_seq (reg_seq ?_))
  refine seq_is hS (by decide) (runs_move rfl) (fun a1 hS => ?_)
  refine seq_is hS (by decide) (runs_move rfl) (fun a1 hS => ?_)
  refine seq_is hS (by decide) (runs_move rfl) (fun a1 hS => ?_)
  refine seq_op hS (by decide) (runs_call (args := [.string tg, .int .i64 a0, .int .i64 b0]) goes22 rfl (rfold_any tg a0 b0 w1)) (fun v2 w2 a1 hp hS => ?_)
  obtain ⟨rfl, rfl⟩ := hp
  refine seq_is hS (by decide) (runs_move rfl) (fun a1 hS => ?_)
  refine seq_is hS (by decide) (runs_extract rfl rfl) (fun a1 hS => ?_)
  refine seq_is hS (by decide) (runs_extract rfl rfl) (fun a1 hS => ?_)
  refine seq_is hS (by decide) (runs_assign rfl) (fun a1 hS => ?_)
  refine seq_is hS (by decide) (runs_assign rfl) (fun a1 hS => ?_)
  refine nil_ok (qx_seq (reg_seq ?_))
  refine seq_is hS (by decide) (runs_move rfl) (fun a1 hS => ?_)
  refine seq_is hS (by decide) (runs_move rfl) (fun a1 hS => ?_)
  refine seq_is hS (by decide) (runs_move rfl) (fun a1 hS => ?_)
  refine seq_op hS (by decide) (runs_call (args := [.string tg, .int .i64 b0, .int .i64 a0]) goes21 rfl (fold_any tg b0 a0 w2)) (fun v3 w3 a1 hp hS => ?_)
  rw [foldL_comm] at hp
  obtain ⟨rfl, rfl⟩ := hp
  refine seq_is hS (by decide) (runs_move rfl) (fun a1 hS => ?_)
  refine seq_is hS (by decide) (runs_extract rfl rfl) (fun a1 hS => ?_)
  refine seq_is hS (by decide) (runs_extract rfl rfl) (fun a1 hS => ?_)
  refine seq_is hS (by decide) (runs_assign rfl) (fun a1 hS => ?_)
  refine seq_is hS (by decide) (runs_assign rfl) (fun a1 hS => ?_)
  refine nil_ok (qx_seq (qx_seq (reg_seq ?_)))
  refine seq_op hS (by decide) (runs_call (args := []) goes10 rfl (awake_any w3)) (fun v4 w4 a1 hp hS => ?_)
  obtain ⟨rfl, hB4⟩ := hp
  have hB := Below.refl w3.heap.size w3
  have hB := hB.trans (hB4.mono hB.size)
  refine seq_is hS (by decide) (runs_not (b := true) rfl) (fun a1 hS => ?_)
  refine seq_is hS (by decide) (runs_move rfl) (fun a1 hS => ?_)
  refine seq_yis hS (by decide) rfl (by decide) rfl (runs_move rfl) (fun a1 hS => ?_)
  refine seq_yis hS (by decide) rfl (by decide) rfl (runs_move rfl) (fun a1 hS => ?_)
  refine seq_yis hS (by decide) rfl (by decide) rfl (runs_neq (r := false) rfl rfl (by simp)) (fun a1 hS => ?_)
  refine seq_is hS (by decide) (runs_pick rfl rfl) (fun a1 hS => ?_)
  refine seq_is hS (by decide) (runs_move rfl) (fun a1 hS => ?_)
  refine seq_yis hS (by decide) rfl (by decide) rfl (runs_move rfl) (fun a1 hS => ?_)
  refine seq_yis hS (by decide) rfl (by decide) rfl (runs_move rfl) (fun a1 hS => ?_)
  refine seq_yis hS (by decide) rfl (by decide) rfl (runs_neq (r := false) rfl rfl (by simp)) (fun a1 hS => ?_)
  refine seq_is hS (by decide) (runs_pick rfl rfl) (fun a1 hS => ?_)
  refine seq_is hS (by decide) (runs_move rfl) (fun a1 hS => ?_)
  refine seq_yis hS (by decide) rfl (by decide) rfl (runs_move rfl) (fun a1 hS => ?_)
  refine seq_yis hS (by decide) rfl (by decide) rfl (runs_move rfl) (fun a1 hS => ?_)
  refine seq_yis hS (by decide) rfl (by decide) rfl (runs_neq (r := false) rfl rfl (by simp)) (fun a1 hS => ?_)
  refine seq_is hS (by decide) (runs_pick rfl rfl) (fun a1 hS => ?_)
  refine seq_is hS (by decide) (runs_move rfl) (fun a1 hS => ?_)
  refine seq_yis hS (by decide) rfl (by decide) rfl (runs_move rfl) (fun a1 hS => ?_)
  refine seq_yis hS (by decide) rfl (by decide) rfl (runs_move rfl) (fun a1 hS => ?_)
  refine seq_yis hS (by decide) rfl (by decide) rfl (runs_neq (r := false) rfl rfl (by simp)) (fun a1 hS => ?_)
  refine seq_is hS (by decide) (runs_pick rfl rfl) (fun a1 hS => ?_)
  refine nil_ok (wp_cond_false (hS.eval rfl) (wp_skip (qx_seq (reg_seq ?_))))
  refine seq_is hS (by decide) (runs_move rfl) (fun a1 hS => ?_)
  refine seq_is hS (by decide) (runs_move rfl) (fun a1 hS => ?_)
  refine seq_is hS (by decide) (runs_move rfl) (fun a1 hS => ?_)
  refine seq_op hS (by decide) (runs_call (args := [.string tg, .int .i64 b0, .int .i64 c0]) goes21 rfl (fold_any tg b0 c0 w4)) (fun v6 w6 a1 hp hS => ?_)
  obtain ⟨rfl, rfl⟩ := hp
  refine seq_is hS (by decide) (runs_move rfl) (fun a1 hS => ?_)
  refine seq_is hS (by decide) (runs_extract rfl rfl) (fun a1 hS => ?_)
  refine seq_is hS (by decide) (runs_extract rfl rfl) (fun a1 hS => ?_)
  refine seq_is hS (by decide) (runs_assign rfl) (fun a1 hS => ?_)
  refine seq_is hS (by decide) (runs_assign rfl) (fun a1 hS => ?_)
  refine nil_ok (qx_seq (reg_seq ?_))
  refine seq_is hS (by decide) (runs_move rfl) (fun a1 hS => ?_)
  refine seq_is hS (by decide) (runs_move rfl) (fun a1 hS => ?_)
  refine seq_is hS (by decide) (runs_move rfl) (fun a1 hS => ?_)
  refine seq_op hS (by decide) (runs_call (args := [.string tg, .int .i64 (foldL (kindL tg.data.toList) a0 b0).1, .int .i64 c0]) goes21 rfl (fold_any tg (foldL (kindL tg.data.toList) a0 b0).1 c0 w6)) (fun v7 w7 a1 hp hS => ?_)
  obtain ⟨rfl, rfl⟩ := hp
  refine seq_is hS (by decide) (runs_move rfl) (fun a1 hS => ?_)
  refine seq_is hS (by decide) (runs_extract rfl rfl) (fun a1 hS => ?_)
  refine seq_is hS (by decide) (runs_extract rfl rfl) (fun a1 hS => ?_)
  refine seq_is hS (by decide) (runs_assign rfl) (fun a1 hS => ?_)
  refine seq_is hS (by decide) (runs_assign rfl) (fun a1 hS => ?_)
  refine nil_ok (qx_seq (reg_seq ?_))
  refine seq_is hS (by decide) (runs_move rfl) (fun a1 hS => ?_)
  refine seq_is hS (by decide) (runs_move rfl) (fun a1 hS => ?_)
  refine seq_is hS (by decide) (runs_move rfl) (fun a1 hS => ?_)
  refine seq_op hS (by decide) (runs_call (args := [.string tg, .int .i64 a0, .int .i64 (foldL (kindL tg.data.toList) b0 c0).1]) goes21 rfl (fold_any tg a0 (foldL (kindL tg.data.toList) b0 c0).1 w7)) (fun v8 w8 a1 hp hS => ?_)
  obtain ⟨rfl, rfl⟩ := hp
  refine seq_is hS (by decide) (runs_move rfl) (fun a1 hS => ?_)
  refine seq_is hS (by decide) (runs_extract rfl rfl) (fun a1 hS => ?_)
  refine seq_is hS (by decide) (runs_extract rfl rfl) (fun a1 hS => ?_)
  refine seq_is hS (by decide) (runs_assign rfl) (fun a1 hS => ?_)
  refine seq_is hS (by decide) (runs_assign rfl) (fun a1 hS => ?_)
  refine nil_ok (qx_seq (qx_seq (reg_seq ?_)))
  refine seq_is hS (by decide) (runs_move rfl) (fun a1 hS => ?_)
  by_cases h1 : (foldL (kindL tg.data.toList) a0 b0).2 ≠ 0
  · skip
    refine seq_is hS (by decide) (runs_neq (r := true) rfl rfl (by simpa using h1)) (fun a1 hS => ?_)
    refine seq_is hS (by decide) (runs_move rfl) (fun a1 hS => ?_)
    refine seq_no hS (by decide) rfl (by decide) rfl rfl (fun a1 hS => ?_)
    refine seq_no hS (by decide) rfl (by decide) rfl rfl (fun a1 hS => ?_)
    refine seq_is hS (by decide) (runs_pick rfl rfl) (fun a1 hS => ?_)
    refine seq_is hS (by decide) (runs_move rfl) (fun a1 hS => ?_)
    refine seq_no hS (by decide) rfl (by decide) rfl rfl (fun a1 hS => ?_)
    refine seq_no hS (by decide) rfl (by decide) rfl rfl (fun a1 hS => ?_)
    refine seq_is hS (by decide) (runs_pick rfl rfl) (fun a1 hS => ?_)
    refine seq_is hS (by decide) (runs_move rfl) (fun a1 hS => ?_)
    refine seq_no hS (by decide) rfl (by decide) rfl rfl (fun a1 hS => ?_)
    refine seq_no hS (by decide) rfl (by decide) rfl rfl (fun a1 hS => ?_)
    refine seq_is hS (by decide) (runs_pick rfl rfl) (fun a1 hS => ?_)
    refine nil_ok (wp_cond_true (hS.eval rfl) (qx_seq (reg_seq ?_)))
    refine seq_is hS (by decide) (runs_assign rfl) (fun a1 hS => ?_)
    exact nil_ok (qx_ret (ret1 (t := 8) (by kernel_rfl) hS rfl ⟨_, rfl, rfl, hB⟩))
  · skip
    refine seq_is hS (by decide) (runs_neq (r := false) rfl rfl (by simpa using h1)) (fun a1 hS => ?_)
    refine seq_is hS (by decide) (runs_move rfl) (fun a1 hS => ?_)
    refine seq_yis hS (by decide) rfl (by decide) rfl (runs_move rfl) (fun a1 hS => ?_)
    by_cases h2 : (foldL (kindL tg.data.toList) b0 c0).2 ≠ 0
    · skip
      refine seq_yis hS (by decide) rfl (by decide) rfl (runs_neq (r := true) rfl rfl (by simpa using h2)) (fun a1 hS => ?_)
      refine seq_is hS (by decide) (runs_pick rfl rfl) (fun a1 hS => ?_)
      refine seq_is hS (by decide) (runs_move rfl) (fun a1 hS => ?_)
      refine seq_no hS (by decide) rfl (by decide) rfl rfl (fun a1 hS => ?_)
      refine seq_no hS (by decide) rfl (by decide) rfl rfl (fun a1 hS => ?_)
      refine seq_is hS (by decide) (runs_pick rfl rfl) (fun a1 hS => ?_)
      refine seq_is hS (by decide) (runs_move rfl) (fun a1 hS => ?_)
      refine seq_no hS (by decide) rfl (by decide) rfl rfl (fun a1 hS => ?_)
      refine seq_no hS (by decide) rfl (by decide) rfl rfl (fun a1 hS => ?_)
      refine seq_is hS (by decide) (runs_pick rfl rfl) (fun a1 hS => ?_)
      refine nil_ok (wp_cond_true (hS.eval rfl) (qx_seq (reg_seq ?_)))
      refine seq_is hS (by decide) (runs_assign rfl) (fun a1 hS => ?_)
      exact nil_ok (qx_ret (ret1 (t := 8) (by kernel_rfl) hS rfl ⟨_, rfl, rfl, hB⟩))
    · skip
      refine seq_yis hS (by decide) rfl (by decide) rfl (runs_neq (r := false) rfl rfl (by simpa using h2)) (fun a1 hS => ?_)
      refine seq_is hS (by decide) (runs_pick rfl rfl) (fun a1 hS => ?_)
      refine seq_is hS (by decide) (runs_move rfl) (fun a1 hS => ?_)
      refine seq_yis hS (by decide) rfl (by decide) rfl (runs_move rfl) (fun a1 hS => ?_)
      by_cases h3 : (foldL (kindL tg.data.toList) (foldL (kindL tg.data.toList) a0 b0).1 c0).2 ≠ 0
      · skip
        refine seq_yis hS (by decide) rfl (by decide) rfl (runs_neq (r := true) rfl rfl (by simpa using h3)) (fun a1 hS => ?_)
        refine seq_is hS (by decide) (runs_pick rfl rfl) (fun a1 hS => ?_)
        refine seq_is hS (by decide) (runs_move rfl) (fun a1 hS => ?_)
        refine seq_no hS (by decide) rfl (by decide) rfl rfl (fun a1 hS => ?_)
        refine seq_no hS (by decide) rfl (by decide) rfl rfl (fun a1 hS => ?_)
        refine seq_is hS (by decide) (runs_pick rfl rfl) (fun a1 hS => ?_)
        refine nil_ok (wp_cond_true (hS.eval rfl) (qx_seq (reg_seq ?_)))
        refine seq_is hS (by decide) (runs_assign rfl) (fun a1 hS => ?_)
        exact nil_ok (qx_ret (ret1 (t := 8) (by kernel_rfl) hS rfl ⟨_, rfl, rfl, hB⟩))
      · skip
        refine seq_yis hS (by decide) rfl (by decide) rfl (runs_neq (r := false) rfl rfl (by simpa using h3)) (fun a1 hS => ?_)
        refine seq_is hS (by decide) (runs_pick rfl rfl) (fun a1 hS => ?_)
        refine seq_is hS (by decide) (runs_move rfl) (fun a1 hS => ?_)
        refine seq_yis hS (by decide) rfl (by decide) rfl (runs_move rfl) (fun a1 hS => ?_)
        by_cases h4 : (foldL (kindL tg.data.toList) a0 (foldL (kindL tg.data.toList) b0 c0).1).2 ≠ 0
        · skip
          refine seq_yis hS (by decide) rfl (by decide) rfl (runs_neq (r := true) rfl rfl (by simpa using h4)) (fun a1 hS => ?_)
          refine seq_is hS (by decide) (runs_pick rfl rfl) (fun a1 hS => ?_)
          refine nil_ok (wp_cond_true (hS.eval rfl) (qx_seq (reg_seq ?_)))
          refine seq_is hS (by decide) (runs_assign rfl) (fun a1 hS => ?_)
          exact nil_ok (qx_ret (ret1 (t := 8) (by kernel_rfl) hS rfl ⟨_, rfl, rfl, hB⟩))
        · skip
          refine seq_yis hS (by decide) rfl (by decide) rfl (runs_neq (r := false) rfl rfl (by simpa using h4)) (fun a1 hS => ?_)
          refine seq_is hS (by decide) (runs_pick rfl rfl) (fun a1 hS => ?_)
          refine nil_ok (wp_cond_false (hS.eval rfl) (wp_skip (qx_seq (reg_seq ?_))))
          refine seq_is hS (by decide) (runs_move rfl) (fun a1 hS => ?_)
          refine seq_is hS (by decide) (runs_move rfl) (fun a1 hS => ?_)
          refine seq_is hS (by decide) (runs_eql (r := true) rfl rfl (by rw [beq_iff_eq]; exact foldL_assoc (Classical.not_not.1 h1) (Classical.not_not.1 h2) (Classical.not_not.1 h3) (Classical.not_not.1 h4))) (fun a1 hS => ?_)
          refine seq_is hS (by decide) (runs_assign rfl) (fun a1 hS => ?_)
          exact nil_ok (qx_ret (ret1 (t := 8) (by kernel_rfl) hS rfl ⟨_, rfl, rfl, hB⟩))
end Go.Proofs.Ytfceckdhoaabnaa
