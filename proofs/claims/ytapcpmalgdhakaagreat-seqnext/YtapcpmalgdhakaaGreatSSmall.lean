/- Layer 7: small functions: names, values too great, rounding. Conditions: none of our own. -/
import Derived.Test.YtapcpmalgdhakaaGreatSEng
namespace Go.Proofs.YtapcpmalgdhakaaGreat
open Go.RowKit
set_option maxRecDepth 100000

theorem goes40 : Goes Tryz.prog 40 := goes_of Tryz.func40 (by kernel_rfl) rfl
theorem goes37 : Goes Tryz.prog 37 := goes_of Tryz.func37 (by kernel_rfl) rfl
theorem goes41 : Goes Tryz.prog 41 := goes_of Tryz.func41 (by kernel_rfl) rfl
theorem goes42 : Goes Tryz.prog 42 := goes_of Tryz.func42 (by kernel_rfl) rfl
theorem goes52 : Goes Tryz.prog 52 := goes_of Tryz.func52 (by kernel_rfl) rfl
theorem goes96 : Goes Tryz.prog 96 := goes_of Tryz.func96 (by kernel_rfl) rfl
theorem goes74 : Goes Tryz.prog 74 := goes_of Tryz.func74 (by kernel_rfl) rfl
theorem goes59 : Goes Tryz.prog 59 := goes_of Tryz.func59 (by kernel_rfl) rfl
theorem goes67 : Goes Tryz.prog 67 := goes_of Tryz.func67 (by kernel_rfl) rfl
theorem goes35 : Goes Tryz.prog 35 := goes_of Tryz.func35 (by kernel_rfl) rfl
theorem goes38 : Goes Tryz.prog 38 := goes_of Tryz.func38 (by kernel_rfl) rfl
theorem goes48 : Goes Tryz.prog 48 := goes_of Tryz.func48 (by kernel_rfl) rfl
theorem goes56 : Goes Tryz.prog 56 := goes_of Tryz.func56 (by kernel_rfl) rfl
theorem goes45 : Goes Tryz.prog 45 := goes_of Tryz.func45 (by kernel_rfl) rfl
theorem goes80 : Goes Tryz.prog 80 := goes_of Tryz.func80 (by kernel_rfl) rfl
theorem goes82 : Goes Tryz.prog 82 := goes_of Tryz.func82 (by kernel_rfl) rfl
theorem goes94 : Goes Tryz.prog 94 := goes_of Tryz.func94 (by kernel_rfl) rfl
theorem goes19 : Goes Tryz.prog 19 := goes_of Tryz.func19 (by kernel_rfl) rfl
theorem goes25 : Goes Tryz.prog 25 := goes_of Tryz.func25 (by kernel_rfl) rfl
theorem goes29 : Goes Tryz.prog 29 := goes_of Tryz.func29 (by kernel_rfl) rfl
theorem goes21 : Goes Tryz.prog 21 := goes_of Tryz.func21 (by kernel_rfl) rfl
theorem goes10 : Goes Tryz.prog 10 := goes_of Tryz.func10 (by kernel_rfl) rfl
theorem goes43 : Goes Tryz.prog 43 := goes_of Tryz.func43 (by kernel_rfl) rfl
theorem goes44 : Goes Tryz.prog 44 := goes_of Tryz.func44 (by kernel_rfl) rfl
theorem goes53 : Goes Tryz.prog 53 := goes_of Tryz.func53 (by kernel_rfl) rfl
theorem goes63 : Goes Tryz.prog 63 := goes_of Tryz.func63 (by kernel_rfl) rfl
theorem goes64 : Goes Tryz.prog 64 := goes_of Tryz.func64 (by kernel_rfl) rfl
theorem goes65 : Goes Tryz.prog 65 := goes_of Tryz.func65 (by kernel_rfl) rfl
theorem goes73 : Goes Tryz.prog 73 := goes_of Tryz.func73 (by kernel_rfl) rfl
theorem goes81 : Goes Tryz.prog 81 := goes_of Tryz.func81 (by kernel_rfl) rfl
theorem goes83 : Goes Tryz.prog 83 := goes_of Tryz.func83 (by kernel_rfl) rfl
theorem goes84 : Goes Tryz.prog 84 := goes_of Tryz.func84 (by kernel_rfl) rfl
theorem goes85 : Goes Tryz.prog 85 := goes_of Tryz.func85 (by kernel_rfl) rfl
theorem goes86 : Goes Tryz.prog 86 := goes_of Tryz.func86 (by kernel_rfl) rfl
theorem goes95 : Goes Tryz.prog 95 := goes_of Tryz.func95 (by kernel_rfl) rfl
set_option maxHeartbeats 1000000 in
theorem known_any (tg : ByteArray) (w : World) : Ans 40 [.string tg] w (Is (.bool (kindL tg.data.toList != 0)) w) := by
  rcases kind_cases tg.data.toList with hk | hk | hk | hk | hk | hk | hk | hk
  · skip
    refine calls_qx (args := [.string tg]) 12 Tryz.func40 rfl (by kernel_rfl) (by simp) (fun a hS => ?_)
    refine qx_seq (reg_seq ?_)
    refine sI hS (runs_assign rfl) fun _ hS => ?_
    refine nil_ok (qx_seq (qx_seq (reg_seq ?_)))
    refine sI hS (runs_move rfl) fun _ hS => ?_
    refine nil_ok (qx_block (qx_seq (qx_seq (reg_seq ?_))))
    refine sI hS (eqS1 rfl rfl hk) fun _ hS => ?_
    refine sI hS (runs_assign rfl) fun _ hS => ?_
    refine nil_ok (wp_cond_false (hS.eval rfl) (qx_seq (reg_seq ?_)))
    refine sI hS (eqS2 rfl rfl hk) fun _ hS => ?_
    refine sI hS (runs_assign rfl) fun _ hS => ?_
    refine nil_ok (wp_cond_false (hS.eval rfl) (qx_seq (reg_seq ?_)))
    refine sI hS (eqS3 rfl rfl hk) fun _ hS => ?_
    refine sI hS (runs_assign rfl) fun _ hS => ?_
    refine nil_ok (wp_cond_false (hS.eval rfl) (qx_seq (reg_seq ?_)))
    refine sI hS (eqS4 rfl rfl hk) fun _ hS => ?_
    refine sI hS (runs_assign rfl) fun _ hS => ?_
    refine nil_ok (wp_cond_false (hS.eval rfl) (qx_seq (reg_seq ?_)))
    refine sI hS (eqS5 rfl rfl hk) fun _ hS => ?_
    refine sI hS (runs_assign rfl) fun _ hS => ?_
    refine nil_ok (wp_cond_false (hS.eval rfl) (qx_seq (reg_seq ?_)))
    refine sI hS (eqS6 rfl rfl hk) fun _ hS => ?_
    refine sI hS (runs_assign rfl) fun _ hS => ?_
    refine nil_ok (wp_cond_false (hS.eval rfl) (reg_seq ?_))
    refine sI hS (eqS7 rfl rfl hk) fun _ hS => ?_
    refine sI hS (runs_assign rfl) fun _ hS => ?_
    refine nil_ok (wp_cond_false (hS.eval rfl) (wp_skip (qx_seq (reg_seq ?_))))
    refine sI hS (runs_assign rfl) fun _ hS => ?_
    exact nil_ok (qx_ret (ret1 (t := 2) (by kernel_rfl) hS rfl ⟨_, rfl, by rw [hk]; rfl, rfl⟩))
  · skip
    refine calls_qx (args := [.string tg]) 12 Tryz.func40 rfl (by kernel_rfl) (by simp) (fun a hS => ?_)
    refine qx_seq (reg_seq ?_)
    refine sI hS (runs_assign rfl) fun _ hS => ?_
    refine nil_ok (qx_seq (qx_seq (reg_seq ?_)))
    refine sI hS (runs_move rfl) fun _ hS => ?_
    refine nil_ok (qx_block (qx_seq (qx_seq (reg_seq ?_))))
    refine sI hS (eqS1 rfl rfl hk) fun _ hS => ?_
    refine sI hS (runs_assign rfl) fun _ hS => ?_
    refine nil_ok (wp_cond_true (hS.eval rfl) (wp_skip (wp_cond_true (hS.eval rfl) (qx_seq (reg_seq ?_)))))
    refine sI hS (runs_assign rfl) fun _ hS => ?_
    exact nil_ok (qx_ret (ret1 (t := 2) (by kernel_rfl) hS rfl ⟨_, rfl, by rw [hk]; rfl, rfl⟩))
  · skip
    refine calls_qx (args := [.string tg]) 12 Tryz.func40 rfl (by kernel_rfl) (by simp) (fun a hS => ?_)
    refine qx_seq (reg_seq ?_)
    refine sI hS (runs_assign rfl) fun _ hS => ?_
    refine nil_ok (qx_seq (qx_seq (reg_seq ?_)))
    refine sI hS (runs_move rfl) fun _ hS => ?_
    refine nil_ok (qx_block (qx_seq (qx_seq (reg_seq ?_))))
    refine sI hS (eqS1 rfl rfl hk) fun _ hS => ?_
    refine sI hS (runs_assign rfl) fun _ hS => ?_
    refine nil_ok (wp_cond_false (hS.eval rfl) (qx_seq (reg_seq ?_)))
    refine sI hS (eqS2 rfl rfl hk) fun _ hS => ?_
    refine sI hS (runs_assign rfl) fun _ hS => ?_
    refine nil_ok (wp_cond_true (hS.eval rfl) (wp_skip (wp_cond_true (hS.eval rfl) (qx_seq (reg_seq ?_)))))
    refine sI hS (runs_assign rfl) fun _ hS => ?_
    exact nil_ok (qx_ret (ret1 (t := 2) (by kernel_rfl) hS rfl ⟨_, rfl, by rw [hk]; rfl, rfl⟩))
  · skip
    refine calls_qx (args := [.string tg]) 12 Tryz.func40 rfl (by kernel_rfl) (by simp) (fun a hS => ?_)
    refine qx_seq (reg_seq ?_)
    refine sI hS (runs_assign rfl) fun _ hS => ?_
    refine nil_ok (qx_seq (qx_seq (reg_seq ?_)))
    refine sI hS (runs_move rfl) fun _ hS => ?_
    refine nil_ok (qx_block (qx_seq (qx_seq (reg_seq ?_))))
    refine sI hS (eqS1 rfl rfl hk) fun _ hS => ?_
    refine sI hS (runs_assign rfl) fun _ hS => ?_
    refine nil_ok (wp_cond_false (hS.eval rfl) (qx_seq (reg_seq ?_)))
    refine sI hS (eqS2 rfl rfl hk) fun _ hS => ?_
    refine sI hS (runs_assign rfl) fun _ hS => ?_
    refine nil_ok (wp_cond_false (hS.eval rfl) (qx_seq (reg_seq ?_)))
    refine sI hS (eqS3 rfl rfl hk) fun _ hS => ?_
    refine sI hS (runs_assign rfl) fun _ hS => ?_
    refine nil_ok (wp_cond_true (hS.eval rfl) (wp_skip (wp_cond_true (hS.eval rfl) (qx_seq (reg_seq ?_)))))
    refine sI hS (runs_assign rfl) fun _ hS => ?_
    exact nil_ok (qx_ret (ret1 (t := 2) (by kernel_rfl) hS rfl ⟨_, rfl, by rw [hk]; rfl, rfl⟩))
  · skip
    refine calls_qx (args := [.string tg]) 12 Tryz.func40 rfl (by kernel_rfl) (by simp) (fun a hS => ?_)
    refine qx_seq (reg_seq ?_)
    refine sI hS (runs_assign rfl) fun _ hS => ?_
    refine nil_ok (qx_seq (qx_seq (reg_seq ?_)))
    refine sI hS (runs_move rfl) fun _ hS => ?_
    refine nil_ok (qx_block (qx_seq (qx_seq (reg_seq ?_))))
    refine sI hS (eqS1 rfl rfl hk) fun _ hS => ?_
    refine sI hS (runs_assign rfl) fun _ hS => ?_
    refine nil_ok (wp_cond_false (hS.eval rfl) (qx_seq (reg_seq ?_)))
    refine sI hS (eqS2 rfl rfl hk) fun _ hS => ?_
    refine sI hS (runs_assign rfl) fun _ hS => ?_
    refine nil_ok (wp_cond_false (hS.eval rfl) (qx_seq (reg_seq ?_)))
    refine sI hS (eqS3 rfl rfl hk) fun _ hS => ?_
    refine sI hS (runs_assign rfl) fun _ hS => ?_
    refine nil_ok (wp_cond_false (hS.eval rfl) (qx_seq (reg_seq ?_)))
    refine sI hS (eqS4 rfl rfl hk) fun _ hS => ?_
    refine sI hS (runs_assign rfl) fun _ hS => ?_
    refine nil_ok (wp_cond_true (hS.eval rfl) (wp_skip (wp_cond_true (hS.eval rfl) (qx_seq (reg_seq ?_)))))
    refine sI hS (runs_assign rfl) fun _ hS => ?_
    exact nil_ok (qx_ret (ret1 (t := 2) (by kernel_rfl) hS rfl ⟨_, rfl, by rw [hk]; rfl, rfl⟩))
  · skip
    refine calls_qx (args := [.string tg]) 12 Tryz.func40 rfl (by kernel_rfl) (by simp) (fun a hS => ?_)
    refine qx_seq (reg_seq ?_)
    refine sI hS (runs_assign rfl) fun _ hS => ?_
    refine nil_ok (qx_seq (qx_seq (reg_seq ?_)))
    refine sI hS (runs_move rfl) fun _ hS => ?_
    refine nil_ok (qx_block (qx_seq (qx_seq (reg_seq ?_))))
    refine sI hS (eqS1 rfl rfl hk) fun _ hS => ?_
    refine sI hS (runs_assign rfl) fun _ hS => ?_
    refine nil_ok (wp_cond_false (hS.eval rfl) (qx_seq (reg_seq ?_)))
    refine sI hS (eqS2 rfl rfl hk) fun _ hS => ?_
    refine sI hS (runs_assign rfl) fun _ hS => ?_
    refine nil_ok (wp_cond_false (hS.eval rfl) (qx_seq (reg_seq ?_)))
    refine sI hS (eqS3 rfl rfl hk) fun _ hS => ?_
    refine sI hS (runs_assign rfl) fun _ hS => ?_
    refine nil_ok (wp_cond_false (hS.eval rfl) (qx_seq (reg_seq ?_)))
    refine sI hS (eqS4 rfl rfl hk) fun _ hS => ?_
    refine sI hS (runs_assign rfl) fun _ hS => ?_
    refine nil_ok (wp_cond_false (hS.eval rfl) (qx_seq (reg_seq ?_)))
    refine sI hS (eqS5 rfl rfl hk) fun _ hS => ?_
    refine sI hS (runs_assign rfl) fun _ hS => ?_
    refine nil_ok (wp_cond_true (hS.eval rfl) (wp_skip (wp_cond_true (hS.eval rfl) (qx_seq (reg_seq ?_)))))
    refine sI hS (runs_assign rfl) fun _ hS => ?_
    exact nil_ok (qx_ret (ret1 (t := 2) (by kernel_rfl) hS rfl ⟨_, rfl, by rw [hk]; rfl, rfl⟩))
  · skip
    refine calls_qx (args := [.string tg]) 12 Tryz.func40 rfl (by kernel_rfl) (by simp) (fun a hS => ?_)
    refine qx_seq (reg_seq ?_)
    refine sI hS (runs_assign rfl) fun _ hS => ?_
    refine nil_ok (qx_seq (qx_seq (reg_seq ?_)))
    refine sI hS (runs_move rfl) fun _ hS => ?_
    refine nil_ok (qx_block (qx_seq (qx_seq (reg_seq ?_))))
    refine sI hS (eqS1 rfl rfl hk) fun _ hS => ?_
    refine sI hS (runs_assign rfl) fun _ hS => ?_
    refine nil_ok (wp_cond_false (hS.eval rfl) (qx_seq (reg_seq ?_)))
    refine sI hS (eqS2 rfl rfl hk) fun _ hS => ?_
    refine sI hS (runs_assign rfl) fun _ hS => ?_
    refine nil_ok (wp_cond_false (hS.eval rfl) (qx_seq (reg_seq ?_)))
    refine sI hS (eqS3 rfl rfl hk) fun _ hS => ?_
    refine sI hS (runs_assign rfl) fun _ hS => ?_
    refine nil_ok (wp_cond_false (hS.eval rfl) (qx_seq (reg_seq ?_)))
    refine sI hS (eqS4 rfl rfl hk) fun _ hS => ?_
    refine sI hS (runs_assign rfl) fun _ hS => ?_
    refine nil_ok (wp_cond_false (hS.eval rfl) (qx_seq (reg_seq ?_)))
    refine sI hS (eqS5 rfl rfl hk) fun _ hS => ?_
    refine sI hS (runs_assign rfl) fun _ hS => ?_
    refine nil_ok (wp_cond_false (hS.eval rfl) (qx_seq (reg_seq ?_)))
    refine sI hS (eqS6 rfl rfl hk) fun _ hS => ?_
    refine sI hS (runs_assign rfl) fun _ hS => ?_
    refine nil_ok (wp_cond_true (hS.eval rfl) (wp_skip (wp_cond_true (hS.eval rfl) (qx_seq (reg_seq ?_)))))
    refine sI hS (runs_assign rfl) fun _ hS => ?_
    exact nil_ok (qx_ret (ret1 (t := 2) (by kernel_rfl) hS rfl ⟨_, rfl, by rw [hk]; rfl, rfl⟩))
  · skip
    refine calls_qx (args := [.string tg]) 12 Tryz.func40 rfl (by kernel_rfl) (by simp) (fun a hS => ?_)
    refine qx_seq (reg_seq ?_)
    refine sI hS (runs_assign rfl) fun _ hS => ?_
    refine nil_ok (qx_seq (qx_seq (reg_seq ?_)))
    refine sI hS (runs_move rfl) fun _ hS => ?_
    refine nil_ok (qx_block (qx_seq (qx_seq (reg_seq ?_))))
    refine sI hS (eqS1 rfl rfl hk) fun _ hS => ?_
    refine sI hS (runs_assign rfl) fun _ hS => ?_
    refine nil_ok (wp_cond_false (hS.eval rfl) (qx_seq (reg_seq ?_)))
    refine sI hS (eqS2 rfl rfl hk) fun _ hS => ?_
    refine sI hS (runs_assign rfl) fun _ hS => ?_
    refine nil_ok (wp_cond_false (hS.eval rfl) (qx_seq (reg_seq ?_)))
    refine sI hS (eqS3 rfl rfl hk) fun _ hS => ?_
    refine sI hS (runs_assign rfl) fun _ hS => ?_
    refine nil_ok (wp_cond_false (hS.eval rfl) (qx_seq (reg_seq ?_)))
    refine sI hS (eqS4 rfl rfl hk) fun _ hS => ?_
    refine sI hS (runs_assign rfl) fun _ hS => ?_
    refine nil_ok (wp_cond_false (hS.eval rfl) (qx_seq (reg_seq ?_)))
    refine sI hS (eqS5 rfl rfl hk) fun _ hS => ?_
    refine sI hS (runs_assign rfl) fun _ hS => ?_
    refine nil_ok (wp_cond_false (hS.eval rfl) (qx_seq (reg_seq ?_)))
    refine sI hS (eqS6 rfl rfl hk) fun _ hS => ?_
    refine sI hS (runs_assign rfl) fun _ hS => ?_
    refine nil_ok (wp_cond_false (hS.eval rfl) (reg_seq ?_))
    refine sI hS (eqS7 rfl rfl hk) fun _ hS => ?_
    refine sI hS (runs_assign rfl) fun _ hS => ?_
    refine nil_ok (wp_cond_true (hS.eval rfl) (qx_seq (reg_seq ?_)))
    refine sI hS (runs_assign rfl) fun _ hS => ?_
    exact nil_ok (qx_ret (ret1 (t := 2) (by kernel_rfl) hS rfl ⟨_, rfl, by rw [hk]; rfl, rfl⟩))
theorem known_is (tg : ByteArray) (w : World) {b : Bool} (h : (kindL tg.data.toList != 0) = b) : Ans 40 [.string tg] w (Is (.bool b) w) := h ▸ known_any tg w
set_option maxHeartbeats 1000000 in
theorem rknown_any (tg : ByteArray) (w : World) : Ans 37 [.string tg] w (Is (.bool (kindL tg.data.toList != 0)) w) := by
  rcases kind_cases tg.data.toList with hk | hk | hk | hk | hk | hk | hk | hk
  · skip
    refine calls_qx (args := [.string tg]) 29 Tryz.func37 rfl (by kernel_rfl) (by simp) (fun a hS => ?_)
    refine qx_seq (reg_seq ?_)
    refine sI hS (runs_assign rfl) fun _ hS => ?_
    refine nil_ok (qx_seq (reg_seq ?_))
    refine sI hS (runs_move rfl) fun _ hS => ?_
    refine sI hS (eqS1 rfl rfl hk) fun _ hS => ?_
    refine sI hS (runs_move rfl) fun _ hS => ?_
    refine sY hS (runs_move rfl) fun _ hS => ?_
    refine sY hS (eqS2 rfl rfl hk) fun _ hS => ?_
    refine sI hS (runs_pick rfl rfl) fun _ hS => ?_
    refine sI hS (runs_move rfl) fun _ hS => ?_
    refine sY hS (runs_move rfl) fun _ hS => ?_
    refine sY hS (eqS3 rfl rfl hk) fun _ hS => ?_
    refine sI hS (runs_pick rfl rfl) fun _ hS => ?_
    refine sI hS (runs_move rfl) fun _ hS => ?_
    refine sY hS (runs_move rfl) fun _ hS => ?_
    refine sY hS (eqS4 rfl rfl hk) fun _ hS => ?_
    refine sI hS (runs_pick rfl rfl) fun _ hS => ?_
    refine sI hS (runs_move rfl) fun _ hS => ?_
    refine sY hS (runs_move rfl) fun _ hS => ?_
    refine sY hS (eqS5 rfl rfl hk) fun _ hS => ?_
    refine sI hS (runs_pick rfl rfl) fun _ hS => ?_
    refine sI hS (runs_move rfl) fun _ hS => ?_
    refine sY hS (runs_move rfl) fun _ hS => ?_
    refine sY hS (eqS6 rfl rfl hk) fun _ hS => ?_
    refine sI hS (runs_pick rfl rfl) fun _ hS => ?_
    refine sI hS (runs_move rfl) fun _ hS => ?_
    refine sY hS (runs_move rfl) fun _ hS => ?_
    refine sY hS (eqS7 rfl rfl hk) fun _ hS => ?_
    refine sI hS (runs_pick rfl rfl) fun _ hS => ?_
    refine sI hS (runs_assign rfl) fun _ hS => ?_
    exact nil_ok (qx_ret (ret1 (t := 2) (by kernel_rfl) hS rfl ⟨_, rfl, by rw [hk]; rfl, rfl⟩))
  · skip
    refine calls_qx (args := [.string tg]) 29 Tryz.func37 rfl (by kernel_rfl) (by simp) (fun a hS => ?_)
    refine qx_seq (reg_seq ?_)
    refine sI hS (runs_assign rfl) fun _ hS => ?_
    refine nil_ok (qx_seq (reg_seq ?_))
    refine sI hS (runs_move rfl) fun _ hS => ?_
    refine sI hS (eqS1 rfl rfl hk) fun _ hS => ?_
    refine sI hS (runs_move rfl) fun _ hS => ?_
    refine sN hS fun _ hS => ?_
    refine sN hS fun _ hS => ?_
    refine sI hS (runs_pick rfl rfl) fun _ hS => ?_
    refine sI hS (runs_move rfl) fun _ hS => ?_
    refine sN hS fun _ hS => ?_
    refine sN hS fun _ hS => ?_
    refine sI hS (runs_pick rfl rfl) fun _ hS => ?_
    refine sI hS (runs_move rfl) fun _ hS => ?_
    refine sN hS fun _ hS => ?_
    refine sN hS fun _ hS => ?_
    refine sI hS (runs_pick rfl rfl) fun _ hS => ?_
    refine sI hS (runs_move rfl) fun _ hS => ?_
    refine sN hS fun _ hS => ?_
    refine sN hS fun _ hS => ?_
    refine sI hS (runs_pick rfl rfl) fun _ hS => ?_
    refine sI hS (runs_move rfl) fun _ hS => ?_
    refine sN hS fun _ hS => ?_
    refine sN hS fun _ hS => ?_
    refine sI hS (runs_pick rfl rfl) fun _ hS => ?_
    refine sI hS (runs_move rfl) fun _ hS => ?_
    refine sN hS fun _ hS => ?_
    refine sN hS fun _ hS => ?_
    refine sI hS (runs_pick rfl rfl) fun _ hS => ?_
    refine sI hS (runs_assign rfl) fun _ hS => ?_
    exact nil_ok (qx_ret (ret1 (t := 2) (by kernel_rfl) hS rfl ⟨_, rfl, by rw [hk]; rfl, rfl⟩))
  · skip
    refine calls_qx (args := [.string tg]) 29 Tryz.func37 rfl (by kernel_rfl) (by simp) (fun a hS => ?_)
    refine qx_seq (reg_seq ?_)
    refine sI hS (runs_assign rfl) fun _ hS => ?_
    refine nil_ok (qx_seq (reg_seq ?_))
    refine sI hS (runs_move rfl) fun _ hS => ?_
    refine sI hS (eqS1 rfl rfl hk) fun _ hS => ?_
    refine sI hS (runs_move rfl) fun _ hS => ?_
    refine sY hS (runs_move rfl) fun _ hS => ?_
    refine sY hS (eqS2 rfl rfl hk) fun _ hS => ?_
    refine sI hS (runs_pick rfl rfl) fun _ hS => ?_
    refine sI hS (runs_move rfl) fun _ hS => ?_
    refine sN hS fun _ hS => ?_
    refine sN hS fun _ hS => ?_
    refine sI hS (runs_pick rfl rfl) fun _ hS => ?_
    refine sI hS (runs_move rfl) fun _ hS => ?_
    refine sN hS fun _ hS => ?_
    refine sN hS fun _ hS => ?_
    refine sI hS (runs_pick rfl rfl) fun _ hS => ?_
    refine sI hS (runs_move rfl) fun _ hS => ?_
    refine sN hS fun _ hS => ?_
    refine sN hS fun _ hS => ?_
    refine sI hS (runs_pick rfl rfl) fun _ hS => ?_
    refine sI hS (runs_move rfl) fun _ hS => ?_
    refine sN hS fun _ hS => ?_
    refine sN hS fun _ hS => ?_
    refine sI hS (runs_pick rfl rfl) fun _ hS => ?_
    refine sI hS (runs_move rfl) fun _ hS => ?_
    refine sN hS fun _ hS => ?_
    refine sN hS fun _ hS => ?_
    refine sI hS (runs_pick rfl rfl) fun _ hS => ?_
    refine sI hS (runs_assign rfl) fun _ hS => ?_
    exact nil_ok (qx_ret (ret1 (t := 2) (by kernel_rfl) hS rfl ⟨_, rfl, by rw [hk]; rfl, rfl⟩))
  · skip
    refine calls_qx (args := [.string tg]) 29 Tryz.func37 rfl (by kernel_rfl) (by simp) (fun a hS => ?_)
    refine qx_seq (reg_seq ?_)
    refine sI hS (runs_assign rfl) fun _ hS => ?_
    refine nil_ok (qx_seq (reg_seq ?_))
    refine sI hS (runs_move rfl) fun _ hS => ?_
    refine sI hS (eqS1 rfl rfl hk) fun _ hS => ?_
    refine sI hS (runs_move rfl) fun _ hS => ?_
    refine sY hS (runs_move rfl) fun _ hS => ?_
    refine sY hS (eqS2 rfl rfl hk) fun _ hS => ?_
    refine sI hS (runs_pick rfl rfl) fun _ hS => ?_
    refine sI hS (runs_move rfl) fun _ hS => ?_
    refine sY hS (runs_move rfl) fun _ hS => ?_
    refine sY hS (eqS3 rfl rfl hk) fun _ hS => ?_
    refine sI hS (runs_pick rfl rfl) fun _ hS => ?_
    refine sI hS (runs_move rfl) fun _ hS => ?_
    refine sN hS fun _ hS => ?_
    refine sN hS fun _ hS => ?_
    refine sI hS (runs_pick rfl rfl) fun _ hS => ?_
    refine sI hS (runs_move rfl) fun _ hS => ?_
    refine sN hS fun _ hS => ?_
    refine sN hS fun _ hS => ?_
    refine sI hS (runs_pick rfl rfl) fun _ hS => ?_
    refine sI hS (runs_move rfl) fun _ hS => ?_
    refine sN hS fun _ hS => ?_
    refine sN hS fun _ hS => ?_
    refine sI hS (runs_pick rfl rfl) fun _ hS => ?_
    refine sI hS (runs_move rfl) fun _ hS => ?_
    refine sN hS fun _ hS => ?_
    refine sN hS fun _ hS => ?_
    refine sI hS (runs_pick rfl rfl) fun _ hS => ?_
    refine sI hS (runs_assign rfl) fun _ hS => ?_
    exact nil_ok (qx_ret (ret1 (t := 2) (by kernel_rfl) hS rfl ⟨_, rfl, by rw [hk]; rfl, rfl⟩))
  · skip
    refine calls_qx (args := [.string tg]) 29 Tryz.func37 rfl (by kernel_rfl) (by simp) (fun a hS => ?_)
    refine qx_seq (reg_seq ?_)
    refine sI hS (runs_assign rfl) fun _ hS => ?_
    refine nil_ok (qx_seq (reg_seq ?_))
    refine sI hS (runs_move rfl) fun _ hS => ?_
    refine sI hS (eqS1 rfl rfl hk) fun _ hS => ?_
    refine sI hS (runs_move rfl) fun _ hS => ?_
    refine sY hS (runs_move rfl) fun _ hS => ?_
    refine sY hS (eqS2 rfl rfl hk) fun _ hS => ?_
    refine sI hS (runs_pick rfl rfl) fun _ hS => ?_
    refine sI hS (runs_move rfl) fun _ hS => ?_
    refine sY hS (runs_move rfl) fun _ hS => ?_
    refine sY hS (eqS3 rfl rfl hk) fun _ hS => ?_
    refine sI hS (runs_pick rfl rfl) fun _ hS => ?_
    refine sI hS (runs_move rfl) fun _ hS => ?_
    refine sY hS (runs_move rfl) fun _ hS => ?_
    refine sY hS (eqS4 rfl rfl hk) fun _ hS => ?_
    refine sI hS (runs_pick rfl rfl) fun _ hS => ?_
    refine sI hS (runs_move rfl) fun _ hS => ?_
    refine sN hS fun _ hS => ?_
    refine sN hS fun _ hS => ?_
    refine sI hS (runs_pick rfl rfl) fun _ hS => ?_
    refine sI hS (runs_move rfl) fun _ hS => ?_
    refine sN hS fun _ hS => ?_
    refine sN hS fun _ hS => ?_
    refine sI hS (runs_pick rfl rfl) fun _ hS => ?_
    refine sI hS (runs_move rfl) fun _ hS => ?_
    refine sN hS fun _ hS => ?_
    refine sN hS fun _ hS => ?_
    refine sI hS (runs_pick rfl rfl) fun _ hS => ?_
    refine sI hS (runs_assign rfl) fun _ hS => ?_
    exact nil_ok (qx_ret (ret1 (t := 2) (by kernel_rfl) hS rfl ⟨_, rfl, by rw [hk]; rfl, rfl⟩))
  · skip
    refine calls_qx (args := [.string tg]) 29 Tryz.func37 rfl (by kernel_rfl) (by simp) (fun a hS => ?_)
    refine qx_seq (reg_seq ?_)
    refine sI hS (runs_assign rfl) fun _ hS => ?_
    refine nil_ok (qx_seq (reg_seq ?_))
    refine sI hS (runs_move rfl) fun _ hS => ?_
    refine sI hS (eqS1 rfl rfl hk) fun _ hS => ?_
    refine sI hS (runs_move rfl) fun _ hS => ?_
    refine sY hS (runs_move rfl) fun _ hS => ?_
    refine sY hS (eqS2 rfl rfl hk) fun _ hS => ?_
    refine sI hS (runs_pick rfl rfl) fun _ hS => ?_
    refine sI hS (runs_move rfl) fun _ hS => ?_
    refine sY hS (runs_move rfl) fun _ hS => ?_
    refine sY hS (eqS3 rfl rfl hk) fun _ hS => ?_
    refine sI hS (runs_pick rfl rfl) fun _ hS => ?_
    refine sI hS (runs_move rfl) fun _ hS => ?_
    refine sY hS (runs_move rfl) fun _ hS => ?_
    refine sY hS (eqS4 rfl rfl hk) fun _ hS => ?_
    refine sI hS (runs_pick rfl rfl) fun _ hS => ?_
    refine sI hS (runs_move rfl) fun _ hS => ?_
    refine sY hS (runs_move rfl) fun _ hS => ?_
    refine sY hS (eqS5 rfl rfl hk) fun _ hS => ?_
    refine sI hS (runs_pick rfl rfl) fun _ hS => ?_
    refine sI hS (runs_move rfl) fun _ hS => ?_
    refine sN hS fun _ hS => ?_
    refine sN hS fun _ hS => ?_
    refine sI hS (runs_pick rfl rfl) fun _ hS => ?_
    refine sI hS (runs_move rfl) fun _ hS => ?_
    refine sN hS fun _ hS => ?_
    refine sN hS fun _ hS => ?_
    refine sI hS (runs_pick rfl rfl) fun _ hS => ?_
    refine sI hS (runs_assign rfl) fun _ hS => ?_
    exact nil_ok (qx_ret (ret1 (t := 2) (by kernel_rfl) hS rfl ⟨_, rfl, by rw [hk]; rfl, rfl⟩))
  · skip
    refine calls_qx (args := [.string tg]) 29 Tryz.func37 rfl (by kernel_rfl) (by simp) (fun a hS => ?_)
    refine qx_seq (reg_seq ?_)
    refine sI hS (runs_assign rfl) fun _ hS => ?_
    refine nil_ok (qx_seq (reg_seq ?_))
    refine sI hS (runs_move rfl) fun _ hS => ?_
    refine sI hS (eqS1 rfl rfl hk) fun _ hS => ?_
    refine sI hS (runs_move rfl) fun _ hS => ?_
    refine sY hS (runs_move rfl) fun _ hS => ?_
    refine sY hS (eqS2 rfl rfl hk) fun _ hS => ?_
    refine sI hS (runs_pick rfl rfl) fun _ hS => ?_
    refine sI hS (runs_move rfl) fun _ hS => ?_
    refine sY hS (runs_move rfl) fun _ hS => ?_
    refine sY hS (eqS3 rfl rfl hk) fun _ hS => ?_
    refine sI hS (runs_pick rfl rfl) fun _ hS => ?_
    refine sI hS (runs_move rfl) fun _ hS => ?_
    refine sY hS (runs_move rfl) fun _ hS => ?_
    refine sY hS (eqS4 rfl rfl hk) fun _ hS => ?_
    refine sI hS (runs_pick rfl rfl) fun _ hS => ?_
    refine sI hS (runs_move rfl) fun _ hS => ?_
    refine sY hS (runs_move rfl) fun _ hS => ?_
    refine sY hS (eqS5 rfl rfl hk) fun _ hS => ?_
    refine sI hS (runs_pick rfl rfl) fun _ hS => ?_
    refine sI hS (runs_move rfl) fun _ hS => ?_
    refine sY hS (runs_move rfl) fun _ hS => ?_
    refine sY hS (eqS6 rfl rfl hk) fun _ hS => ?_
    refine sI hS (runs_pick rfl rfl) fun _ hS => ?_
    refine sI hS (runs_move rfl) fun _ hS => ?_
    refine sN hS fun _ hS => ?_
    refine sN hS fun _ hS => ?_
    refine sI hS (runs_pick rfl rfl) fun _ hS => ?_
    refine sI hS (runs_assign rfl) fun _ hS => ?_
    exact nil_ok (qx_ret (ret1 (t := 2) (by kernel_rfl) hS rfl ⟨_, rfl, by rw [hk]; rfl, rfl⟩))
  · skip
    refine calls_qx (args := [.string tg]) 29 Tryz.func37 rfl (by kernel_rfl) (by simp) (fun a hS => ?_)
    refine qx_seq (reg_seq ?_)
    refine sI hS (runs_assign rfl) fun _ hS => ?_
    refine nil_ok (qx_seq (reg_seq ?_))
    refine sI hS (runs_move rfl) fun _ hS => ?_
    refine sI hS (eqS1 rfl rfl hk) fun _ hS => ?_
    refine sI hS (runs_move rfl) fun _ hS => ?_
    refine sY hS (runs_move rfl) fun _ hS => ?_
    refine sY hS (eqS2 rfl rfl hk) fun _ hS => ?_
    refine sI hS (runs_pick rfl rfl) fun _ hS => ?_
    refine sI hS (runs_move rfl) fun _ hS => ?_
    refine sY hS (runs_move rfl) fun _ hS => ?_
    refine sY hS (eqS3 rfl rfl hk) fun _ hS => ?_
    refine sI hS (runs_pick rfl rfl) fun _ hS => ?_
    refine sI hS (runs_move rfl) fun _ hS => ?_
    refine sY hS (runs_move rfl) fun _ hS => ?_
    refine sY hS (eqS4 rfl rfl hk) fun _ hS => ?_
    refine sI hS (runs_pick rfl rfl) fun _ hS => ?_
    refine sI hS (runs_move rfl) fun _ hS => ?_
    refine sY hS (runs_move rfl) fun _ hS => ?_
    refine sY hS (eqS5 rfl rfl hk) fun _ hS => ?_
    refine sI hS (runs_pick rfl rfl) fun _ hS => ?_
    refine sI hS (runs_move rfl) fun _ hS => ?_
    refine sY hS (runs_move rfl) fun _ hS => ?_
    refine sY hS (eqS6 rfl rfl hk) fun _ hS => ?_
    refine sI hS (runs_pick rfl rfl) fun _ hS => ?_
    refine sI hS (runs_move rfl) fun _ hS => ?_
    refine sY hS (runs_move rfl) fun _ hS => ?_
    refine sY hS (eqS7 rfl rfl hk) fun _ hS => ?_
    refine sI hS (runs_pick rfl rfl) fun _ hS => ?_
    refine sI hS (runs_assign rfl) fun _ hS => ?_
    exact nil_ok (qx_ret (ret1 (t := 2) (by kernel_rfl) hS rfl ⟨_, rfl, by rw [hk]; rfl, rfl⟩))
theorem rknown_is (tg : ByteArray) (w : World) {b : Bool} (h : (kindL tg.data.toList != 0) = b) : Ans 37 [.string tg] w (Is (.bool b) w) := h ▸ rknown_any tg w
set_option maxHeartbeats 1000000 in
theorem below_any (x y : Int) (w : World) : Ans 41 [.int .i64 x, .int .i64 y] w (Is (.bool (decide (0 ≤ x) && decide (x < y))) w) := by
  refine calls_qx (args := [.int .i64 x, .int .i64 y]) 12 Tryz.func41 rfl (by kernel_rfl) (by simp) (fun a hS => ?_)
  refine qx_seq (reg_seq ?_)
  refine sI hS (runs_assign rfl) fun _ hS => ?_
  refine nil_ok (qx_seq (reg_seq ?_))
  refine sI hS (runs_move rfl) fun _ hS => ?_
  by_cases h1 : x ≥ 0
  · skip
    refine sI hS (geqT rfl rfl (by omega)) fun _ hS => ?_
    refine sI hS (runs_move rfl) fun _ hS => ?_
    refine sY hS (runs_move rfl) fun _ hS => ?_
    refine sY hS (runs_move rfl) fun _ hS => ?_
    by_cases h2 : x < y
    · skip
      refine sY hS (lssT rfl rfl (by omega)) fun _ hS => ?_
      refine sI hS (runs_pick rfl rfl) fun _ hS => ?_
      refine sI hS (runs_assign rfl) fun _ hS => ?_
      exact nil_ok (qx_ret (ret1 (t := 4) (by kernel_rfl) hS rfl ⟨_, rfl, by first | (simp; done) | (simp; omega), rfl⟩))
    refine sY hS (lssF rfl rfl (by omega)) fun _ hS => ?_
    refine sI hS (runs_pick rfl rfl) fun _ hS => ?_
    refine sI hS (runs_assign rfl) fun _ hS => ?_
    exact nil_ok (qx_ret (ret1 (t := 4) (by kernel_rfl) hS rfl ⟨_, rfl, by first | (simp; done) | (simp; omega), rfl⟩))
  refine sI hS (geqF rfl rfl (by omega)) fun _ hS => ?_
  refine sI hS (runs_move rfl) fun _ hS => ?_
  refine sN hS fun _ hS => ?_
  refine sN hS fun _ hS => ?_
  refine sN hS fun _ hS => ?_
  refine sI hS (runs_pick rfl rfl) fun _ hS => ?_
  refine sI hS (runs_assign rfl) fun _ hS => ?_
  exact nil_ok (qx_ret (ret1 (t := 4) (by kernel_rfl) hS rfl ⟨_, rfl, by first | (simp; done) | (simp; omega), rfl⟩))
theorem below_is {x y : Int} (w : World) {b : Bool} (h : (decide (0 ≤ x) && decide (x < y)) = b) : Ans 41 [.int .i64 x, .int .i64 y] w (Is (.bool b) w) := h ▸ below_any x y w
theorem below_yes {x y : Int} (w : World) (h : 0 ≤ x ∧ x < y) : Ans 41 [.int .i64 x, .int .i64 y] w (Is (.bool true) w) := below_is w (by simp [h.1, h.2])
theorem below_no {x y : Int} (w : World) (h : ¬ (0 ≤ x ∧ x < y)) : Ans 41 [.int .i64 x, .int .i64 y] w (Is (.bool false) w) := below_is w (by rw [Bool.eq_false_iff]; intro h2; simp at h2; omega)
set_option maxHeartbeats 1000000 in
theorem great_any (x : Int) (w : World) : Ans 42 [.int .i64 x] w (Is (.bool (great x)) w) := by
  refine calls_qx (args := [.int .i64 x]) 9 Tryz.func42 rfl (by kernel_rfl) (by simp) (fun a hS => ?_)
  refine qx_seq (reg_seq ?_)
  refine sI hS (runs_assign rfl) fun _ hS => ?_
  refine nil_ok (qx_seq (reg_seq ?_))
  refine sI hS (runs_move rfl) fun _ hS => ?_
  by_cases h1 : x > 1125899906842624
  · skip
    refine sI hS (gtrT rfl rfl (by omega)) fun _ hS => ?_
    refine sI hS (runs_move rfl) fun _ hS => ?_
    refine sN hS fun _ hS => ?_
    refine sN hS fun _ hS => ?_
    refine sI hS (runs_pick rfl rfl) fun _ hS => ?_
    refine sI hS (runs_assign rfl) fun _ hS => ?_
    exact nil_ok (qx_ret (ret1 (t := 2) (by kernel_rfl) hS rfl ⟨_, rfl, by unfold great; first | (simp; done) | (simp; omega), rfl⟩))
  refine sI hS (gtrF rfl rfl (by omega)) fun _ hS => ?_
  refine sI hS (runs_move rfl) fun _ hS => ?_
  refine sY hS (runs_move rfl) fun _ hS => ?_
  by_cases h2 : x < -1125899906842624
  · skip
    refine sY hS (lssT rfl rfl (by omega)) fun _ hS => ?_
    refine sI hS (runs_pick rfl rfl) fun _ hS => ?_
    refine sI hS (runs_assign rfl) fun _ hS => ?_
    exact nil_ok (qx_ret (ret1 (t := 2) (by kernel_rfl) hS rfl ⟨_, rfl, by unfold great; first | (simp; done) | (simp; omega), rfl⟩))
  refine sY hS (lssF rfl rfl (by omega)) fun _ hS => ?_
  refine sI hS (runs_pick rfl rfl) fun _ hS => ?_
  refine sI hS (runs_assign rfl) fun _ hS => ?_
  exact nil_ok (qx_ret (ret1 (t := 2) (by kernel_rfl) hS rfl ⟨_, rfl, by unfold great; first | (simp; done) | (simp; omega), rfl⟩))
theorem great_is {x : Int} (w : World) {b : Bool} (h : great x = b) : Ans 42 [.int .i64 x] w (Is (.bool b) w) := h ▸ great_any x w
set_option maxHeartbeats 1000000 in
theorem rgreat_any (x : Int) (w : World) : Ans 52 [.int .i64 x] w (Is (.bool (great x)) w) := by
  refine calls_qx (args := [.int .i64 x]) 9 Tryz.func52 rfl (by kernel_rfl) (by simp) (fun a hS => ?_)
  refine qx_seq (reg_seq ?_)
  refine sI hS (runs_assign rfl) fun _ hS => ?_
  refine nil_ok (qx_seq (reg_seq ?_))
  refine sI hS (runs_move rfl) fun _ hS => ?_
  by_cases h1 : x > 1125899906842624
  · skip
    refine sI hS (gtrT rfl rfl (by omega)) fun _ hS => ?_
    refine sI hS (runs_move rfl) fun _ hS => ?_
    refine sN hS fun _ hS => ?_
    refine sN hS fun _ hS => ?_
    refine sI hS (runs_pick rfl rfl) fun _ hS => ?_
    refine sI hS (runs_assign rfl) fun _ hS => ?_
    exact nil_ok (qx_ret (ret1 (t := 2) (by kernel_rfl) hS rfl ⟨_, rfl, by unfold great; first | (simp; done) | (simp; omega), rfl⟩))
  refine sI hS (gtrF rfl rfl (by omega)) fun _ hS => ?_
  refine sI hS (runs_move rfl) fun _ hS => ?_
  refine sY hS (runs_move rfl) fun _ hS => ?_
  by_cases h2 : x < -1125899906842624
  · skip
    refine sY hS (lssT rfl rfl (by omega)) fun _ hS => ?_
    refine sI hS (runs_pick rfl rfl) fun _ hS => ?_
    refine sI hS (runs_assign rfl) fun _ hS => ?_
    exact nil_ok (qx_ret (ret1 (t := 2) (by kernel_rfl) hS rfl ⟨_, rfl, by unfold great; first | (simp; done) | (simp; omega), rfl⟩))
  refine sY hS (lssF rfl rfl (by omega)) fun _ hS => ?_
  refine sI hS (runs_pick rfl rfl) fun _ hS => ?_
  refine sI hS (runs_assign rfl) fun _ hS => ?_
  exact nil_ok (qx_ret (ret1 (t := 2) (by kernel_rfl) hS rfl ⟨_, rfl, by unfold great; first | (simp; done) | (simp; omega), rfl⟩))
theorem rgreat_is {x : Int} (w : World) {b : Bool} (h : great x = b) : Ans 52 [.int .i64 x] w (Is (.bool b) w) := h ▸ rgreat_any x w
theorem wrap64 {x : Int} (h1 : -9223372036854775808 ≤ x) (h2 : x ≤ 9223372036854775807) : IntKind.i64.wrap x = x := by simp [IntKind.wrap, IntKind.bits, IntKind.signed]; omega
theorem tdiv_up {a b : Int} (hb : 0 < b) (h : a.tmod b < 0) : a.tdiv b - 1 = a / b := by
  have h1 := Int.mul_tdiv_add_tmod a b
  have h2 : a < 0 := by
    rcases Int.lt_or_le a 0 with h3 | h3
    · exact h3
    · have := Int.tmod_nonneg b h3; omega
  have h4 : -b < a.tmod b := Int.lt_tmod_of_pos a hb
  symm
  rw [Int.ediv_eq_iff_of_pos hb]
  generalize a.tdiv b = q at *
  generalize a.tmod b = r at *
  constructor
  · rw [Int.sub_mul, Int.one_mul, Int.mul_comm]; omega
  · rw [Int.sub_mul, Int.one_mul, Int.mul_comm]; omega
theorem tdiv_ok {a b : Int} (hb : 0 < b) (h : ¬ a.tmod b < 0) : a.tdiv b = a / b := by
  have h1 := Int.mul_tdiv_add_tmod a b
  have h4 : a.tmod b < b := Int.tmod_lt_of_pos a hb
  symm
  rw [Int.ediv_eq_iff_of_pos hb]
  generalize a.tdiv b = q at *
  generalize a.tmod b = r at *
  constructor
  · rw [Int.mul_comm]; omega
  · rw [Int.mul_comm]; omega
theorem tdiv_bound {a b M : Int} (_hb : 0 < b) (h1 : -M ≤ a) (h2 : a ≤ M) : -M ≤ a.tdiv b ∧ a.tdiv b ≤ M := by
  have h := Int.natAbs_tdiv_le_natAbs a b
  omega
theorem ediv_bound {a b M : Int} (hb : 0 < b) (h1 : -M ≤ a) (h2 : a ≤ M) (hM : 0 ≤ M) : -M ≤ a / b ∧ a / b ≤ M := by
  constructor
  · rw [Int.le_ediv_iff_mul_le hb]
    have : M * 1 ≤ M * b := Int.mul_le_mul_of_nonneg_left (by omega) hM
    rw [Int.neg_mul]; omega
  · exact Int.ediv_le_of_le_mul hb (by have : M * 1 ≤ M * b := Int.mul_le_mul_of_nonneg_left (by omega) hM; omega)
theorem floor_neg {a b : Int} (hb : 0 < b) (h : a < 0) : -((-a + b - 1).tdiv b) = a / b := by
  rw [Int.tdiv_eq_ediv_of_nonneg (by omega)]
  symm
  rw [Int.ediv_eq_iff_of_pos hb]
  have h1 := Int.mul_ediv_add_emod (-a + b - 1) b
  have h2 := Int.emod_nonneg (-a + b - 1) (show b ≠ 0 by omega)
  have h3 := Int.emod_lt_of_pos (-a + b - 1) hb
  generalize (-a + b - 1) / b = q at *
  generalize (-a + b - 1) % b = r at *
  rw [Int.neg_mul, Int.mul_comm]
  constructor <;> omega
set_option maxHeartbeats 1000000 in
theorem round_any (a0 b0 : Int) (hb : 0 < b0) (h1 : -1000000000000000000 ≤ a0) (h2 : a0 ≤ 1000000000000000000) (w : World) : Ans 96 [.int .i64 a0, .int .i64 b0] w (Is (.int .i64 (a0 / b0)) w) := by
  have hd := tdiv_bound hb h1 h2
  refine calls_qx (args := [.int .i64 a0, .int .i64 b0]) 16 Tryz.func96 rfl (by kernel_rfl) (by simp) (fun a hS => ?_)
  refine qx_seq (reg_seq ?_)
  refine sI hS (runs_assign rfl) fun _ hS => ?_
  refine nil_ok (qx_seq (reg_seq ?_))
  refine sI hS (runs_move rfl) fun _ hS => ?_
  refine sI hS (runs_move rfl) fun _ hS => ?_
  refine sI hS (runs_quo (r := a0.tdiv b0) rfl rfl (by omega) (wrap64 (by omega) (by omega))) fun _ hS => ?_
  refine sI hS (runs_assign rfl) fun _ hS => ?_
  refine nil_ok (qx_seq (qx_seq (reg_seq ?_)))
  refine sI hS (runs_move rfl) fun _ hS => ?_
  refine sI hS (runs_move rfl) fun _ hS => ?_
  refine sI hS (runs_rem rfl rfl (by omega) rfl) fun _ hS => ?_
  by_cases h1 : a0.tmod b0 < 0
  · skip
    refine sI hS (lssT rfl rfl (by omega)) fun _ hS => ?_
    refine nil_ok (wp_cond_true (hS.eval rfl) (reg_seq ?_))
    refine sI hS (runs_move rfl) fun _ hS => ?_
    refine sI hS (runs_sub rfl rfl (wrap64 (by omega) (by omega))) fun _ hS => ?_
    refine sI hS (runs_assign rfl) fun _ hS => ?_
    refine nil_ok (qx_seq (reg_seq ?_))
    refine sI hS (runs_move rfl) fun _ hS => ?_
    refine sI hS (runs_assign rfl) fun _ hS => ?_
    exact nil_ok (qx_ret (ret1 (t := 4) (by kernel_rfl) hS rfl ⟨_, rfl, by rw [tdiv_up hb h1], rfl⟩))
  refine sI hS (lssF rfl rfl (by omega)) fun _ hS => ?_
  refine nil_ok (wp_cond_false (hS.eval rfl) (wp_skip (qx_seq (reg_seq ?_))))
  refine sI hS (runs_move rfl) fun _ hS => ?_
  refine sI hS (runs_assign rfl) fun _ hS => ?_
  exact nil_ok (qx_ret (ret1 (t := 4) (by kernel_rfl) hS rfl ⟨_, rfl, by rw [tdiv_ok hb h1], rfl⟩))
theorem runs_neg {P : Program} {L : List (Nat × Value)} {w : World} {ty t : TypeId} {x : Operand} {k : IntKind} {a r : Int} (hx : vals L x = some (.int k a)) (hr : k.wrap (-a) = r) : Runs P (.unOp .neg t x) ty L w (Is (.int k r) w) := fun o act K Q ho _ hL hK => by
  have ex := hL x (by simp [Op.operands]) _ hx
  unfold Oper.wp
  have : (execOp act.eval o).run P w = .ok (.value (.int k r)) w := by simp [execOp, ho, ex, Op.unary, Op.intArith, hr]
  rw [this]
  exact hK _ _ ⟨rfl, rfl⟩
set_option maxHeartbeats 1000000 in
theorem floor_any (a0 b0 : Int) (hb : 0 < b0) (hb2 : b0 ≤ 1000000000000000000) (h1 : -1000000000000000000 ≤ a0) (h2 : a0 ≤ 1000000000000000000) (w : World) : Ans 74 [.int .i64 a0, .int .i64 b0] w (Is (.int .i64 (a0 / b0)) w) := by
  have hd := tdiv_bound hb h1 h2
  have hd2 := tdiv_bound (a := -a0 + b0 - 1) (M := 3000000000000000000) hb (by omega) (by omega)
  refine calls_qx (args := [.int .i64 a0, .int .i64 b0]) 18 Tryz.func74 rfl (by kernel_rfl) (by simp) (fun a hS => ?_)
  refine qx_seq (reg_seq ?_)
  refine sI hS (runs_assign rfl) fun _ hS => ?_
  refine nil_ok (qx_seq (qx_seq (reg_seq ?_)))
  refine sI hS (runs_move rfl) fun _ hS => ?_
  by_cases k1 : a0 ≥ 0
  · skip
    refine sI hS (geqT rfl rfl (by omega)) fun _ hS => ?_
    refine nil_ok (wp_cond_true (hS.eval rfl) (qx_seq (reg_seq ?_)))
    refine sI hS (runs_move rfl) fun _ hS => ?_
    refine sI hS (runs_move rfl) fun _ hS => ?_
    refine sI hS (runs_quo (r := a0.tdiv b0) rfl rfl (by omega) (wrap64 (by omega) (by omega))) fun _ hS => ?_
    refine sI hS (runs_assign rfl) fun _ hS => ?_
    exact nil_ok (qx_ret (ret1 (t := 4) (by kernel_rfl) hS rfl ⟨_, rfl, by rw [Int.tdiv_eq_ediv_of_nonneg k1], rfl⟩))
  refine sI hS (geqF rfl rfl (by omega)) fun _ hS => ?_
  refine nil_ok (wp_cond_false (hS.eval rfl) (wp_skip (qx_seq (reg_seq ?_))))
  refine sI hS (runs_move rfl) fun _ hS => ?_
  refine sI hS (runs_neg rfl (wrap64 (by omega) (by omega))) fun _ hS => ?_
  refine sI hS (runs_move rfl) fun _ hS => ?_
  refine sI hS (runs_add rfl rfl (wrap64 (by omega) (by omega))) fun _ hS => ?_
  refine sI hS (runs_sub rfl rfl (wrap64 (by omega) (by omega))) fun _ hS => ?_
  refine sI hS (runs_move rfl) fun _ hS => ?_
  refine sI hS (runs_quo (r := (-a0 + b0 - 1).tdiv b0) rfl rfl (by omega) (wrap64 (by omega) (by omega))) fun _ hS => ?_
  refine sI hS (runs_neg rfl (wrap64 (by omega) (by omega))) fun _ hS => ?_
  refine sI hS (runs_assign rfl) fun _ hS => ?_
  exact nil_ok (qx_ret (ret1 (t := 4) (by kernel_rfl) hS rfl ⟨_, rfl, by rw [floor_neg hb (by omega)], rfl⟩))
end Go.Proofs.YtapcpmalgdhakaaGreat
