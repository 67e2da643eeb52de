/- Layer 8: small functions: values too great, comparing, closures. Conditions: none of our own. -/
import Derived.Test.YtapcpmalgdhakaaFApp
import Derived.Test.YtapcpmalgdhakaaSFactsB
import Derived.Test.YtapcpmalgdhakaaSAwake
import Derived.Test.YtapcpmalgdhakaaGTwice
namespace Go.Proofs.Ytapcpmalgdhakaa
open Go.RowKit
set_option maxRecDepth 100000

theorem goes30 : Goes Try.prog 30 := goes_of Try.func30 (by kernel_rfl) rfl
theorem goes40 : Goes Try.prog 40 := goes_of Try.func40 (by kernel_rfl) rfl
theorem goes29 : Goes Try.prog 29 := goes_of Try.func29 (by kernel_rfl) rfl
theorem goes43 : Goes Try.prog 43 := goes_of Try.func43 (by kernel_rfl) rfl
theorem goes44 : Goes Try.prog 44 := goes_of Try.func44 (by kernel_rfl) rfl
theorem goes45 : Goes Try.prog 45 := goes_of Try.func45 (by kernel_rfl) rfl
theorem goes52 : Goes Try.prog 52 := goes_of Try.func52 (by kernel_rfl) rfl
theorem goes41 : Goes Try.prog 41 := goes_of Try.func41 (by kernel_rfl) rfl
theorem goes54 : Goes Try.prog 54 := goes_of Try.func54 (by kernel_rfl) rfl
theorem goes55 : Goes Try.prog 55 := goes_of Try.func55 (by kernel_rfl) rfl
theorem goes58 : Goes Try.prog 58 := goes_of Try.func58 (by kernel_rfl) rfl
theorem goes73 : Goes Try.prog 73 := goes_of Try.func73 (by kernel_rfl) rfl
set_option maxHeartbeats 1000000 in
theorem fgreat_any (x : Int) (w : World) : Ans 41 [.int .i64 x] w (Is (.bool (great x)) w) := by
  refine calls_qx (args := [.int .i64 x]) 9 Try.func41 rfl (by kernel_rfl) (by simp) (fun a hS => ?_)
  refine qx_seq (reg_seq ?_)
  refine sI hS (runs_assign rfl) fun _ hS => ?_
  refine nil_ok (qx_seq (reg_seq ?_))
  refine sI hS (runs_move rfl) fun _ hS => ?_
  by_cases h1 : x > 1125899906842624
  · skip
    refine sI hS (gtrT rfl rfl (by omega)) fun _ hS => ?_
    refine sI hS (runs_move rfl) fun _ hS => ?_
    refine sN hS fun _ hS => ?_
    refine sN hS fun _ hS => ?_
    refine sI hS (runs_pick rfl rfl) fun _ hS => ?_
    refine sI hS (runs_assign rfl) fun _ hS => ?_
    exact nil_ok (qx_ret (ret1 (t := 2) (by kernel_rfl) hS rfl ⟨_, rfl, by unfold great; first | (simp; done) | (simp; omega), rfl⟩))
  refine sI hS (gtrF rfl rfl (by omega)) fun _ hS => ?_
  refine sI hS (runs_move rfl) fun _ hS => ?_
  refine sY hS (runs_move rfl) fun _ hS => ?_
  by_cases h2 : x < -1125899906842624
  · skip
    refine sY hS (lssT rfl rfl (by omega)) fun _ hS => ?_
    refine sI hS (runs_pick rfl rfl) fun _ hS => ?_
    refine sI hS (runs_assign rfl) fun _ hS => ?_
    exact nil_ok (qx_ret (ret1 (t := 2) (by kernel_rfl) hS rfl ⟨_, rfl, by unfold great; first | (simp; done) | (simp; omega), rfl⟩))
  refine sY hS (lssF rfl rfl (by omega)) fun _ hS => ?_
  refine sI hS (runs_pick rfl rfl) fun _ hS => ?_
  refine sI hS (runs_assign rfl) fun _ hS => ?_
  exact nil_ok (qx_ret (ret1 (t := 2) (by kernel_rfl) hS rfl ⟨_, rfl, by unfold great; first | (simp; done) | (simp; omega), rfl⟩))
theorem fgreat_is {x : Int} (w : World) {b : Bool} (h : great x = b) : Ans 41 [.int .i64 x] w (Is (.bool b) w) := h ▸ fgreat_any x w
set_option maxHeartbeats 1000000 in
theorem sort1_any (e : E) (w : World) : Ans 45 [.agg (encE e).toArray] w (fun u w' => u = .bool true ∧ Below w.heap.size w w') := by
  refine calls_qx (args := [.agg (encE e).toArray]) 3 Try.func45 rfl (by kernel_rfl) (by simp) (fun a hS => ?_)
  have hB := Below.refl w.heap.size w
  refine qx_seq (reg_seq ?_)
  refine seq_op hS (by decide) (runs_boxB (cs := encE e) rfl rfl) (fun v1 w1 a1 hp hS => ?_)
  obtain ⟨rfl, hM1, hB1⟩ := hp
  have hB := hB.trans (hB1.mono hB.size)
  refine sI hS (runs_assign rfl) fun _ hS => ?_
  refine nil_ok (qx_seq (reg_seq ?_))
  refine sI hS (runs_assign rfl) fun _ hS => ?_
  exact nil_ok (qx_ret (ret1 (t := 2) (by kernel_rfl) hS rfl ⟨_, rfl, rfl, hB⟩))
set_option maxHeartbeats 1000000 in
theorem to1_any (e : E) (x : Int) (g : Nat) (w : World) (hG : Has w g 3 [.int .i64 x]) : Ans 52 [.agg (encE e).toArray, .pointer (some ⟨g, 0, none⟩)] w (fun u w' => u = .bool (e.2.1 == x) ∧ Below w.heap.size w w') := by
  refine calls_qx (args := [.agg (encE e).toArray, .pointer (some ⟨g, 0, none⟩)]) 8 Try.func52 rfl (by kernel_rfl) (by simp) (fun a hS => ?_)
  have hB := Below.refl w.heap.size w
  have hGb := hG
  refine qx_seq (reg_seq ?_)
  refine seq_op hS (by decide) (runs_boxB (cs := encE e) rfl rfl) (fun v1 w1 a1 hp hS => ?_)
  obtain ⟨rfl, hM1, hB1⟩ := hp
  have hB := hB.trans (hB1.mono hB.size)
  have hG := hGb.below hB hGb.lt
  refine sI hS (runs_assign rfl) fun _ hS => ?_
  refine nil_ok (qx_seq (reg_seq ?_))
  refine sI hS (runs_fieldK fo48_1 rfl) fun _ hS => ?_
  refine sI hS (runs_load rfl pl3 (hM1.at rfl)) fun _ hS => ?_
  refine sI hS (runs_load rfl pl3 (hG.at rfl)) fun _ hS => ?_
  refine sI hS (runs_eql rfl rfl rfl) fun _ hS => ?_
  refine sI hS (runs_assign rfl) fun _ hS => ?_
  exact nil_ok (qx_ret (ret1 (t := 3) (by kernel_rfl) hS rfl ⟨_, rfl, rfl, hB⟩))
/-- What cmp.Compare tells. -/
def cmpI (x y : Int) : Int := if x < y then -1 else if x > y then 1 else 0
set_option maxHeartbeats 1000000 in
theorem isNaN_any8 (x : Int) (w : World) : Ans 72 [.int .i64 x] w (Is (.bool false) w) := by
  refine calls_qx (args := [.int .i64 x]) 6 Try.func72 rfl (by kernel_rfl) (by simp) (fun a hS => ?_)
  refine qx_seq (reg_seq ?_)
  refine sI hS (runs_assign rfl) fun _ hS => ?_
  refine nil_ok (qx_seq (reg_seq ?_))
  refine sI hS (runs_move rfl) fun _ hS => ?_
  refine sI hS (runs_move rfl) fun _ hS => ?_
  refine sI hS (runs_neq (r := false) rfl rfl (by simp)) fun _ hS => ?_
  refine sI hS (runs_assign rfl) fun _ hS => ?_
  exact nil_ok (qx_ret (ret1 (t := 2) (by kernel_rfl) hS rfl ⟨_, rfl, rfl, rfl⟩))
set_option maxHeartbeats 1000000 in
theorem compare_any8 (x y : Int) (w : World) : Ans 57 [.int .i64 x, .int .i64 y] w (Is (.int .i64 (cmpI x y)) w) := by
  refine calls_qx (args := [.int .i64 x, .int .i64 y]) 20 Try.func57 rfl (by kernel_rfl) (by simp) (fun a hS => ?_)
  refine qx_seq (reg_seq ?_)
  refine sI hS (runs_assign rfl) fun _ hS => ?_
  refine nil_ok (qx_seq (reg_seq ?_))
  refine sI hS (runs_move rfl) fun _ hS => ?_
  refine sI hS (runs_call (args := [.int .i64 x]) goes72 rfl (isNaN_any8 x w)) fun _ hS => ?_
  refine sI hS (runs_assign rfl) fun _ hS => ?_
  refine nil_ok (qx_seq (reg_seq ?_))
  refine sI hS (runs_move rfl) fun _ hS => ?_
  refine sI hS (runs_call (args := [.int .i64 y]) goes72 rfl (isNaN_any8 y w)) fun _ hS => ?_
  refine sI hS (runs_assign rfl) fun _ hS => ?_
  refine nil_ok (qx_seq (qx_seq (reg_seq ?_)))
  refine sI hS (runs_move rfl) fun _ hS => ?_
  refine nil_ok (wp_cond_false (hS.eval rfl) (wp_skip (qx_seq (qx_seq (reg_seq ?_)))))
  refine sI hS (runs_move rfl) fun _ hS => ?_
  refine nil_ok (wp_cond_false (hS.eval rfl) (wp_skip (qx_seq (qx_seq (reg_seq ?_)))))
  refine sI hS (runs_move rfl) fun _ hS => ?_
  refine sI hS (runs_move rfl) fun _ hS => ?_
  by_cases h1 : x < y
  · skip
    refine sI hS (lssT rfl rfl (by omega)) fun _ hS => ?_
    refine nil_ok (wp_cond_true (hS.eval rfl) (qx_seq (reg_seq ?_)))
    refine sI hS (runs_assign rfl) fun _ hS => ?_
    exact nil_ok (qx_ret (ret1 (t := 4) (by kernel_rfl) hS rfl ⟨_, rfl, by rw [cmpI, if_pos h1], rfl⟩))
  refine sI hS (lssF rfl rfl (by omega)) fun _ hS => ?_
  refine nil_ok (wp_cond_false (hS.eval rfl) (wp_skip (qx_seq (qx_seq (reg_seq ?_)))))
  refine sI hS (runs_move rfl) fun _ hS => ?_
  refine sI hS (runs_move rfl) fun _ hS => ?_
  by_cases h2 : x > y
  · skip
    refine sI hS (gtrT rfl rfl (by omega)) fun _ hS => ?_
    refine nil_ok (wp_cond_true (hS.eval rfl) (qx_seq (reg_seq ?_)))
    refine sI hS (runs_assign rfl) fun _ hS => ?_
    exact nil_ok (qx_ret (ret1 (t := 4) (by kernel_rfl) hS rfl ⟨_, rfl, by rw [cmpI, if_neg h1, if_pos h2], rfl⟩))
  refine sI hS (gtrF rfl rfl (by omega)) fun _ hS => ?_
  refine nil_ok (wp_cond_false (hS.eval rfl) (wp_skip (qx_seq (reg_seq ?_))))
  refine sI hS (runs_assign rfl) fun _ hS => ?_
  exact nil_ok (qx_ret (ret1 (t := 4) (by kernel_rfl) hS rfl ⟨_, rfl, by rw [cmpI, if_neg h1, if_neg h2], rfl⟩))
set_option maxHeartbeats 1000000 in
theorem isNaN64_any (x : Int) (w : World) : Ans 73 [.int .i64 x] w (Is (.bool false) w) := by
  refine calls_qx (args := [.int .i64 x]) 6 Try.func73 rfl (by kernel_rfl) (by simp) (fun a hS => ?_)
  refine qx_seq (reg_seq ?_)
  refine sI hS (runs_assign rfl) fun _ hS => ?_
  refine nil_ok (qx_seq (reg_seq ?_))
  refine sI hS (runs_move rfl) fun _ hS => ?_
  refine sI hS (runs_move rfl) fun _ hS => ?_
  refine sI hS (runs_neq (r := false) rfl rfl (by simp)) fun _ hS => ?_
  refine sI hS (runs_assign rfl) fun _ hS => ?_
  exact nil_ok (qx_ret (ret1 (t := 2) (by kernel_rfl) hS rfl ⟨_, rfl, rfl, rfl⟩))
set_option maxHeartbeats 1000000 in
theorem compare64_any (x y : Int) (w : World) : Ans 58 [.int .i64 x, .int .i64 y] w (Is (.int .i64 (cmpI x y)) w) := by
  refine calls_qx (args := [.int .i64 x, .int .i64 y]) 20 Try.func58 rfl (by kernel_rfl) (by simp) (fun a hS => ?_)
  refine qx_seq (reg_seq ?_)
  refine sI hS (runs_assign rfl) fun _ hS => ?_
  refine nil_ok (qx_seq (reg_seq ?_))
  refine sI hS (runs_move rfl) fun _ hS => ?_
  refine sI hS (runs_call (args := [.int .i64 x]) goes73 rfl (isNaN64_any x w)) fun _ hS => ?_
  refine sI hS (runs_assign rfl) fun _ hS => ?_
  refine nil_ok (qx_seq (reg_seq ?_))
  refine sI hS (runs_move rfl) fun _ hS => ?_
  refine sI hS (runs_call (args := [.int .i64 y]) goes73 rfl (isNaN64_any y w)) fun _ hS => ?_
  refine sI hS (runs_assign rfl) fun _ hS => ?_
  refine nil_ok (qx_seq (qx_seq (reg_seq ?_)))
  refine sI hS (runs_move rfl) fun _ hS => ?_
  refine nil_ok (wp_cond_false (hS.eval rfl) (wp_skip (qx_seq (qx_seq (reg_seq ?_)))))
  refine sI hS (runs_move rfl) fun _ hS => ?_
  refine nil_ok (wp_cond_false (hS.eval rfl) (wp_skip (qx_seq (qx_seq (reg_seq ?_)))))
  refine sI hS (runs_move rfl) fun _ hS => ?_
  refine sI hS (runs_move rfl) fun _ hS => ?_
  by_cases h1 : x < y
  · skip
    refine sI hS (lssT rfl rfl (by omega)) fun _ hS => ?_
    refine nil_ok (wp_cond_true (hS.eval rfl) (qx_seq (reg_seq ?_)))
    refine sI hS (runs_assign rfl) fun _ hS => ?_
    exact nil_ok (qx_ret (ret1 (t := 4) (by kernel_rfl) hS rfl ⟨_, rfl, by rw [cmpI, if_pos h1], rfl⟩))
  refine sI hS (lssF rfl rfl (by omega)) fun _ hS => ?_
  refine nil_ok (wp_cond_false (hS.eval rfl) (wp_skip (qx_seq (qx_seq (reg_seq ?_)))))
  refine sI hS (runs_move rfl) fun _ hS => ?_
  refine sI hS (runs_move rfl) fun _ hS => ?_
  by_cases h2 : x > y
  · skip
    refine sI hS (gtrT rfl rfl (by omega)) fun _ hS => ?_
    refine nil_ok (wp_cond_true (hS.eval rfl) (qx_seq (reg_seq ?_)))
    refine sI hS (runs_assign rfl) fun _ hS => ?_
    exact nil_ok (qx_ret (ret1 (t := 4) (by kernel_rfl) hS rfl ⟨_, rfl, by rw [cmpI, if_neg h1, if_pos h2], rfl⟩))
  refine sI hS (gtrF rfl rfl (by omega)) fun _ hS => ?_
  refine nil_ok (wp_cond_false (hS.eval rfl) (wp_skip (qx_seq (reg_seq ?_))))
  refine sI hS (runs_assign rfl) fun _ hS => ?_
  exact nil_ok (qx_ret (ret1 (t := 4) (by kernel_rfl) hS rfl ⟨_, rfl, by rw [cmpI, if_neg h1, if_neg h2], rfl⟩))
end Go.Proofs.Ytapcpmalgdhakaa
