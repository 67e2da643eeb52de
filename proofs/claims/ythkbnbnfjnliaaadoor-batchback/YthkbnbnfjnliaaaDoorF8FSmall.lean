/- Layer 8: small functions: values too great, comparing, closures. Conditions: none of our own. -/
import Derived.Test.YthkbnbnfjnliaaaDoorF8FApp
namespace Go.Proofs.YthkbnbnfjnliaaaDoor
open Go.RowKit
set_option maxRecDepth 100000

theorem goes46 : Goes Tryd.prog 46 := goes_of Tryd.func46 (by kernel_rfl) rfl
theorem goes47 : Goes Tryd.prog 47 := goes_of Tryd.func47 (by kernel_rfl) rfl
theorem goes48 : Goes Tryd.prog 48 := goes_of Tryd.func48 (by kernel_rfl) rfl
theorem goes62 : Goes Tryd.prog 62 := goes_of Tryd.func62 (by kernel_rfl) rfl
theorem goes63 : Goes Tryd.prog 63 := goes_of Tryd.func63 (by kernel_rfl) rfl
theorem goes65 : Goes Tryd.prog 65 := goes_of Tryd.func65 (by kernel_rfl) rfl
theorem goes66 : Goes Tryd.prog 66 := goes_of Tryd.func66 (by kernel_rfl) rfl
theorem goes67 : Goes Tryd.prog 67 := goes_of Tryd.func67 (by kernel_rfl) rfl
theorem goes76 : Goes Tryd.prog 76 := goes_of Tryd.func76 (by kernel_rfl) rfl
theorem goes77 : Goes Tryd.prog 77 := goes_of Tryd.func77 (by kernel_rfl) rfl
set_option maxHeartbeats 1000000 in
theorem sort1_any (e : E) (w : World) : Ans 48 [.agg (encE e).toArray] w (fun u w' => u = .bool true ∧ Below w.heap.size w w') := by
  refine calls_qx (args := [.agg (encE e).toArray]) 3 Tryd.func48 rfl (by kernel_rfl) (by simp) (fun a hS => ?_)
  have hB := Below.refl w.heap.size w
  refine qx_seq (reg_seq ?_)
  refine seq_op hS (by decide) (runs_boxB (cs := encE e) rfl rfl) (fun v1 w1 a1 hp hS => ?_)
  obtain ⟨rfl, hM1, hB1⟩ := hp
  have hB := hB.trans (hB1.mono hB.size)
  refine sI hS (runs_assign rfl) fun _ hS => ?_
  refine nil_ok (qx_seq (reg_seq ?_))
  refine sI hS (runs_assign rfl) fun _ hS => ?_
  exact nil_ok (qx_ret (ret1 (t := 2) (by kernel_rfl) hS rfl ⟨_, rfl, rfl, hB⟩))
set_option maxHeartbeats 1000000 in
theorem less_any (a b : E) (w : World) : Ans 62 [.agg (encE a).toArray, .agg (encE b).toArray] w (fun u w' => u = .bool (lessM a b) ∧ Below w.heap.size w w') := by
  refine calls_qx (args := [.agg (encE a).toArray, .agg (encE b).toArray]) 30 Tryd.func62 rfl (by kernel_rfl) (by simp) (fun act hS => ?_)
  have hB := Below.refl w.heap.size w
  refine qx_seq (reg_seq ?_)
  refine seq_op hS (by decide) (runs_boxB (cs := encE a) rfl rfl) (fun v1 w1 a1 hp hS => ?_)
  obtain ⟨rfl, hM1, hB1⟩ := hp
  have hB := hB.trans (hB1.mono hB.size)
  refine seq_op hS (by decide) (runs_boxB (cs := encE b) rfl rfl) (fun v3 w3 a1 hp hS => ?_)
  obtain ⟨rfl, hM3, hB3⟩ := hp
  have hB := hB.trans (hB3.mono hB.size)
  have hM1 := hM1.below hB3 hM1.lt
  refine sI hS (runs_assign rfl) fun _ hS => ?_
  refine nil_ok (qx_seq (qx_seq (reg_seq ?_)))
  refine sI hS (runs_fieldK fo41_1 rfl) fun _ hS => ?_
  refine sI hS (runs_load rfl pl3 (hM1.at rfl)) fun _ hS => ?_
  refine sI hS (runs_fieldK fo41_1 rfl) fun _ hS => ?_
  refine sI hS (runs_load rfl pl3 (hM3.at rfl)) fun _ hS => ?_
  by_cases h1 : ¬ a.2.1 = b.2.1
  · skip
    refine sI hS (runs_neq (r := true) rfl rfl (by simp [h1])) fun _ hS => ?_
    refine nil_ok (wp_cond_true (hS.eval rfl) (qx_seq (reg_seq ?_)))
    refine sI hS (runs_fieldK fo41_1 rfl) fun _ hS => ?_
    refine sI hS (runs_load rfl pl3 (hM1.at rfl)) fun _ hS => ?_
    refine sI hS (runs_fieldK fo41_1 rfl) fun _ hS => ?_
    refine sI hS (runs_load rfl pl3 (hM3.at rfl)) fun _ hS => ?_
    refine sI hS (runs_lss (r := decide (a.2.1 < b.2.1)) rfl rfl rfl) fun _ hS => ?_
    refine sI hS (runs_assign rfl) fun _ hS => ?_
    exact nil_ok (qx_ret (ret1 (t := 4) (by kernel_rfl) hS rfl ⟨_, rfl, by unfold lessM; rw [if_neg h1], hB⟩))
  refine sI hS (runs_neq (r := false) rfl rfl (by simp [Classical.not_not.1 h1])) fun _ hS => ?_
  refine nil_ok (wp_cond_false (hS.eval rfl) (wp_skip (qx_seq (qx_seq (reg_seq ?_)))))
  refine sI hS (runs_fieldK fo41_0 rfl) fun _ hS => ?_
  refine sI hS (runs_load rfl pl3 (hM1.at rfl)) fun _ hS => ?_
  refine sI hS (runs_fieldK fo41_0 rfl) fun _ hS => ?_
  refine sI hS (runs_load rfl pl3 (hM3.at rfl)) fun _ hS => ?_
  by_cases h2 : ¬ a.1 = b.1
  · skip
    refine sI hS (runs_neq (r := true) rfl rfl (by simp [h2])) fun _ hS => ?_
    refine nil_ok (wp_cond_true (hS.eval rfl) (qx_seq (reg_seq ?_)))
    refine sI hS (runs_fieldK fo41_0 rfl) fun _ hS => ?_
    refine sI hS (runs_load rfl pl3 (hM1.at rfl)) fun _ hS => ?_
    refine sI hS (runs_fieldK fo41_0 rfl) fun _ hS => ?_
    refine sI hS (runs_load rfl pl3 (hM3.at rfl)) fun _ hS => ?_
    refine sI hS (runs_lss (r := decide (a.1 < b.1)) rfl rfl rfl) fun _ hS => ?_
    refine sI hS (runs_assign rfl) fun _ hS => ?_
    exact nil_ok (qx_ret (ret1 (t := 4) (by kernel_rfl) hS rfl ⟨_, rfl, by unfold lessM; rw [if_pos (Classical.not_not.1 h1), if_neg h2], hB⟩))
  refine sI hS (runs_neq (r := false) rfl rfl (by simp [Classical.not_not.1 h2])) fun _ hS => ?_
  refine nil_ok (wp_cond_false (hS.eval rfl) (wp_skip (qx_seq (reg_seq ?_))))
  refine sI hS (runs_fieldK fo41_2 rfl) fun _ hS => ?_
  refine sI hS (runs_load rfl pl2 (hM1.at rfl)) fun _ hS => ?_
  refine sI hS (runs_fieldK fo41_2 rfl) fun _ hS => ?_
  refine sI hS (runs_load rfl pl2 (hM3.at rfl)) fun _ hS => ?_
  refine sI hS (runs_lss (r := decide (a.2.2 < b.2.2)) rfl rfl rfl) fun _ hS => ?_
  refine sI hS (runs_assign rfl) fun _ hS => ?_
  exact nil_ok (qx_ret (ret1 (t := 4) (by kernel_rfl) hS rfl ⟨_, rfl, by unfold lessM; rw [if_pos (Classical.not_not.1 h1), if_pos (Classical.not_not.1 h2)], hB⟩))
theorem less_is {a b : E} {r : Bool} (h : lessM a b = r) (w : World) : Ans 62 [.agg (encE a).toArray, .agg (encE b).toArray] w (fun u w' => u = .bool r ∧ Below w.heap.size w w') := h ▸ less_any a b w
/-- What cmp.Compare tells. -/
def cmpI (x y : Int) : Int := if x < y then -1 else if x > y then 1 else 0
set_option maxHeartbeats 1000000 in
theorem isNaN_any (x : Int) (w : World) : Ans 76 [.int .i64 x] w (Is (.bool false) w) := by
  refine calls_qx (args := [.int .i64 x]) 6 Tryd.func76 rfl (by kernel_rfl) (by simp) (fun a hS => ?_)
  refine qx_seq (reg_seq ?_)
  refine sI hS (runs_assign rfl) fun _ hS => ?_
  refine nil_ok (qx_seq (reg_seq ?_))
  refine sI hS (runs_move rfl) fun _ hS => ?_
  refine sI hS (runs_move rfl) fun _ hS => ?_
  refine sI hS (runs_neq (r := false) rfl rfl (by simp)) fun _ hS => ?_
  refine sI hS (runs_assign rfl) fun _ hS => ?_
  exact nil_ok (qx_ret (ret1 (t := 2) (by kernel_rfl) hS rfl ⟨_, rfl, rfl, rfl⟩))
set_option maxHeartbeats 1000000 in
theorem compare_any (x y : Int) (w : World) : Ans 66 [.int .i64 x, .int .i64 y] w (Is (.int .i64 (cmpI x y)) w) := by
  refine calls_qx (args := [.int .i64 x, .int .i64 y]) 20 Tryd.func66 rfl (by kernel_rfl) (by simp) (fun a hS => ?_)
  refine qx_seq (reg_seq ?_)
  refine sI hS (runs_assign rfl) fun _ hS => ?_
  refine nil_ok (qx_seq (reg_seq ?_))
  refine sI hS (runs_move rfl) fun _ hS => ?_
  refine sI hS (runs_call (args := [.int .i64 x]) goes76 rfl (isNaN_any x w)) fun _ hS => ?_
  refine sI hS (runs_assign rfl) fun _ hS => ?_
  refine nil_ok (qx_seq (reg_seq ?_))
  refine sI hS (runs_move rfl) fun _ hS => ?_
  refine sI hS (runs_call (args := [.int .i64 y]) goes76 rfl (isNaN_any y w)) fun _ hS => ?_
  refine sI hS (runs_assign rfl) fun _ hS => ?_
  refine nil_ok (qx_seq (qx_seq (reg_seq ?_)))
  refine sI hS (runs_move rfl) fun _ hS => ?_
  refine nil_ok (wp_cond_false (hS.eval rfl) (wp_skip (qx_seq (qx_seq (reg_seq ?_)))))
  refine sI hS (runs_move rfl) fun _ hS => ?_
  refine nil_ok (wp_cond_false (hS.eval rfl) (wp_skip (qx_seq (qx_seq (reg_seq ?_)))))
  refine sI hS (runs_move rfl) fun _ hS => ?_
  refine sI hS (runs_move rfl) fun _ hS => ?_
  by_cases h1 : x < y
  · skip
    refine sI hS (lssT rfl rfl (by omega)) fun _ hS => ?_
    refine nil_ok (wp_cond_true (hS.eval rfl) (qx_seq (reg_seq ?_)))
    refine sI hS (runs_assign rfl) fun _ hS => ?_
    exact nil_ok (qx_ret (ret1 (t := 4) (by kernel_rfl) hS rfl ⟨_, rfl, by rw [cmpI, if_pos h1], rfl⟩))
  refine sI hS (lssF rfl rfl (by omega)) fun _ hS => ?_
  refine nil_ok (wp_cond_false (hS.eval rfl) (wp_skip (qx_seq (qx_seq (reg_seq ?_)))))
  refine sI hS (runs_move rfl) fun _ hS => ?_
  refine sI hS (runs_move rfl) fun _ hS => ?_
  by_cases h2 : x > y
  · skip
    refine sI hS (gtrT rfl rfl (by omega)) fun _ hS => ?_
    refine nil_ok (wp_cond_true (hS.eval rfl) (qx_seq (reg_seq ?_)))
    refine sI hS (runs_assign rfl) fun _ hS => ?_
    exact nil_ok (qx_ret (ret1 (t := 4) (by kernel_rfl) hS rfl ⟨_, rfl, by rw [cmpI, if_neg h1, if_pos h2], rfl⟩))
  refine sI hS (gtrF rfl rfl (by omega)) fun _ hS => ?_
  refine nil_ok (wp_cond_false (hS.eval rfl) (wp_skip (qx_seq (reg_seq ?_))))
  refine sI hS (runs_assign rfl) fun _ hS => ?_
  exact nil_ok (qx_ret (ret1 (t := 4) (by kernel_rfl) hS rfl ⟨_, rfl, by rw [cmpI, if_neg h1, if_neg h2], rfl⟩))
set_option maxHeartbeats 1000000 in
theorem isNaN64_any (x : Int) (w : World) : Ans 77 [.int .i64 x] w (Is (.bool false) w) := by
  refine calls_qx (args := [.int .i64 x]) 6 Tryd.func77 rfl (by kernel_rfl) (by simp) (fun a hS => ?_)
  refine qx_seq (reg_seq ?_)
  refine sI hS (runs_assign rfl) fun _ hS => ?_
  refine nil_ok (qx_seq (reg_seq ?_))
  refine sI hS (runs_move rfl) fun _ hS => ?_
  refine sI hS (runs_move rfl) fun _ hS => ?_
  refine sI hS (runs_neq (r := false) rfl rfl (by simp)) fun _ hS => ?_
  refine sI hS (runs_assign rfl) fun _ hS => ?_
  exact nil_ok (qx_ret (ret1 (t := 2) (by kernel_rfl) hS rfl ⟨_, rfl, rfl, rfl⟩))
set_option maxHeartbeats 1000000 in
theorem compare64_any (x y : Int) (w : World) : Ans 67 [.int .i64 x, .int .i64 y] w (Is (.int .i64 (cmpI x y)) w) := by
  refine calls_qx (args := [.int .i64 x, .int .i64 y]) 20 Tryd.func67 rfl (by kernel_rfl) (by simp) (fun a hS => ?_)
  refine qx_seq (reg_seq ?_)
  refine sI hS (runs_assign rfl) fun _ hS => ?_
  refine nil_ok (qx_seq (reg_seq ?_))
  refine sI hS (runs_move rfl) fun _ hS => ?_
  refine sI hS (runs_call (args := [.int .i64 x]) goes77 rfl (isNaN64_any x w)) fun _ hS => ?_
  refine sI hS (runs_assign rfl) fun _ hS => ?_
  refine nil_ok (qx_seq (reg_seq ?_))
  refine sI hS (runs_move rfl) fun _ hS => ?_
  refine sI hS (runs_call (args := [.int .i64 y]) goes77 rfl (isNaN64_any y w)) fun _ hS => ?_
  refine sI hS (runs_assign rfl) fun _ hS => ?_
  refine nil_ok (qx_seq (qx_seq (reg_seq ?_)))
  refine sI hS (runs_move rfl) fun _ hS => ?_
  refine nil_ok (wp_cond_false (hS.eval rfl) (wp_skip (qx_seq (qx_seq (reg_seq ?_)))))
  refine sI hS (runs_move rfl) fun _ hS => ?_
  refine nil_ok (wp_cond_false (hS.eval rfl) (wp_skip (qx_seq (qx_seq (reg_seq ?_)))))
  refine sI hS (runs_move rfl) fun _ hS => ?_
  refine sI hS (runs_move rfl) fun _ hS => ?_
  by_cases h1 : x < y
  · skip
    refine sI hS (lssT rfl rfl (by omega)) fun _ hS => ?_
    refine nil_ok (wp_cond_true (hS.eval rfl) (qx_seq (reg_seq ?_)))
    refine sI hS (runs_assign rfl) fun _ hS => ?_
    exact nil_ok (qx_ret (ret1 (t := 4) (by kernel_rfl) hS rfl ⟨_, rfl, by rw [cmpI, if_pos h1], rfl⟩))
  refine sI hS (lssF rfl rfl (by omega)) fun _ hS => ?_
  refine nil_ok (wp_cond_false (hS.eval rfl) (wp_skip (qx_seq (qx_seq (reg_seq ?_)))))
  refine sI hS (runs_move rfl) fun _ hS => ?_
  refine sI hS (runs_move rfl) fun _ hS => ?_
  by_cases h2 : x > y
  · skip
    refine sI hS (gtrT rfl rfl (by omega)) fun _ hS => ?_
    refine nil_ok (wp_cond_true (hS.eval rfl) (qx_seq (reg_seq ?_)))
    refine sI hS (runs_assign rfl) fun _ hS => ?_
    exact nil_ok (qx_ret (ret1 (t := 4) (by kernel_rfl) hS rfl ⟨_, rfl, by rw [cmpI, if_neg h1, if_pos h2], rfl⟩))
  refine sI hS (gtrF rfl rfl (by omega)) fun _ hS => ?_
  refine nil_ok (wp_cond_false (hS.eval rfl) (wp_skip (qx_seq (reg_seq ?_))))
  refine sI hS (runs_assign rfl) fun _ hS => ?_
  exact nil_ok (qx_ret (ret1 (t := 4) (by kernel_rfl) hS rfl ⟨_, rfl, by rw [cmpI, if_neg h1, if_neg h2], rfl⟩))
end Go.Proofs.YthkbnbnfjnliaaaDoor
