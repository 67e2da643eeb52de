/- Layer 8: small functions: values too great, comparing, closures. Conditions: none of our own. -/
import Derived.Test.YtapcpmalgdhakaaGreatFApp
import Derived.Test.YtapcpmalgdhakaaGreatSFAll
import Derived.Test.YtapcpmalgdhakaaGreatSAwake
import Derived.Test.YtapcpmalgdhakaaGreatGTwice
import Derived.Sort.Grow
import Derived.Shelf.SlSortCmp.NoneTotal
namespace Go.Proofs.YtapcpmalgdhakaaGreat
open Go.RowKit
set_option maxRecDepth 100000

theorem goes28 : Goes Tryz.prog 28 := goes_of Tryz.func28 (by kernel_rfl) rfl
theorem goes31 : Goes Tryz.prog 31 := goes_of Tryz.func31 (by kernel_rfl) rfl
theorem goes46 : Goes Tryz.prog 46 := goes_of Tryz.func46 (by kernel_rfl) rfl
theorem goes55 : Goes Tryz.prog 55 := goes_of Tryz.func55 (by kernel_rfl) rfl
theorem goes27 : Goes Tryz.prog 27 := goes_of Tryz.func27 (by kernel_rfl) rfl
theorem goes49 : Goes Tryz.prog 49 := goes_of Tryz.func49 (by kernel_rfl) rfl
theorem goes50 : Goes Tryz.prog 50 := goes_of Tryz.func50 (by kernel_rfl) rfl
theorem goes51 : Goes Tryz.prog 51 := goes_of Tryz.func51 (by kernel_rfl) rfl
theorem goes57 : Goes Tryz.prog 57 := goes_of Tryz.func57 (by kernel_rfl) rfl
theorem goes66 : Goes Tryz.prog 66 := goes_of Tryz.func66 (by kernel_rfl) rfl
theorem goes47 : Goes Tryz.prog 47 := goes_of Tryz.func47 (by kernel_rfl) rfl
theorem goes68 : Goes Tryz.prog 68 := goes_of Tryz.func68 (by kernel_rfl) rfl
theorem goes72 : Goes Tryz.prog 72 := goes_of Tryz.func72 (by kernel_rfl) rfl
theorem goes90 : Goes Tryz.prog 90 := goes_of Tryz.func90 (by kernel_rfl) rfl
set_option maxHeartbeats 1000000 in
theorem fgreat_any (x : Int) (w : World) : Ans 47 [.int .i64 x] w (Is (.bool (great x)) w) := by
  refine calls_qx (args := [.int .i64 x]) 9 Tryz.func47 rfl (by kernel_rfl) (by simp) (fun a hS => ?_)
  refine qx_seq (reg_seq ?_)
  refine sI hS (runs_assign rfl) fun _ hS => ?_
  refine nil_ok (qx_seq (reg_seq ?_))
  refine sI hS (runs_move rfl) fun _ hS => ?_
  by_cases h1 : x > 1125899906842624
  · skip
    refine sI hS (gtrT rfl rfl (by omega)) fun _ hS => ?_
    refine sI hS (runs_move rfl) fun _ hS => ?_
    refine sN hS fun _ hS => ?_
    refine sN hS fun _ hS => ?_
    refine sI hS (runs_pick rfl rfl) fun _ hS => ?_
    refine sI hS (runs_assign rfl) fun _ hS => ?_
    exact nil_ok (qx_ret (ret1 (t := 2) (by kernel_rfl) hS rfl ⟨_, rfl, by unfold great; first | (simp; done) | (simp; omega), rfl⟩))
  refine sI hS (gtrF rfl rfl (by omega)) fun _ hS => ?_
  refine sI hS (runs_move rfl) fun _ hS => ?_
  refine sY hS (runs_move rfl) fun _ hS => ?_
  by_cases h2 : x < -1125899906842624
  · skip
    refine sY hS (lssT rfl rfl (by omega)) fun _ hS => ?_
    refine sI hS (runs_pick rfl rfl) fun _ hS => ?_
    refine sI hS (runs_assign rfl) fun _ hS => ?_
    exact nil_ok (qx_ret (ret1 (t := 2) (by kernel_rfl) hS rfl ⟨_, rfl, by unfold great; first | (simp; done) | (simp; omega), rfl⟩))
  refine sY hS (lssF rfl rfl (by omega)) fun _ hS => ?_
  refine sI hS (runs_pick rfl rfl) fun _ hS => ?_
  refine sI hS (runs_assign rfl) fun _ hS => ?_
  exact nil_ok (qx_ret (ret1 (t := 2) (by kernel_rfl) hS rfl ⟨_, rfl, by unfold great; first | (simp; done) | (simp; omega), rfl⟩))
theorem fgreat_is {x : Int} (w : World) {b : Bool} (h : great x = b) : Ans 47 [.int .i64 x] w (Is (.bool b) w) := h ▸ fgreat_any x w
set_option maxHeartbeats 1000000 in
theorem sort1_any (e : E) (w : World) : Ans 51 [.agg (encE e).toArray] w (fun u w' => u = .bool true ∧ Below w.heap.size w w') := by
  refine calls_qx (args := [.agg (encE e).toArray]) 3 Tryz.func51 rfl (by kernel_rfl) (by simp) (fun a hS => ?_)
  have hB := Below.refl w.heap.size w
  refine qx_seq (reg_seq ?_)
  refine seq_op hS (by decide) (runs_boxB (cs := encE e) rfl rfl) (fun v1 w1 a1 hp hS => ?_)
  obtain ⟨rfl, hM1, hB1⟩ := hp
  have hB := hB.trans (hB1.mono hB.size)
  refine sI hS (runs_assign rfl) fun _ hS => ?_
  refine nil_ok (qx_seq (reg_seq ?_))
  refine sI hS (runs_assign rfl) fun _ hS => ?_
  exact nil_ok (qx_ret (ret1 (t := 2) (by kernel_rfl) hS rfl ⟨_, rfl, rfl, hB⟩))
set_option maxHeartbeats 1000000 in
theorem to1_any (e : E) (x : Int) (g : Nat) (w : World) (hG : Has w g 3 [.int .i64 x]) : Ans 66 [.agg (encE e).toArray, .pointer (some ⟨g, 0, none⟩)] w (fun u w' => u = .bool (e.2.1 == x) ∧ Below w.heap.size w w') := by
  refine calls_qx (args := [.agg (encE e).toArray, .pointer (some ⟨g, 0, none⟩)]) 8 Tryz.func66 rfl (by kernel_rfl) (by simp) (fun a hS => ?_)
  have hB := Below.refl w.heap.size w
  have hGb := hG
  refine qx_seq (reg_seq ?_)
  refine seq_op hS (by decide) (runs_boxB (cs := encE e) rfl rfl) (fun v1 w1 a1 hp hS => ?_)
  obtain ⟨rfl, hM1, hB1⟩ := hp
  have hB := hB.trans (hB1.mono hB.size)
  have hG := hGb.below hB hGb.lt
  refine sI hS (runs_assign rfl) fun _ hS => ?_
  refine nil_ok (qx_seq (reg_seq ?_))
  refine sI hS (runs_fieldK fo48_1 rfl) fun _ hS => ?_
  refine sI hS (runs_load rfl pl3 (hM1.at rfl)) fun _ hS => ?_
  refine sI hS (runs_load rfl pl3 (hG.at rfl)) fun _ hS => ?_
  refine sI hS (runs_eql rfl rfl rfl) fun _ hS => ?_
  refine sI hS (runs_assign rfl) fun _ hS => ?_
  exact nil_ok (qx_ret (ret1 (t := 3) (by kernel_rfl) hS rfl ⟨_, rfl, rfl, hB⟩))
set_option maxHeartbeats 1000000 in
theorem less_any (a b : E) (w : World) : Ans 57 [.agg (encE a).toArray, .agg (encE b).toArray] w (fun u w' => u = .bool (lessM a b) ∧ Below w.heap.size w w') := by
  refine calls_qx (args := [.agg (encE a).toArray, .agg (encE b).toArray]) 30 Tryz.func57 rfl (by kernel_rfl) (by simp) (fun act hS => ?_)
  have hB := Below.refl w.heap.size w
  refine qx_seq (reg_seq ?_)
  refine seq_op hS (by decide) (runs_boxB (cs := encE a) rfl rfl) (fun v1 w1 a1 hp hS => ?_)
  obtain ⟨rfl, hM1, hB1⟩ := hp
  have hB := hB.trans (hB1.mono hB.size)
  refine seq_op hS (by decide) (runs_boxB (cs := encE b) rfl rfl) (fun v3 w3 a1 hp hS => ?_)
  obtain ⟨rfl, hM3, hB3⟩ := hp
  have hB := hB.trans (hB3.mono hB.size)
  have hM1 := hM1.below hB3 hM1.lt
  refine sI hS (runs_assign rfl) fun _ hS => ?_
  refine nil_ok (qx_seq (qx_seq (reg_seq ?_)))
  refine sI hS (runs_fieldK fo48_1 rfl) fun _ hS => ?_
  refine sI hS (runs_load rfl pl3 (hM1.at rfl)) fun _ hS => ?_
  refine sI hS (runs_fieldK fo48_1 rfl) fun _ hS => ?_
  refine sI hS (runs_load rfl pl3 (hM3.at rfl)) fun _ hS => ?_
  by_cases h1 : ¬ a.2.1 = b.2.1
  · skip
    refine sI hS (runs_neq (r := true) rfl rfl (by simp [h1])) fun _ hS => ?_
    refine nil_ok (wp_cond_true (hS.eval rfl) (qx_seq (reg_seq ?_)))
    refine sI hS (runs_fieldK fo48_1 rfl) fun _ hS => ?_
    refine sI hS (runs_load rfl pl3 (hM1.at rfl)) fun _ hS => ?_
    refine sI hS (runs_fieldK fo48_1 rfl) fun _ hS => ?_
    refine sI hS (runs_load rfl pl3 (hM3.at rfl)) fun _ hS => ?_
    refine sI hS (runs_lss (r := decide (a.2.1 < b.2.1)) rfl rfl rfl) fun _ hS => ?_
    refine sI hS (runs_assign rfl) fun _ hS => ?_
    exact nil_ok (qx_ret (ret1 (t := 4) (by kernel_rfl) hS rfl ⟨_, rfl, by unfold lessM; rw [if_neg h1], hB⟩))
  refine sI hS (runs_neq (r := false) rfl rfl (by simp [Classical.not_not.1 h1])) fun _ hS => ?_
  refine nil_ok (wp_cond_false (hS.eval rfl) (wp_skip (qx_seq (qx_seq (reg_seq ?_)))))
  refine sI hS (runs_fieldK fo48_0 rfl) fun _ hS => ?_
  refine sI hS (runs_load rfl pl3 (hM1.at rfl)) fun _ hS => ?_
  refine sI hS (runs_fieldK fo48_0 rfl) fun _ hS => ?_
  refine sI hS (runs_load rfl pl3 (hM3.at rfl)) fun _ hS => ?_
  by_cases h2 : ¬ a.1 = b.1
  · skip
    refine sI hS (runs_neq (r := true) rfl rfl (by simp [h2])) fun _ hS => ?_
    refine nil_ok (wp_cond_true (hS.eval rfl) (qx_seq (reg_seq ?_)))
    refine sI hS (runs_fieldK fo48_0 rfl) fun _ hS => ?_
    refine sI hS (runs_load rfl pl3 (hM1.at rfl)) fun _ hS => ?_
    refine sI hS (runs_fieldK fo48_0 rfl) fun _ hS => ?_
    refine sI hS (runs_load rfl pl3 (hM3.at rfl)) fun _ hS => ?_
    refine sI hS (runs_lss (r := decide (a.1 < b.1)) rfl rfl rfl) fun _ hS => ?_
    refine sI hS (runs_assign rfl) fun _ hS => ?_
    exact nil_ok (qx_ret (ret1 (t := 4) (by kernel_rfl) hS rfl ⟨_, rfl, by unfold lessM; rw [if_pos (Classical.not_not.1 h1), if_neg h2], hB⟩))
  refine sI hS (runs_neq (r := false) rfl rfl (by simp [Classical.not_not.1 h2])) fun _ hS => ?_
  refine nil_ok (wp_cond_false (hS.eval rfl) (wp_skip (qx_seq (reg_seq ?_))))
  refine sI hS (runs_fieldK fo48_2 rfl) fun _ hS => ?_
  refine sI hS (runs_load rfl pl2 (hM1.at rfl)) fun _ hS => ?_
  refine sI hS (runs_fieldK fo48_2 rfl) fun _ hS => ?_
  refine sI hS (runs_load rfl pl2 (hM3.at rfl)) fun _ hS => ?_
  refine sI hS (runs_lss (r := decide (a.2.2 < b.2.2)) rfl rfl rfl) fun _ hS => ?_
  refine sI hS (runs_assign rfl) fun _ hS => ?_
  exact nil_ok (qx_ret (ret1 (t := 4) (by kernel_rfl) hS rfl ⟨_, rfl, by unfold lessM; rw [if_pos (Classical.not_not.1 h1), if_pos (Classical.not_not.1 h2)], hB⟩))
theorem less_is {a b : E} {r : Bool} (h : lessM a b = r) (w : World) : Ans 57 [.agg (encE a).toArray, .agg (encE b).toArray] w (fun u w' => u = .bool r ∧ Below w.heap.size w w') := h ▸ less_any a b w
/-- What cmp.Compare tells. -/
def cmpI (x y : Int) : Int := if x < y then -1 else if x > y then 1 else 0
set_option maxHeartbeats 1000000 in
theorem isNaN_any8 (x : Int) (w : World) : Ans 89 [.int .i64 x] w (Is (.bool false) w) := by
  refine calls_qx (args := [.int .i64 x]) 6 Tryz.func89 rfl (by kernel_rfl) (by simp) (fun a hS => ?_)
  refine qx_seq (reg_seq ?_)
  refine sI hS (runs_assign rfl) fun _ hS => ?_
  refine nil_ok (qx_seq (reg_seq ?_))
  refine sI hS (runs_move rfl) fun _ hS => ?_
  refine sI hS (runs_move rfl) fun _ hS => ?_
  refine sI hS (runs_neq (r := false) rfl rfl (by simp)) fun _ hS => ?_
  refine sI hS (runs_assign rfl) fun _ hS => ?_
  exact nil_ok (qx_ret (ret1 (t := 2) (by kernel_rfl) hS rfl ⟨_, rfl, rfl, rfl⟩))
set_option maxHeartbeats 1000000 in
theorem compare_any8 (x y : Int) (w : World) : Ans 71 [.int .i64 x, .int .i64 y] w (Is (.int .i64 (cmpI x y)) w) := by
  refine calls_qx (args := [.int .i64 x, .int .i64 y]) 20 Tryz.func71 rfl (by kernel_rfl) (by simp) (fun a hS => ?_)
  refine qx_seq (reg_seq ?_)
  refine sI hS (runs_assign rfl) fun _ hS => ?_
  refine nil_ok (qx_seq (reg_seq ?_))
  refine sI hS (runs_move rfl) fun _ hS => ?_
  refine sI hS (runs_call (args := [.int .i64 x]) goes89 rfl (isNaN_any8 x w)) fun _ hS => ?_
  refine sI hS (runs_assign rfl) fun _ hS => ?_
  refine nil_ok (qx_seq (reg_seq ?_))
  refine sI hS (runs_move rfl) fun _ hS => ?_
  refine sI hS (runs_call (args := [.int .i64 y]) goes89 rfl (isNaN_any8 y w)) fun _ hS => ?_
  refine sI hS (runs_assign rfl) fun _ hS => ?_
  refine nil_ok (qx_seq (qx_seq (reg_seq ?_)))
  refine sI hS (runs_move rfl) fun _ hS => ?_
  refine nil_ok (wp_cond_false (hS.eval rfl) (wp_skip (qx_seq (qx_seq (reg_seq ?_)))))
  refine sI hS (runs_move rfl) fun _ hS => ?_
  refine nil_ok (wp_cond_false (hS.eval rfl) (wp_skip (qx_seq (qx_seq (reg_seq ?_)))))
  refine sI hS (runs_move rfl) fun _ hS => ?_
  refine sI hS (runs_move rfl) fun _ hS => ?_
  by_cases h1 : x < y
  · skip
    refine sI hS (lssT rfl rfl (by omega)) fun _ hS => ?_
    refine nil_ok (wp_cond_true (hS.eval rfl) (qx_seq (reg_seq ?_)))
    refine sI hS (runs_assign rfl) fun _ hS => ?_
    exact nil_ok (qx_ret (ret1 (t := 4) (by kernel_rfl) hS rfl ⟨_, rfl, by rw [cmpI, if_pos h1], rfl⟩))
  refine sI hS (lssF rfl rfl (by omega)) fun _ hS => ?_
  refine nil_ok (wp_cond_false (hS.eval rfl) (wp_skip (qx_seq (qx_seq (reg_seq ?_)))))
  refine sI hS (runs_move rfl) fun _ hS => ?_
  refine sI hS (runs_move rfl) fun _ hS => ?_
  by_cases h2 : x > y
  · skip
    refine sI hS (gtrT rfl rfl (by omega)) fun _ hS => ?_
    refine nil_ok (wp_cond_true (hS.eval rfl) (qx_seq (reg_seq ?_)))
    refine sI hS (runs_assign rfl) fun _ hS => ?_
    exact nil_ok (qx_ret (ret1 (t := 4) (by kernel_rfl) hS rfl ⟨_, rfl, by rw [cmpI, if_neg h1, if_pos h2], rfl⟩))
  refine sI hS (gtrF rfl rfl (by omega)) fun _ hS => ?_
  refine nil_ok (wp_cond_false (hS.eval rfl) (wp_skip (qx_seq (reg_seq ?_))))
  refine sI hS (runs_assign rfl) fun _ hS => ?_
  exact nil_ok (qx_ret (ret1 (t := 4) (by kernel_rfl) hS rfl ⟨_, rfl, by rw [cmpI, if_neg h1, if_neg h2], rfl⟩))
set_option maxHeartbeats 1000000 in
theorem isNaN64_any (x : Int) (w : World) : Ans 90 [.int .i64 x] w (Is (.bool false) w) := by
  refine calls_qx (args := [.int .i64 x]) 6 Tryz.func90 rfl (by kernel_rfl) (by simp) (fun a hS => ?_)
  refine qx_seq (reg_seq ?_)
  refine sI hS (runs_assign rfl) fun _ hS => ?_
  refine nil_ok (qx_seq (reg_seq ?_))
  refine sI hS (runs_move rfl) fun _ hS => ?_
  refine sI hS (runs_move rfl) fun _ hS => ?_
  refine sI hS (runs_neq (r := false) rfl rfl (by simp)) fun _ hS => ?_
  refine sI hS (runs_assign rfl) fun _ hS => ?_
  exact nil_ok (qx_ret (ret1 (t := 2) (by kernel_rfl) hS rfl ⟨_, rfl, rfl, rfl⟩))
set_option maxHeartbeats 1000000 in
theorem compare64_any (x y : Int) (w : World) : Ans 72 [.int .i64 x, .int .i64 y] w (Is (.int .i64 (cmpI x y)) w) := by
  refine calls_qx (args := [.int .i64 x, .int .i64 y]) 20 Tryz.func72 rfl (by kernel_rfl) (by simp) (fun a hS => ?_)
  refine qx_seq (reg_seq ?_)
  refine sI hS (runs_assign rfl) fun _ hS => ?_
  refine nil_ok (qx_seq (reg_seq ?_))
  refine sI hS (runs_move rfl) fun _ hS => ?_
  refine sI hS (runs_call (args := [.int .i64 x]) goes90 rfl (isNaN64_any x w)) fun _ hS => ?_
  refine sI hS (runs_assign rfl) fun _ hS => ?_
  refine nil_ok (qx_seq (reg_seq ?_))
  refine sI hS (runs_move rfl) fun _ hS => ?_
  refine sI hS (runs_call (args := [.int .i64 y]) goes90 rfl (isNaN64_any y w)) fun _ hS => ?_
  refine sI hS (runs_assign rfl) fun _ hS => ?_
  refine nil_ok (qx_seq (qx_seq (reg_seq ?_)))
  refine sI hS (runs_move rfl) fun _ hS => ?_
  refine nil_ok (wp_cond_false (hS.eval rfl) (wp_skip (qx_seq (qx_seq (reg_seq ?_)))))
  refine sI hS (runs_move rfl) fun _ hS => ?_
  refine nil_ok (wp_cond_false (hS.eval rfl) (wp_skip (qx_seq (qx_seq (reg_seq ?_)))))
  refine sI hS (runs_move rfl) fun _ hS => ?_
  refine sI hS (runs_move rfl) fun _ hS => ?_
  by_cases h1 : x < y
  · skip
    refine sI hS (lssT rfl rfl (by omega)) fun _ hS => ?_
    refine nil_ok (wp_cond_true (hS.eval rfl) (qx_seq (reg_seq ?_)))
    refine sI hS (runs_assign rfl) fun _ hS => ?_
    exact nil_ok (qx_ret (ret1 (t := 4) (by kernel_rfl) hS rfl ⟨_, rfl, by rw [cmpI, if_pos h1], rfl⟩))
  refine sI hS (lssF rfl rfl (by omega)) fun _ hS => ?_
  refine nil_ok (wp_cond_false (hS.eval rfl) (wp_skip (qx_seq (qx_seq (reg_seq ?_)))))
  refine sI hS (runs_move rfl) fun _ hS => ?_
  refine sI hS (runs_move rfl) fun _ hS => ?_
  by_cases h2 : x > y
  · skip
    refine sI hS (gtrT rfl rfl (by omega)) fun _ hS => ?_
    refine nil_ok (wp_cond_true (hS.eval rfl) (qx_seq (reg_seq ?_)))
    refine sI hS (runs_assign rfl) fun _ hS => ?_
    exact nil_ok (qx_ret (ret1 (t := 4) (by kernel_rfl) hS rfl ⟨_, rfl, by rw [cmpI, if_neg h1, if_pos h2], rfl⟩))
  refine sI hS (gtrF rfl rfl (by omega)) fun _ hS => ?_
  refine nil_ok (wp_cond_false (hS.eval rfl) (wp_skip (qx_seq (reg_seq ?_))))
  refine sI hS (runs_assign rfl) fun _ hS => ?_
  exact nil_ok (qx_ret (ret1 (t := 4) (by kernel_rfl) hS rfl ⟨_, rfl, by rw [cmpI, if_neg h1, if_neg h2], rfl⟩))
end Go.Proofs.YtapcpmalgdhakaaGreat
/- Layer 8: the comparing of messages. Conditions: none of our own. -/
namespace Go.Proofs.YtapcpmalgdhakaaGreat
open Go.RowKit
set_option maxRecDepth 100000

set_option maxHeartbeats 1000000 in
theorem or_any8 (x y z : Int) (g : Nat) (w : World) (hG : Has w g 3 [.int .i64 x, .int .i64 y, .int .i64 z]) : Ans 70 [.slice (some ⟨g, 0, none⟩) 3 3] w (fun v w' => v = .int .i64 (if x = 0 then (if y = 0 then z else y) else x) ∧ w' = w) := by
  refine calls_qx (args := [.slice (some ⟨g, 0, none⟩) 3 3]) 18 Tryz.func70 rfl (by kernel_rfl) (by simp) (fun a hS => ?_)
  refine qx_seq (reg_seq ?_)
  refine seq_is hS (by decide) (runs_assign rfl) (fun a1 hS => ?_)
  refine nil_ok (qx_seq (reg_seq ?_))
  refine seq_is hS (by decide) (runs_assign rfl) (fun a1 hS => ?_)
  refine nil_ok (qx_seq (qx_seq (reg_seq ?_)))
  refine seq_is hS (by decide) (runs_move rfl) (fun a1 hS => ?_)
  refine seq_is hS (by decide) (runs_len rfl und60) (fun a1 hS => ?_)
  refine seq_is hS (by decide) (runs_move rfl) (fun a1 hS => ?_)
  refine nil_ok (qx_range (fun m a w' => ∃ i : Nat, i ≤ 3 ∧ m = 3 - i ∧ w' = w ∧ (0 < i → x = 0) ∧ (1 < i → y = 0) ∧ (2 < i → z = 0) ∧ Sees 18 [(8, .int .i64 (i : Int)), (7, .int .i64 3), (6, .slice (some ⟨g, 0, none⟩) 3 3), (3, .int .i64 0)] a) 3 ⟨0, by omega, by omega, rfl, by omega, by omega, by omega, hS.only _ ⟨rfl, rfl, rfl, rfl, trivial⟩⟩ ?_)
  rintro m a w' ⟨i, hi, rfl, rfl, hx, hy, hz, hS⟩
  refine reg_seq ?_
  by_cases hlt : i < 3
  · skip
    obtain ⟨u, hu, huu⟩ : ∃ u : Int, w'.cell? ⟨g, 0 + i, none⟩ = some (.int .i64 u) ∧ ((i = 0 ∧ u = x) ∨ (i = 1 ∧ u = y) ∨ (i = 2 ∧ u = z)) := by
      match i, hlt with
      | 0, _ => exact ⟨x, by rw [hG.cell]; rfl, .inl ⟨rfl, rfl⟩⟩
      | 1, _ => exact ⟨y, by rw [hG.cell]; rfl, .inr (.inl ⟨rfl, rfl⟩)⟩
      | 2, _ => exact ⟨z, by rw [hG.cell]; rfl, .inr (.inr ⟨rfl, rfl⟩)⟩
    refine seq_is hS (by decide) (runs_lss (r := true) rfl rfl (by rw [decide_eq_true_eq]; omega)) (fun a1 hS => ?_)
    refine nil_ok ⟨_, hS.eval rfl, fun h => by simp at h, fun _ => ?_⟩
    refine qx_seq (qx_block (qx_seq (reg_seq ?_)))
    refine seq_is hS (by decide) (runs_indexAddr (j := i) rfl rfl und60 siz3 rfl hlt) (fun a1 hS => ?_)
    refine seq_is hS (by decide) (runs_load rfl und_plain3 hu) (fun a1 hS => ?_)
    refine seq_is hS (by decide) (runs_assign rfl) (fun a1 hS => ?_)
    refine nil_ok (qx_seq (reg_seq ?_))
    refine seq_is hS (by decide) (runs_move rfl) (fun a1 hS => ?_)
    refine seq_is hS (by decide) (runs_move rfl) (fun a1 hS => ?_)
    by_cases h0 : u = 0
    · skip
      refine seq_is hS (by decide) (runs_neq (r := false) rfl rfl (by simp [h0])) (fun a1 hS => ?_)
      refine nil_ok (wp_cond_false (hS.eval rfl) (wp_skip (reg_seq ?_)))
      refine seq_is hS (by decide) (runs_add (r := ((i + 1 : Nat) : Int)) rfl rfl (by simp [IntKind.wrap, IntKind.bits, IntKind.signed]; omega)) (fun a1 hS => ?_)
      refine seq_is hS (by decide) (runs_move rfl) (fun a1 hS => ?_)
      exact nil_ok ⟨_, by omega, i + 1, by omega, rfl, rfl, by omega, by omega, by omega, hS.only _ ⟨rfl, rfl, rfl, rfl, trivial⟩⟩
    · skip
      refine seq_is hS (by decide) (runs_neq (r := true) rfl rfl (by simp [h0])) (fun a1 hS => ?_)
      refine nil_ok (wp_cond_true (hS.eval rfl) (qx_seq (reg_seq ?_)))
      refine seq_is hS (by decide) (runs_move rfl) (fun a1 hS => ?_)
      refine seq_is hS (by decide) (runs_assign rfl) (fun a1 hS => ?_)
      refine nil_ok (qx_ret (ret1 (t := 2) (by kernel_rfl) hS rfl ⟨_, rfl, ?_, rfl⟩))
      rcases huu with ⟨rfl, rfl⟩ | ⟨rfl, rfl⟩ | ⟨rfl, rfl⟩
      · rw [if_neg h0]
      · rw [if_pos (hx (by omega)), if_neg h0]
      · rw [if_pos (hx (by omega)), if_pos (hy (by omega))]
  · skip
    refine seq_is hS (by decide) (runs_lss (r := false) rfl rfl (by rw [decide_eq_false_iff_not]; omega)) (fun a1 hS => ?_)
    refine nil_ok ⟨_, hS.eval rfl, fun _ => ?_, fun h => by simp at h⟩
    refine qx_seq (reg_seq ?_)
    refine seq_is hS (by decide) (runs_move rfl) (fun a1 hS => ?_)
    refine seq_is hS (by decide) (runs_assign rfl) (fun a1 hS => ?_)
    exact nil_ok (qx_ret (ret1 (t := 2) (by kernel_rfl) hS rfl ⟨_, rfl, by rw [if_pos (hx (by omega)), if_pos (hy (by omega)), hz (by omega)], rfl⟩))
def cfM (a b : E) : Int := if cmpI a.2.1 b.2.1 = 0 then (if cmpI a.1 b.1 = 0 then cmpI a.2.2 b.2.2 else cmpI a.1 b.1) else cmpI a.2.1 b.2.1
set_option maxHeartbeats 1000000 in
theorem cmp_any8 (x y : E) (W : World) : Ans 69 [.agg (encE x).toArray, .agg (encE y).toArray] W (fun v w' => v = .int .i64 (cfM x y) ∧ Grown W w') := by
  obtain ⟨i3, hi3, hz3, hs3, hb3⟩ := info_parts inf3
  refine calls_qx (args := [.agg (encE x).toArray, .agg (encE y).toArray]) 22 Tryz.func69 rfl (by kernel_rfl) (by simp) (fun a hS => ?_)
  refine qx_seq (reg_seq ?_)
  refine seq_op hS (by decide) (runs_box rfl) (fun v1 w1 a1 hp1 hS => ?_)
  obtain ⟨rfl, hw1⟩ := hp1
  have hg1 : Grown W w1 := by rw [hw1]; exact (Grown.refl W).alloc _
  obtain ⟨hX, hB1⟩ : Has w1 W.heap.size 61 (encE x) ∧ Below W.heap.size W w1 := by rw [hw1]; exact new_box W 61 (encE x)
  clear hw1
  refine seq_op hS (by decide) (runs_box rfl) (fun v2 w2 a2 hp2 hS => ?_)
  obtain ⟨rfl, hw2⟩ := hp2
  have hg2 : Grown W w2 := by rw [hw2]; exact hg1.alloc _
  obtain ⟨hY, hB2⟩ : Has w2 w1.heap.size 61 (encE y) ∧ Below w1.heap.size w1 w2 := by rw [hw2]; exact new_box w1 61 (encE y)
  clear hw2
  have hX := hX.below hB2 hX.lt
  generalize W.heap.size = gx at *
  generalize w1.heap.size = gy at *
  refine seq_is hS (by decide) (runs_assign rfl) (fun a1 hS => ?_)
  refine nil_ok ?_
  refine qx_seq (reg_guard (fun w3 => Grown W w3 ∧ Below w2.heap.size w2 w3) [.inl (.pointer (some ⟨gx, 0 + 1, none⟩)), .inl (.int .i64 x.2.1), .inl (.pointer (some ⟨gy, 0 + 1, none⟩)), .inl (.int .i64 y.2.1), .inl (.int .i64 (cmpI x.2.1 y.2.1)), .inl (.pointer (some ⟨gx, 0 + 0, none⟩)), .inl (.int .i64 x.1), .inl (.pointer (some ⟨gy, 0 + 0, none⟩)), .inl (.int .i64 y.1), .inl (.int .i64 (cmpI x.1 y.1)), .inl (.pointer (some ⟨gx, 0 + 2, none⟩)), .inl (.int .i64 x.2.2), .inl (.pointer (some ⟨gy, 0 + 2, none⟩)), .inl (.int .i64 y.2.2), .inl (.int .i64 (cmpI x.2.2 y.2.2)), (.inr (fun v w' => ∃ g, v = .slice (some ⟨g, 0, none⟩) 3 3 ∧ Has w' g 3 [.int .i64 (cmpI x.2.1 y.2.1), .int .i64 (cmpI x.1 y.1), .int .i64 (cmpI x.2.2 y.2.2)])), .inl (.int .i64 (cfM x y)), .inl (.int .i64 (cfM x y))] 18 0 mixed rfl (by kernel_rfl) hS ⟨hg2, Below.refl _ _⟩ (fun _ h => ⟨h.1.drew, h.2.drew⟩) ?_)
  refine hs_is rfl (fun w' hw => runs_fieldK fo48_1 rfl) ?_
  refine hs_is rfl (fun w' hw => runs_load rfl pl3 ((hX.below hw.2 hX.lt).at rfl)) ?_
  refine hs_is rfl (fun w' hw => runs_fieldK fo48_1 rfl) ?_
  refine hs_is rfl (fun w' hw => runs_load rfl pl3 ((hY.below hw.2 hY.lt).at rfl)) ?_
  refine hs_is rfl (fun w' hw => runs_call (args := [.int .i64 x.2.1, .int .i64 y.2.1]) goes71 rfl (compare_any8 x.2.1 y.2.1 w')) ?_
  refine hs_is rfl (fun w' hw => runs_fieldK fo48_0 rfl) ?_
  refine hs_is rfl (fun w' hw => runs_load rfl pl3 ((hX.below hw.2 hX.lt).at rfl)) ?_
  refine hs_is rfl (fun w' hw => runs_fieldK fo48_0 rfl) ?_
  refine hs_is rfl (fun w' hw => runs_load rfl pl3 ((hY.below hw.2 hY.lt).at rfl)) ?_
  refine hs_is rfl (fun w' hw => runs_call (args := [.int .i64 x.1, .int .i64 y.1]) goes71 rfl (compare_any8 x.1 y.1 w')) ?_
  refine hs_is rfl (fun w' hw => runs_fieldK fo48_2 rfl) ?_
  refine hs_is rfl (fun w' hw => runs_load rfl pl2 ((hX.below hw.2 hX.lt).at rfl)) ?_
  refine hs_is rfl (fun w' hw => runs_fieldK fo48_2 rfl) ?_
  refine hs_is rfl (fun w' hw => runs_load rfl pl2 ((hY.below hw.2 hY.lt).at rfl)) ?_
  refine hs_is rfl (fun w' hw => runs_call (args := [.int .i64 x.2.2, .int .i64 y.2.2]) goes72 rfl (compare64_any x.2.2 y.2.2 w')) ?_
  refine hs_pr rfl (fun _ _ _ h hb => by obtain ⟨g, h1, h2⟩ := h; exact ⟨g, h1, h2.below hb h2.lt⟩) (fun w' hw hq => (runs_buildSliceG (sz := 1) (pv := [(0, .int .i64 (cmpI x.2.1 y.2.1)), (1, .int .i64 (cmpI x.1 y.1)), (2, .int .i64 (cmpI x.2.2 y.2.2))]) rfl und60 hi3 hz3 hs3 (by omega) (by omega) (cells := #[.int .i64 (cmpI x.2.1 y.2.1), .int .i64 (cmpI x.1 y.1), .int .i64 (cmpI x.2.2 y.2.2)]) (by kernel_rfl)).mono (by rintro v w3 ⟨rfl, rfl⟩; exact ⟨⟨_, rfl, Has.new w' 3 [.int .i64 (cmpI x.2.1 y.2.1), .int .i64 (cmpI x.1 y.1), .int .i64 (cmpI x.2.2 y.2.2)]⟩, ⟨hw.1.alloc _, hw.2.alloc hw.2.size _⟩, (Below.refl _ _).alloc (Nat.le_refl _) _⟩)) (fun v10 => ?_)
  refine hs_val rfl (fun w' hw hq => (by obtain ⟨g, rfl, hg⟩ := hq (15, _) List.mem_cons_self (by kernel_rfl); exact (runs_call (args := [.slice (some ⟨g, 0, none⟩) 3 3]) goes70 rfl (or_any8 _ _ _ g w' hg)).mono (by rintro v w3 ⟨rfl, rfl⟩; exact ⟨rfl, hw, Below.refl _ _⟩))) ?_
  refine hs_is rfl (fun w' hw => runs_assign rfl) ?_
  refine (fun a5 w5 hS5 hC5 _ => ?_)
  refine wpAnyH_done (by kernel_rfl) ?_ _
  exact qx_ret (ret1 (t := 4) (by kernel_rfl) hS5 rfl ⟨_, rfl, rfl, hC5.1⟩)
end Go.Proofs.YtapcpmalgdhakaaGreat
/- Layer 8: messages picked, as a list of their own; looked through; compared; copied. Conditions: none of our own. -/
namespace Go.Proofs.YtapcpmalgdhakaaGreat
open Go.RowKit
set_option maxRecDepth 100000

theorem filter_snoc8 {α : Type} {l : List α} {i : Nat} {e : α} (p : α → Bool) (h : l[i]? = some e) : (l.take (i + 1)).filter p = (l.take i).filter p ++ (if p e = true then [e] else []) := by
  rw [List.take_add_one, h, Option.toList_some, List.filter_append]
  by_cases hp : p e = true
  · rw [if_pos hp, List.filter_cons_of_pos hp]; rfl
  · rw [if_neg hp, List.filter_cons_of_neg hp]; rfl
theorem filter_take_le {α : Type} (p : α → Bool) (l : List α) (i : Nat) : ((l.take i).filter p).length ≤ i := Nat.le_trans (List.length_filter_le _ _) (by simp; omega)
set_option maxHeartbeats 1000000 in
theorem picked_any8 (es : List E) (hsm : es.length ≤ 10000) (v : Value) (kf : FuncId) (hkf : Goes Tryz.prog kf) (cf : List Value) (p : E → Bool) (w : World) (hE : Edges w v es) (hp : ∀ e w1, Below w.heap.size w w1 → Ans kf ([.agg (encE e).toArray] ++ cf) w1 (fun u w2 => u = .bool (p e) ∧ Below w1.heap.size w1 w2)) : Ans 50 [v, .func (.func kf) #[] cf.toArray] w (fun u w' => Below w.heap.size w w' ∧ w'.ownsRow w.heap.size 61 3 u (es.filter p).length (cellsE (es.filter p))) := by
  obtain ⟨A, c, rfl, h1, h2, hA⟩ := hE
  have hE : Edges w (.slice A es.length c) es := ⟨A, c, rfl, h1, h2, hA⟩
  refine calls_qx (args := [.slice A es.length c, .func (.func kf) #[] cf.toArray]) 23 Tryz.func50 rfl (by kernel_rfl) (by simp) (fun a hS => ?_)
  have hB := Below.refl w.heap.size w
  have hEb := hE
  refine qx_seq (reg_seq ?_)
  refine sI hS (runs_assign rfl) fun _ hS => ?_
  refine nil_ok (qx_seq (reg_seq ?_))
  refine sI hS (runs_assign rfl) fun _ hS => ?_
  refine nil_ok (qx_seq (qx_seq (reg_seq ?_)))
  refine sI hS (runs_move rfl) fun _ hS => ?_
  refine sI hS (runs_len rfl und32) fun _ hS => ?_
  refine sI hS (runs_move rfl) fun _ hS => ?_
  refine nil_ok (?_)
  refine qx_range (fun mm a w' => ∃ (i : Nat) (sv : Value), i ≤ es.length ∧ mm = es.length - i ∧ Below w.heap.size w w' ∧ w'.ownsRow w.heap.size 61 3 sv ((es.take i).filter p).length (cellsE ((es.take i).filter p)) ∧ Sees 23 [(10, .int .i64 (i : Int)), (9, .int .i64 ((es.length : Nat) : Int)), (8, .slice A es.length c), (5, sv), (1, .func (.func kf) #[] cf.toArray)] a) es.length ⟨0, .slice none 0 0, by omega, by omega, hB, ⟨rfl, .inl ⟨rfl, rfl⟩⟩, hS.only _ ⟨rfl, rfl, rfl, rfl, rfl, trivial⟩⟩ ?_
  clear hS 
  rintro mm a wl1 ⟨i, sv, hi1, rfl, hBb1, hown, hS⟩
  have hBsz1 := hBb1.size
  have hE := hEb.kept hBb1
  have hB := Below.refl wl1.heap.size wl1
  refine reg_seq ?_
  by_cases hlt1 : i < es.length
  · skip
    refine sI hS (lssT rfl rfl (by omega)) fun _ hS => ?_
    refine nil_ok ⟨_, hS.eval rfl, fun h => by simp at h, fun _ => ?_⟩
    obtain ⟨e, hei⟩ : ∃ e, es[i]? = some e := ⟨es[i], by simp [hlt1]⟩
    obtain ⟨b, o, rfl, hbw, hr⟩ := edges_row hE (by omega)
    have hre := edges_at hr hei
    have hfl := filter_take_le p es i
    have hownb := hown
    refine qx_seq (qx_block (qx_seq (reg_seq ?_)))
    refine sI hS (runs_indexAddrG (j := i) rfl rfl und32 sz48 rfl hlt1) fun _ hS => ?_
    refine sI hS (runs_loadM rfl hre) fun _ hS => ?_
    refine seq_op hS (by decide) (runs_allocB (cs := [.int .i64 0, .int .i64 0, .int .i64 0]) zo48 rfl) (fun v1 w1 a1 hp hS => ?_)
    obtain ⟨rfl, hM1, hB1⟩ := hp
    have hLhM1 : wl1.heap.size ≤ wl1.heap.size := hB.size
    have hB := hB.trans (hB1.mono hB.size)
    have hown := owns_kept hown hB1
    refine seq_none hS (runs_storeB (cs := encE e) rfl rfl hM1 rfl rfl sz48) (fun v3 w3 a1 hp hS => ?_)
    obtain ⟨hM1, hU3⟩ := hp
    have hB := But.new hB hU3 (fun i e => by rw [e]; exact hLhM1) (Nat.le_refl _)
    have hown := owns_kept hownb hB
    refine nil_ok (qx_seq (reg_seq ?_))
    refine sI hS (runs_move rfl) fun _ hS => ?_
    refine sI hS (runs_loadRow rfl hM1 Tryz.underlying61 rfl (by rw [sz48]; rfl)) fun _ hS => ?_
    refine seq_op hS (by decide) (runs_callv (args := [.agg (encE e).toArray]) (caps := cf) hkf rfl rfl (hp e w3 (hBb1.trans (hB.mono hBb1.size)))) (fun v5 w5 a1 hp hS => ?_)
    obtain ⟨rfl, hB5⟩ := hp
    have hB := hB.trans (hB5.mono hB.size)
    have hM1 := hM1.below hB5 hM1.lt
    have hown := owns_kept hown hB5
    refine nil_ok (?_)
    by_cases hpe : p e = true
    · skip
      rw [hpe] at hS
      refine wp_cond_true (hS.eval rfl) (reg_seq ?_)
      refine sI hS (runs_move rfl) fun _ hS => ?_
      refine sI hS (runs_loadRow rfl hM1 Tryz.underlying61 rfl (by rw [sz48]; rfl)) fun _ hS => ?_
      refine seq_op hS (by decide) (runs_oneM (e := e) rfl) (fun v7 w7 a1 hp hS => ?_)
      obtain ⟨g2, rfl, hX, hB7⟩ := hp
      have hB := hB.trans (hB7.mono hB.size)
      have hown := owns_kept hown hB7
      refine seq_op hS (by decide) (push_ownM (B := w.heap.size) (acc := ((es.take i).filter p)) (e := e) rfl hown rfl hX (by omega) (Nat.le_trans hBsz1 hB.size)) (fun v9 w9 a1 hp hS => ?_)
      obtain ⟨_, hown3, _, hB9⟩ := hp
      refine sI hS (runs_assign rfl) fun _ hS => ?_
      refine nil_ok (reg_seq ?_)
      refine sI hS (runs_add (r := ((i + 1 : Nat) : Int)) rfl rfl (by simp [IntKind.wrap, IntKind.bits, IntKind.signed]; omega)) fun _ hS => ?_
      refine sI hS (runs_move rfl) fun _ hS => ?_
      exact nil_ok ⟨_, by omega, i + 1, v9, by omega, rfl, hBb1.trans ((hB.mono hBb1.size).trans hB9), by rw [filter_snoc8 p hei, if_pos hpe, List.length_append]; exact hown3, hS.only _ ⟨rfl, rfl, rfl, rfl, rfl, trivial⟩⟩
    · skip
      rw [Bool.eq_false_iff.2 hpe] at hS
      refine wp_cond_false (hS.eval rfl) (wp_skip (reg_seq ?_))
      refine sI hS (runs_add (r := ((i + 1 : Nat) : Int)) rfl rfl (by simp [IntKind.wrap, IntKind.bits, IntKind.signed]; omega)) fun _ hS => ?_
      refine sI hS (runs_move rfl) fun _ hS => ?_
      exact nil_ok ⟨_, by omega, i + 1, sv, by omega, rfl, hBb1.trans (hB.mono hBb1.size), by rw [filter_snoc8 p hei, if_neg hpe, List.append_nil]; exact hown, hS.only _ ⟨rfl, rfl, rfl, rfl, rfl, trivial⟩⟩
  refine sI hS (lssF rfl rfl (by omega)) fun _ hS => ?_
  obtain rfl : i = es.length := by omega
  refine nil_ok ⟨_, hS.eval rfl, fun _ => ?_, fun h => by simp at h⟩
  have hB := hBb1
  rw [List.take_length] at hown
  refine qx_seq (reg_seq ?_)
  refine sI hS (runs_move rfl) fun _ hS => ?_
  refine sI hS (runs_assign rfl) fun _ hS => ?_
  exact nil_ok (qx_ret (ret1 (t := 4) (by kernel_rfl) hS rfl ⟨_, rfl, hB, hown⟩))
end Go.Proofs.YtapcpmalgdhakaaGreat
/- Layer 8: messages put in order: the library's sort with the program's own comparing. Conditions: none of our own. -/
namespace Go.Proofs.YtapcpmalgdhakaaGreat
open Go.Shelf Go.RowKit
set_option maxRecDepth 100000

def sortE_ren8 : Go.Shelf.Ren := ⟨fun | 6 => 68 | 15 => 88 | 14 => 87 | 28 => 105 | 29 => 106 | 20 => 97 | 21 => 98 | 22 => 99 | 23 => 100 | 24 => 101 | 25 => 102 | 26 => 103 | 27 => 104 | 46 => 108 | 47 => 109 | 48 => 110 | 49 => 111 | 50 => 112 | 57 => 121 | n => n, fun | 22 => 29 | 24 => 61 | 25 => 97 | 3 => 3 | 39 => 110 | 0 => 0 | 53 => 125 | 55 => 127 | 4 => 4 | 46 => 118 | 45 => 117 | 50 => 122 | 5 => 5 | 9 => 9 | 66 => 129 | 70 => 133 | 76 => 140 | 77 => 141 | n => n, fun | n => n⟩
theorem sortE8 : Go.Proofs.SlLaysF0.n6 Tryz.prog sortE_ren8 := {
  mixed := by kernel_rfl
  f6 := ⟨Tryz.f68.name, by decide, Tryz.func68.trans (congrArg some (by kernel_rfl))⟩
  f14 := ⟨Tryz.f87.name, by decide, Tryz.func87.trans (congrArg some (by kernel_rfl))⟩
  f15 := Tryz.func88.trans (congrArg some (by kernel_rfl))
  f20 := ⟨Tryz.f97.name, by decide, Tryz.func97.trans (congrArg some (by kernel_rfl))⟩
  f21 := ⟨Tryz.f98.name, by decide, Tryz.func98.trans (congrArg some (by kernel_rfl))⟩
  f22 := ⟨Tryz.f99.name, by decide, Tryz.func99.trans (congrArg some (by kernel_rfl))⟩
  f23 := ⟨Tryz.f100.name, by decide, Tryz.func100.trans (congrArg some (by kernel_rfl))⟩
  f24 := ⟨Tryz.f101.name, by decide, Tryz.func101.trans (congrArg some (by kernel_rfl))⟩
  f25 := ⟨Tryz.f102.name, by decide, Tryz.func102.trans (congrArg some (by kernel_rfl))⟩
  f26 := ⟨Tryz.f103.name, by decide, Tryz.func103.trans (congrArg some (by kernel_rfl))⟩
  f27 := ⟨Tryz.f104.name, by decide, Tryz.func104.trans (congrArg some (by kernel_rfl))⟩
  f28 := Tryz.func105.trans (congrArg some (by kernel_rfl))
  f29 := Tryz.func106.trans (congrArg some (by kernel_rfl))
  f46 := ⟨Tryz.f108.name, by decide, Tryz.func108.trans (congrArg some (by kernel_rfl))⟩
  f47 := Tryz.func109.trans (congrArg some (by kernel_rfl))
  f48 := Tryz.func110.trans (congrArg some (by kernel_rfl))
  f49 := ⟨Tryz.f111.name, by decide, Tryz.func111.trans (congrArg some (by kernel_rfl))⟩
  f50 := ⟨Tryz.f112.name, by decide, Tryz.func112.trans (congrArg some (by kernel_rfl))⟩
  f57 := ⟨Tryz.f121.name, by decide, Tryz.func121.trans (congrArg some (by kernel_rfl))⟩
  t0 := Tryz.underlying0
  a0 := Tryz.isAgg0
  z0 := Tryz.sizeOf0
  v0 := Tryz.zeroValue0
  t3 := Tryz.underlying3
  a3 := Tryz.isAgg3
  z3 := Tryz.sizeOf3
  v3 := Tryz.zeroValue3
  t4 := Tryz.underlying4
  a4 := Tryz.isAgg4
  z4 := Tryz.sizeOf4
  v4 := Tryz.zeroValue4
  t5 := Tryz.underlying5
  a5 := Tryz.isAgg5
  z5 := Tryz.sizeOf5
  v5 := Tryz.zeroValue5
  t9 := Tryz.underlying9
  a9 := Tryz.isAgg9
  z9 := Tryz.sizeOf9
  v9 := Tryz.zeroValue9
  t22 := Tryz.underlying29
  a22 := Tryz.isAgg29
  z22 := Tryz.sizeOf29
  v22 := Tryz.zeroValue29
  t25 := Tryz.underlying97
  a25 := Tryz.isAgg97
  z25 := Tryz.sizeOf97
  v25 := Tryz.zeroValue97
  t39 := Tryz.underlying110
  a39 := Tryz.isAgg110
  z39 := Tryz.sizeOf110
  v39 := Tryz.zeroValue110
  t45 := Tryz.underlying117
  a45 := Tryz.isAgg117
  z45 := Tryz.sizeOf117
  v45 := Tryz.zeroValue117
  t46 := Tryz.underlying118
  a46 := Tryz.isAgg118
  z46 := Tryz.sizeOf118
  v46 := Tryz.zeroValue118
  t50 := Tryz.underlying122
  a50 := Tryz.isAgg122
  z50 := Tryz.sizeOf122
  v50 := Tryz.zeroValue122
  t53 := Tryz.underlying125
  a53 := Tryz.isAgg125
  z53 := Tryz.sizeOf125
  v53 := Tryz.zeroValue125
  t55 := Tryz.underlying127
  a55 := Tryz.isAgg127
  z55 := Tryz.sizeOf127
  v55 := Tryz.zeroValue127
  t66 := Tryz.underlying129
  a66 := Tryz.isAgg129
  z66 := Tryz.sizeOf129
  v66 := Tryz.zeroValue129
  t70 := Tryz.underlying133
  a70 := Tryz.isAgg133
  z70 := Tryz.sizeOf133
  v70 := Tryz.zeroValue133
  t76 := Tryz.underlying140
  a76 := Tryz.isAgg140
  z76 := Tryz.sizeOf140
  v76 := Tryz.zeroValue140
  t77 := Tryz.underlying141
  a77 := Tryz.isAgg141
  z77 := Tryz.sizeOf141
  v77 := Tryz.zeroValue141 }
theorem ltM_cf (a b : E) : ltOf cfM a b = lessM a b := by
  unfold ltOf cfM cmpI lessM
  repeat' split
  all_goals first
    | (rw [decide_eq_decide]; omega)
    | (simp only [decide_eq_decide]; omega)
    | omega
theorem swoM : Sort.SWO (ltOf cfM) where
  irrefl x := by rw [ltM_cf, lessM_no]; omega
  trans x y z h1 h2 := by rw [ltM_cf, lessM_iff] at *; omega
  ntrans x y z h1 h2 := by rw [ltM_cf, lessM_no] at *; omega
theorem holdsE8 {w : World} {g : Nat} {cur : Array Value} {es : List E} (hg : w.heap[g]? = some (.cells cur 61 (0, 0))) (h : cur.toList.take (es.length * 3) = cellsE es) : Sort.HoldsK encE 3 w g 0 es.toArray := by
  intro j hj
  simp only [Sort.size_flatK, List.size_toArray] at hj
  rw [Sort.get_flatK _ _ _ _ (by simpa using hj)]
  have hq : j / 3 < es.length := by omega
  have he : es.toArray[j / 3]! = es[j / 3] := by simp [hq]
  have h1 := cellsE_get es (j / 3) es[j / 3] (List.getElem?_eq_getElem hq)
  have h2 : (cellsE es)[j]? = (encE es[j / 3])[j % 3]? := by
    rw [← h1, List.getElem?_take, if_pos (Nat.mod_lt _ (by omega)), List.getElem?_drop, show j / 3 * 3 + j % 3 = j by omega]
  have h3 : (encE es[j / 3])[j % 3]? = some (encE es[j / 3])[j % 3]! := by
    have : j % 3 < (encE es[j / 3]).length := by simp [encE]; omega
    rw [List.getElem?_eq_getElem this, getElem!_pos (encE es[j / 3]) (j % 3) this]
  rw [h3, ← h, List.getElem?_take, if_pos hj] at h2
  rw [he]
  refine ⟨?_, ?_⟩
  · simp only [World.cell?, hg, Nat.zero_add, id]; simpa using h2
  · simp [World.frozen?, hg]
theorem sorted_ofM {es : List E} {d : Array E} (hp : Sort.PermIn 0 es.toArray.size es.toArray d) (hs : Sort.SortedIn (ltOf cfM) 0 es.toArray.size d) : d.toList = sortM es := by
  obtain ⟨h1, _, h3⟩ := hp
  have e1 : (d.extract 0 es.toArray.size) = d := by rw [← h1]; simp
  have e2 : (es.toArray.extract 0 es.toArray.size) = es.toArray := by simp
  rw [e1, e2] at h3
  have hperm : d.toList.Perm es := by simpa using h3
  refine sortM_is hperm ?_
  rw [List.pairwise_iff_getElem]
  intro i j hi hj hij
  have hsz : d.toList.length = es.length := hperm.length_eq
  have := hs i j (Nat.zero_le _) hij (by simp; omega)
  have hi' : i < d.size := by simpa using hi
  have hj' : j < d.size := by simpa using hj
  rw [getElem!_pos d j hj', getElem!_pos d i hi', ltM_cf] at this
  simpa [leM] using this
set_option maxHeartbeats 1000000 in
theorem sort_any8 (es : List E) (hsm : es.length ≤ 10000) (B : Nat) (v : Value) (w : World) (hown : w.ownsRow B 61 3 v es.length (cellsE es)) : Ans 68 [v, .func (.func 69) #[] #[]] w (fun _ w' => Below B w w' ∧ EdgesB B w' v (sortM es)) := by
  rcases hown.2 with ⟨rfl, h0⟩ | ⟨g, cap, cur, rfl, hg, hh, hc1, hc2, hc3, hc4⟩
  · obtain rfl : es = [] := List.eq_nil_of_length_eq_zero h0
    have h := AnyF.slices_SortFunc_none sortE8 none 0 (.func (.func 69) #[] #[]) w
    change Calls Tryz.prog 68 _ _ _ at h
    exact h.mono (by rintro e w' ⟨rfl, rfl⟩; exact ⟨_, rfl, Below.refl _ _, edgesB_nil _ _⟩)
  · have hgl : g < w.heap.size := (Array.getElem?_eq_some_iff.1 hh).1
    have hH := holdsE8 hh hc4
    have eg : ∀ args w, (callFunc 69 args).run Tryz.prog w = .ok (.enter 69 args) w := enters_of Tryz.func69 (by kernel_rfl) rfl
    have hcmp : CmpLays Tryz.prog 69 #[] encE 3 cfM g 0 es.toArray.size w := fun _ _ _ _ x y =>
      (cmp_any8 x y _).mono (by rintro e w' ⟨v, rfl, rfl, q, os, rfl⟩; exact ⟨rfl, q, os, rfl⟩)
    have h := AnyQ.slices_SortFunc sortE8 3 Tryz.isAgg61 Tryz.sizeOf61 encE (fun _ => rfl) (fun x v hv => by simp [encE] at hv; rcases hv with rfl | rfl | rfl <;> rfl) cfM swoM 69 #[] g 0 cap es.toArray w eg hcmp hH hgl (by simp; omega)
    change Calls Tryz.prog 68 _ _ _ at h
    rw [show es.toArray.size = es.length by simp] at h
    refine h.mono ?_
    rintro e w' ⟨rfl, d, n, os, hp, hs, rfl⟩
    have hdl := sorted_ofM (by simpa using hp) (by simpa using hs)
    refine ⟨_, rfl, sortWorld_below hg (by omega), ?_⟩
    have hl : (sortM es).length = es.length := sortM_length es
    refine ⟨_, cap, by rw [hl], by omega, hc2, fun _ => ⟨g, 0, rfl, hg, ?_, ?_⟩⟩
    · have h2 := (sortWorld_below (B := 0) (w := w) (g := g) (n := n) (d := d) (os := os) (Nat.zero_le _) (Nat.zero_le _)).size
      exact Nat.lt_of_lt_of_le hgl h2
    · rw [← hdl]
      refine rangeK ?_
      unfold sortWorldK
      have hH2 := Sort.holdsK_ahead (enc := encE) (k := 3) w n g 0 es.toArray hH
      have hH3 := Sort.holdsK_putRowK (enc := encE) (k := 3) (Sort.ahead w n) g 0 es.toArray d hH2 hp.1
      exact Sort.holdsK_grow (enc := encE) (k := 3) _ os g 0 d (by simp [Sort.putRowK, Sort.putRow, Sort.mapBlock, Sort.ahead]; exact hgl) hH3
end Go.Proofs.YtapcpmalgdhakaaGreat
/- Layer 8: Sort, To, From. Conditions: none of our own. -/
namespace Go.Proofs.YtapcpmalgdhakaaGreat
open Go.RowKit
set_option maxRecDepth 100000

set_option maxHeartbeats 1000000 in
theorem ordered_any (es : List E) (hsm : es.length ≤ 10000) (B : Nat) (v : Value) (w : World) (hown : w.ownsRow B 61 3 v es.length (cellsE es)) : Ans 49 [v] w (fun u w' => Below B w w' ∧ EdgesB B w' u (sortM es)) := by
  refine calls_qx (args := [v]) 6 Tryz.func49 rfl (by kernel_rfl) (by simp) (fun a hS => ?_)
  refine qx_seq (reg_seq ?_)
  refine sI hS (runs_assign rfl) fun _ hS => ?_
  refine nil_ok (qx_seq (reg_seq ?_))
  refine sI hS (runs_move rfl) fun _ hS => ?_
  refine seq_op hS (by decide) (runs_call (args := [v, .func (.func 69) #[] #[]]) goes68 rfl (sort_any8 es hsm B v w hown)) (fun v1 w1 a1 hp hS => ?_)
  obtain ⟨hBs, hEs⟩ := hp
  refine nil_ok (qx_seq (reg_seq ?_))
  refine sI hS (runs_move rfl) fun _ hS => ?_
  refine sI hS (runs_assign rfl) fun _ hS => ?_
  exact nil_ok (qx_ret (ret1 (t := 2) (by kernel_rfl) hS rfl ⟨_, rfl, hBs, hEs⟩))
set_option maxHeartbeats 1000000 in
theorem msort_any (es : List E) (hsm : es.length ≤ 10000) (v : Value) (w : World) (hE : Edges w v es) : Ans 28 [v] w (fun u w' => Below w.heap.size w w' ∧ EdgesB w.heap.size w' u (sortM es)) := by
  refine calls_qx (args := [v]) 6 Tryz.func28 rfl (by kernel_rfl) (by simp) (fun a hS => ?_)
  have hB := Below.refl w.heap.size w
  refine qx_seq (reg_seq ?_)
  refine sI hS (runs_assign rfl) fun _ hS => ?_
  refine nil_ok (qx_seq (reg_seq ?_))
  refine sI hS (runs_move rfl) fun _ hS => ?_
  refine seq_op hS (by decide) (runs_call (args := [v, .func (.func 51) #[] #[]]) goes50 rfl (picked_any8 es hsm v 51 goes51 [] (fun _ => true) w hE (fun e w1 hw1 => sort1_any e w1))) (fun v1 w1 a1 hp hS => ?_)
  obtain ⟨hB1, hown⟩ := hp
  have hown := owns_mono hown hB.size
  have hB := hB.trans (hB1.mono hB.size)
  refine seq_op hS (by decide) (runs_call (args := [v1]) goes49 rfl (ordered_any (es.filter fun _ => true) (Nat.le_trans (List.length_filter_le _ _) hsm) w.heap.size v1 w1 hown)) (fun v3 w3 a1 hp hS => ?_)
  obtain ⟨hBs, hEs⟩ := hp
  rw [filter_tt] at hEs
  refine sI hS (runs_assign rfl) fun _ hS => ?_
  exact nil_ok (qx_ret (ret1 (t := 2) (by kernel_rfl) hS rfl ⟨_, rfl, hB.trans hBs, hEs⟩))
set_option maxHeartbeats 1000000 in
theorem to_any (es : List E) (hsm : es.length ≤ 10000) (x : Int) (v : Value) (w : World) (hE : Edges w v es) : Ans 46 [v, .int .i64 x] w (fun u w' => Below w.heap.size w w' ∧ EdgesB w.heap.size w' u (toL es x)) := by
  refine calls_qx (args := [v, .int .i64 x]) 9 Tryz.func46 rfl (by kernel_rfl) (by simp) (fun a hS => ?_)
  have hB := Below.refl w.heap.size w
  have hEb := hE
  refine qx_seq (reg_seq ?_)
  refine seq_op hS (by decide) (runs_boxB (cs := [.int .i64 x]) rfl rfl) (fun v1 w1 a1 hp hS => ?_)
  obtain ⟨rfl, hM1, hB1⟩ := hp
  have hB := hB.trans (hB1.mono hB.size)
  have hE := hEb.kept hB
  refine sI hS (runs_assign rfl) fun _ hS => ?_
  refine nil_ok (qx_seq (reg_seq ?_))
  refine sI hS (runs_move rfl) fun _ hS => ?_
  refine sI hS (runs_makeFunc (cs := [.pointer (some ⟨w.heap.size, 0, none⟩)]) rfl) fun _ hS => ?_
  refine seq_op hS (by decide) (runs_call (args := [v, .func (.func 66) #[] #[.pointer (some ⟨w.heap.size, 0, none⟩)]]) goes50 rfl (picked_any8 es hsm v 66 goes66 [.pointer (some ⟨w.heap.size, 0, none⟩)] (fun e => e.2.1 == x) w1 hE (fun e w1 hw1 => to1_any e x _ w1 (hM1.below hw1 hM1.lt)))) (fun v3 w3 a1 hp hS => ?_)
  obtain ⟨hB3, hown⟩ := hp
  have hown := owns_mono hown hB.size
  have hB := hB.trans (hB3.mono hB.size)
  refine seq_op hS (by decide) (runs_call (args := [v3]) goes49 rfl (ordered_any (es.filter fun e => e.2.1 == x) (Nat.le_trans (List.length_filter_le _ _) hsm) w.heap.size v3 w3 hown)) (fun v5 w5 a1 hp hS => ?_)
  obtain ⟨hBs, hEs⟩ := hp
  refine sI hS (runs_assign rfl) fun _ hS => ?_
  exact nil_ok (qx_ret (ret1 (t := 4) (by kernel_rfl) hS rfl ⟨_, rfl, hB.trans hBs, hEs⟩))
end Go.Proofs.YtapcpmalgdhakaaGreat
/- Layer 8: Came. Conditions: none of our own. -/
namespace Go.Proofs.YtapcpmalgdhakaaGreat
open Go.RowKit
set_option maxRecDepth 100000

/-- What is folded on, of those behind the first one. -/
def foldC (k : Nat) : Int → List E → Int × Bool × Int
  | n, [] => (n, true, 0)
  | n, m :: r => if (foldL k n m.2.2).2 ≠ 0 then (0, false, (foldL k n m.2.2).2) else foldC k (foldL k n m.2.2).1 r
def cameO (k : Nat) : List E → Int × Bool × Int
  | [] => (0, false, 0)
  | x :: r => if great x.2.2 then (0, false, 71) else foldC k x.2.2 r
/-- What messages to a vertex come to. -/
def cameL (k : Nat) (l : List E) (v : Int) : Int × Bool × Int := if k = 0 then (0, false, 70) else cameO k (toL l v)
theorem toL_length (l : List E) (v : Int) : (toL l v).length ≤ l.length := by
  unfold toL; rw [sortM_length]; exact List.length_filter_le _ _
theorem edges_drop1 {w : World} {A : Option Addr} {c : Nat} {x : E} {r : List E} (h : Edges w (.slice A (x :: r).length c) (x :: r)) : Edges w (.slice (if c = 1 then A else A.map (·.add (1 * 3))) r.length (c - 1)) r := by
  have := edges_drop h 1 (by simp)
  simpa using this
section
variable {P : Program} {L : List (Nat × Value)} {w : World} {ty : TypeId}
theorem runs_sliceRest {t e : TypeId} {x lo : Operand} {A B : Option Addr} {m c : Nat} (hx : vals L x = some (.slice A (m + 1) c)) (hlo : vals L lo = some (.int .i64 1)) (hu : P.underlying t = some (.slice e)) (hs : (P.info? e).map (·.size) = some 3) (hA : (if c = 1 then A else A.map (·.add (1 * 3))) = B) :
    Runs P (.slice t x (some lo) none none) ty L w (Is (.slice B m (c - 1)) w) := by
  have := runs_sliceFromG (ty := ty) (w := w) hx hlo (l := 1) rfl hu hs (by omega)
  rw [hA] at this
  exact this
end
set_option maxHeartbeats 1000000 in
theorem came_any (tg : ByteArray) (es : List E) (hsm : es.length ≤ 10000) (x : Int) (v : Value) (w : World) (hE : Edges w v es) : Ans 27 [.string tg, v, .int .i64 x] w (fun u w' => u = .tuple #[.int .i64 (cameL (kindL tg.data.toList) es x).1, .bool (cameL (kindL tg.data.toList) es x).2.1, .int .i64 (cameL (kindL tg.data.toList) es x).2.2] ∧ Below w.heap.size w w') := by
  refine calls_qx (args := [.string tg, v, .int .i64 x]) 49 Tryz.func27 rfl (by kernel_rfl) (by simp) (fun a hS => ?_)
  have hB := Below.refl w.heap.size w
  refine qx_seq (reg_seq ?_)
  refine sI hS (runs_assign rfl) fun _ hS => ?_
  refine sI hS (runs_assign rfl) fun _ hS => ?_
  refine sI hS (runs_assign rfl) fun _ hS => ?_
  refine nil_ok (qx_seq (qx_seq (reg_seq ?_)))
  refine sI hS (runs_move rfl) fun _ hS => ?_
  by_cases hk : (kindL tg.data.toList) ≠ 0
  · skip
    refine sI hS (runs_call (args := [.string tg]) goes40 rfl (known_is _ w (b := true) (by simpa using hk))) fun _ hS => ?_
    refine sI hS (runs_not (b := true) rfl) fun _ hS => ?_
    refine nil_ok (wp_cond_false (hS.eval rfl) (wp_skip (qx_seq (reg_seq ?_))))
    refine sI hS (runs_move rfl) fun _ hS => ?_
    refine sI hS (runs_move rfl) fun _ hS => ?_
    refine seq_op hS (by decide) (runs_call (args := [v, .int .i64 x]) goes46 rfl (to_any es hsm x v w hE)) (fun v1 w1 a1 hp hS => ?_)
    obtain ⟨hB1, hT⟩ := hp
    have hT := hT.edges
    obtain ⟨l, hl⟩ : ∃ l, toL es x = l := ⟨_, rfl⟩
    have hlen := toL_length es x
    rw [hl] at hT hlen
    obtain ⟨A, c, rfl, hc1, hc2, hA⟩ := hT
    have hT : Edges w1 (.slice A l.length c) l := ⟨A, c, rfl, hc1, hc2, hA⟩
    have hB := hB.trans (hB1.mono hB.size)
    refine sI hS (runs_assign rfl) fun _ hS => ?_
    refine nil_ok (qx_seq (qx_seq (reg_seq ?_)))
    refine sI hS (runs_move rfl) fun _ hS => ?_
    refine sI hS (runs_len rfl und32) fun _ hS => ?_
    by_cases h0 : l = []
    · skip
      refine sI hS (runs_eql (r := true) rfl rfl (by simp [h0])) fun _ hS => ?_
      refine nil_ok (wp_cond_true (hS.eval rfl) (qx_seq (reg_seq ?_)))
      refine sI hS (runs_assign rfl) fun _ hS => ?_
      refine sI hS (runs_assign rfl) fun _ hS => ?_
      refine sI hS (runs_assign rfl) fun _ hS => ?_
      have hfin : cameL (kindL tg.data.toList) es x = (0, false, 0) := by unfold cameL; rw [if_neg hk, hl, h0]; rfl
      exact nil_ok (qx_ret (ret3 (t := 6) (u := 7) (r := 8) (by kernel_rfl) hS rfl rfl rfl ⟨_, rfl, by rw [hfin], hB⟩))
    refine sI hS (runs_eql (r := false) rfl rfl (by rw [beq_eq_false_iff_ne]; intro h; exact h0 (List.eq_nil_of_length_eq_zero (by omega)))) fun _ hS => ?_
    refine nil_ok (wp_cond_false (hS.eval rfl) (wp_skip (qx_seq (?_))))
    obtain ⟨y, r, rfl⟩ : ∃ y r, l = y :: r := by cases l with | nil => exact absurd rfl h0 | cons y r => exact ⟨y, r, rfl⟩
    obtain ⟨b, o, rfl, hbw, hr⟩ := edges_row hT (by simp)
    have hry := edges_at (i := 0) hr rfl
    obtain ⟨A9, hA9⟩ : ∃ A9, (if c = 1 then some (⟨b, o, none⟩ : Addr) else (some (⟨b, o, none⟩ : Addr)).map (·.add (1 * 3))) = A9 := ⟨_, rfl⟩
    have hR := edges_drop1 hT
    rw [hA9] at hR
    have hrl : r.length ≤ 10000 := by simp at hlen; omega
    refine reg_seq ?_
    refine sI hS (runs_move rfl) fun _ hS => ?_
    refine sI hS (runs_indexAddrG (j := 0) rfl rfl und32 sz48 rfl (by simp)) fun _ hS => ?_
    refine sI hS (runs_fieldK fo48_2 rfl) fun _ hS => ?_
    refine sI hS (runs_load rfl pl2 (hry 2 _ rfl)) fun _ hS => ?_
    refine sI hS (runs_assign rfl) fun _ hS => ?_
    refine nil_ok (qx_seq (qx_seq (reg_seq ?_)))
    refine sI hS (runs_move rfl) fun _ hS => ?_
    by_cases hg : great y.2.2 = true
    · skip
      refine sI hS (runs_call (args := [.int .i64 y.2.2]) goes47 rfl (fgreat_is w1 hg)) fun _ hS => ?_
      refine nil_ok (wp_cond_true (hS.eval rfl) (qx_seq (reg_seq ?_)))
      refine sI hS (runs_assign rfl) fun _ hS => ?_
      refine sI hS (runs_assign rfl) fun _ hS => ?_
      refine sI hS (runs_assign rfl) fun _ hS => ?_
      have hfin : cameL (kindL tg.data.toList) es x = (0, false, 71) := by unfold cameL; rw [if_neg hk, hl, cameO, if_pos hg]
      exact nil_ok (qx_ret (ret3 (t := 6) (u := 7) (r := 8) (by kernel_rfl) hS rfl rfl rfl ⟨_, rfl, by rw [hfin], hB⟩))
    refine sI hS (runs_call (args := [.int .i64 y.2.2]) goes47 rfl (fgreat_is w1 (Bool.eq_false_iff.2 hg))) fun _ hS => ?_
    refine nil_ok (wp_cond_false (hS.eval rfl) (wp_skip (qx_seq (qx_seq (reg_seq ?_)))))
    refine sI hS (runs_move rfl) fun _ hS => ?_
    refine sI hS (runs_sliceRest rfl rfl und32 sz48 hA9) fun _ hS => ?_
    refine sI hS (runs_len rfl und32) fun _ hS => ?_
    refine sI hS (runs_move rfl) fun _ hS => ?_
    refine nil_ok (?_)
    have hBo1 := hB
    refine qx_range (fun mm a w' => ∃ (i : Nat) (n : Int), i ≤ r.length ∧ mm = r.length - i ∧ Below w1.heap.size w1 w' ∧ foldC (kindL tg.data.toList) y.2.2 r = foldC (kindL tg.data.toList) n (r.drop i) ∧ Sees 49 [(32, .int .i64 (i : Int)), (31, .int .i64 ((r.length : Nat) : Int)), (30, .slice A9 r.length (c - 1)), (10, .int .i64 n), (0, .string tg)] a) r.length ⟨0, y.2.2, by omega, by omega, Below.refl _ _, by simp, hS.only _ ⟨rfl, rfl, rfl, rfl, rfl, trivial⟩⟩ ?_
    clear hS
    rintro mm a wl1 ⟨i, n, hi1, rfl, hBl1, hF, hS⟩
    have hR := hR.kept hBl1
    have hB := Below.refl wl1.heap.size wl1
    refine reg_seq ?_
    by_cases hlt1 : i < r.length
    · skip
      refine sI hS (lssT rfl rfl (by omega)) fun _ hS => ?_
      refine nil_ok ⟨_, hS.eval rfl, fun h => by simp at h, fun _ => ?_⟩
      obtain ⟨e, hei⟩ : ∃ e, r[i]? = some e := ⟨r[i], by simp [hlt1]⟩
      obtain ⟨b9, o9, rfl, hbw9, hr9⟩ := edges_row hR (by omega)
      have hre := edges_at hr9 hei
      have hdr : r.drop i = e :: r.drop (i + 1) := List.drop_eq_getElem?_toList_append.trans (by rw [hei]; rfl)
      rw [hdr] at hF
      refine qx_seq (qx_block (qx_seq (reg_seq ?_)))
      refine sI hS (runs_indexAddrG (j := i) rfl rfl und32 sz48 rfl hlt1) fun _ hS => ?_
      refine sI hS (runs_loadM rfl hre) fun _ hS => ?_
      refine seq_op hS (by decide) (runs_allocB (cs := [.int .i64 0, .int .i64 0, .int .i64 0]) zo48 rfl) (fun v3 w3 a1 hp hS => ?_)
      obtain ⟨rfl, hM3, hB3⟩ := hp
      have hLhM3 : wl1.heap.size ≤ wl1.heap.size := hB.size
      have hB := hB.trans (hB3.mono hB.size)
      refine seq_none hS (runs_storeB (cs := encE e) rfl rfl hM3 rfl rfl sz48) (fun v5 w5 a1 hp hS => ?_)
      obtain ⟨hM3, hU5⟩ := hp
      have hB := But.new hB hU5 (fun i e => by rw [e]; exact hLhM3) (Nat.le_refl _)
      refine nil_ok (qx_seq (reg_seq ?_))
      refine sI hS (runs_assign rfl) fun _ hS => ?_
      refine nil_ok (qx_seq (reg_seq ?_))
      refine sI hS (runs_move rfl) fun _ hS => ?_
      refine sI hS (runs_move rfl) fun _ hS => ?_
      refine sI hS (runs_fieldK fo48_2 rfl) fun _ hS => ?_
      refine sI hS (runs_load rfl pl2 (hM3.at rfl)) fun _ hS => ?_
      refine seq_op hS (by decide) (runs_call (args := [.string tg, .int .i64 n, .int .i64 e.2.2]) goes48 rfl (fold_any tg n e.2.2 w5)) (fun v7 w7 a1 hp hS => ?_)
      obtain ⟨rfl, rfl⟩ := hp
      refine sI hS (runs_move rfl) fun _ hS => ?_
      refine sI hS (runs_extract rfl rfl) fun _ hS => ?_
      refine sI hS (runs_extract rfl rfl) fun _ hS => ?_
      refine sI hS (runs_assign rfl) fun _ hS => ?_
      refine sI hS (runs_assign rfl) fun _ hS => ?_
      refine nil_ok (qx_seq (reg_seq ?_))
      refine sI hS (runs_move rfl) fun _ hS => ?_
      by_cases he : (foldL (kindL tg.data.toList) n e.2.2).2 ≠ 0
      · skip
        refine sI hS (runs_neq (r := true) rfl rfl (by simpa using he)) fun _ hS => ?_
        refine nil_ok (wp_cond_true (hS.eval rfl) (qx_seq (reg_seq ?_)))
        refine sI hS (runs_move rfl) fun _ hS => ?_
        refine sI hS (runs_assign rfl) fun _ hS => ?_
        refine sI hS (runs_assign rfl) fun _ hS => ?_
        refine sI hS (runs_assign rfl) fun _ hS => ?_
        have hfin : cameL (kindL tg.data.toList) es x = (0, false, (foldL (kindL tg.data.toList) n e.2.2).2) := by unfold cameL; rw [if_neg hk, hl, cameO, if_neg hg, hF, foldC, if_pos he]
        exact nil_ok (qx_ret (ret3 (t := 6) (u := 7) (r := 8) (by kernel_rfl) hS rfl rfl rfl ⟨_, rfl, by rw [hfin]; rfl, hBo1.trans ((hBl1.trans ((hB).mono hBl1.size)).mono hBo1.size)⟩))
      refine sI hS (runs_neq (r := false) rfl rfl (by simpa using he)) fun _ hS => ?_
      refine nil_ok (wp_cond_false (hS.eval rfl) (wp_skip (reg_seq ?_)))
      refine sI hS (runs_add (r := ((i + 1 : Nat) : Int)) rfl rfl (by simp [IntKind.wrap, IntKind.bits, IntKind.signed]; omega)) fun _ hS => ?_
      refine sI hS (runs_move rfl) fun _ hS => ?_
      exact nil_ok ⟨_, by omega, i + 1, (foldL (kindL tg.data.toList) n e.2.2).1, by omega, rfl, hBl1.trans (hB.mono hBl1.size), by rw [hF, foldC, if_neg he], hS.only _ ⟨rfl, rfl, rfl, rfl, rfl, trivial⟩⟩
    refine sI hS (lssF rfl rfl (by omega)) fun _ hS => ?_
    obtain rfl : i = r.length := by omega
    refine nil_ok ⟨_, hS.eval rfl, fun _ => ?_, fun h => by simp at h⟩
    have hB := hBo1.trans ((hBl1.trans (hB.mono hBl1.size)).mono hBo1.size)
    rw [List.drop_length] at hF
    refine qx_seq (reg_seq ?_)
    refine sI hS (runs_move rfl) fun _ hS => ?_
    refine sI hS (runs_assign rfl) fun _ hS => ?_
    refine sI hS (runs_assign rfl) fun _ hS => ?_
    refine sI hS (runs_assign rfl) fun _ hS => ?_
    have hfin : cameL (kindL tg.data.toList) es x = (n, true, 0) := by unfold cameL; rw [if_neg hk, hl, cameO, if_neg hg, hF]; rfl
    exact nil_ok (qx_ret (ret3 (t := 6) (u := 7) (r := 8) (by kernel_rfl) hS rfl rfl rfl ⟨_, rfl, by rw [hfin], hB⟩))
  refine sI hS (runs_call (args := [.string tg]) goes40 rfl (known_is _ w (b := false) (by simpa using hk))) fun _ hS => ?_
  refine sI hS (runs_not (b := false) rfl) fun _ hS => ?_
  refine nil_ok (wp_cond_true (hS.eval rfl) (qx_seq (reg_seq ?_)))
  refine sI hS (runs_assign rfl) fun _ hS => ?_
  refine sI hS (runs_assign rfl) fun _ hS => ?_
  refine sI hS (runs_assign rfl) fun _ hS => ?_
  have hfin : cameL (kindL tg.data.toList) es x = (0, false, 70) := by unfold cameL; rw [if_pos (Classical.not_not.1 hk)]
  exact nil_ok (qx_ret (ret3 (t := 6) (u := 7) (r := 8) (by kernel_rfl) hS rfl rfl rfl ⟨_, rfl, by rw [hfin], hB⟩))
end Go.Proofs.YtapcpmalgdhakaaGreat
