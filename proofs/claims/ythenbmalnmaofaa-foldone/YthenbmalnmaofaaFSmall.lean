/- Layer 8: small functions: values too great, comparing, closures. Conditions: none of our own. -/
import Derived.Test.YthenbmalnmaofaaFApp
import Derived.Test.YthenbmalnmaofaaQCode
import Derived.Test.YthenbmalnmaofaaGTwice
namespace Go.Proofs.Ythenbmalnmaofaa
open Go.RowKit
set_option maxRecDepth 100000

theorem goes11 : Goes Try.prog 11 := goes_of Try.func11 (by kernel_rfl) rfl
theorem goes12 : Goes Try.prog 12 := goes_of Try.func12 (by kernel_rfl) rfl
theorem goes13 : Goes Try.prog 13 := goes_of Try.func13 (by kernel_rfl) rfl
theorem goes14 : Goes Try.prog 14 := goes_of Try.func14 (by kernel_rfl) rfl
theorem goes15 : Goes Try.prog 15 := goes_of Try.func15 (by kernel_rfl) rfl
theorem goes16 : Goes Try.prog 16 := goes_of Try.func16 (by kernel_rfl) rfl
theorem goes17 : Goes Try.prog 17 := goes_of Try.func17 (by kernel_rfl) rfl
theorem goes18 : Goes Try.prog 18 := goes_of Try.func18 (by kernel_rfl) rfl
theorem goes19 : Goes Try.prog 19 := goes_of Try.func19 (by kernel_rfl) rfl
theorem goes20 : Goes Try.prog 20 := goes_of Try.func20 (by kernel_rfl) rfl
theorem goes21 : Goes Try.prog 21 := goes_of Try.func21 (by kernel_rfl) rfl
theorem goes9 : Goes Try.prog 9 := goes_of Try.func9 (by kernel_rfl) rfl
theorem goes24 : Goes Try.prog 24 := goes_of Try.func24 (by kernel_rfl) rfl
theorem goes26 : Goes Try.prog 26 := goes_of Try.func26 (by kernel_rfl) rfl
theorem goes27 : Goes Try.prog 27 := goes_of Try.func27 (by kernel_rfl) rfl
theorem goes28 : Goes Try.prog 28 := goes_of Try.func28 (by kernel_rfl) rfl
theorem goes29 : Goes Try.prog 29 := goes_of Try.func29 (by kernel_rfl) rfl
theorem goes30 : Goes Try.prog 30 := goes_of Try.func30 (by kernel_rfl) rfl
theorem goes31 : Goes Try.prog 31 := goes_of Try.func31 (by kernel_rfl) rfl
theorem goes35 : Goes Try.prog 35 := goes_of Try.func35 (by kernel_rfl) rfl
theorem goes37 : Goes Try.prog 37 := goes_of Try.func37 (by kernel_rfl) rfl
theorem goes40 : Goes Try.prog 40 := goes_of Try.func40 (by kernel_rfl) rfl
theorem goes43 : Goes Try.prog 43 := goes_of Try.func43 (by kernel_rfl) rfl
theorem goes44 : Goes Try.prog 44 := goes_of Try.func44 (by kernel_rfl) rfl
theorem goes45 : Goes Try.prog 45 := goes_of Try.func45 (by kernel_rfl) rfl
theorem goes46 : Goes Try.prog 46 := goes_of Try.func46 (by kernel_rfl) rfl
theorem goes47 : Goes Try.prog 47 := goes_of Try.func47 (by kernel_rfl) rfl
theorem goes50 : Goes Try.prog 50 := goes_of Try.func50 (by kernel_rfl) rfl
theorem goes57 : Goes Try.prog 57 := goes_of Try.func57 (by kernel_rfl) rfl
theorem goes58 : Goes Try.prog 58 := goes_of Try.func58 (by kernel_rfl) rfl
set_option maxHeartbeats 1000000 in
theorem fgreat_any (x : Int) (w : World) : Ans 40 [.int .i64 x] w (Is (.bool (great x)) w) := by
  refine calls_qx (args := [.int .i64 x]) 9 Try.func40 rfl (by kernel_rfl) (by simp) (fun a hS => ?_)
  refine qx_seq (reg_seq ?_)
  refine sI hS (runs_assign rfl) fun _ hS => ?_
  refine nil_ok (qx_seq (reg_seq ?_))
  refine sI hS (runs_move rfl) fun _ hS => ?_
  by_cases h1 : x > 1125899906842624
  · skip
    refine sI hS (gtrT rfl rfl (by omega)) fun _ hS => ?_
    refine sI hS (runs_move rfl) fun _ hS => ?_
    refine sN hS fun _ hS => ?_
    refine sN hS fun _ hS => ?_
    refine sI hS (runs_pick rfl rfl) fun _ hS => ?_
    refine sI hS (runs_assign rfl) fun _ hS => ?_
    exact nil_ok (qx_ret (ret1 (t := 2) (by kernel_rfl) hS rfl ⟨_, rfl, by unfold great; first | (simp; done) | (simp; omega), rfl⟩))
  refine sI hS (gtrF rfl rfl (by omega)) fun _ hS => ?_
  refine sI hS (runs_move rfl) fun _ hS => ?_
  refine sY hS (runs_move rfl) fun _ hS => ?_
  by_cases h2 : x < -1125899906842624
  · skip
    refine sY hS (lssT rfl rfl (by omega)) fun _ hS => ?_
    refine sI hS (runs_pick rfl rfl) fun _ hS => ?_
    refine sI hS (runs_assign rfl) fun _ hS => ?_
    exact nil_ok (qx_ret (ret1 (t := 2) (by kernel_rfl) hS rfl ⟨_, rfl, by unfold great; first | (simp; done) | (simp; omega), rfl⟩))
  refine sY hS (lssF rfl rfl (by omega)) fun _ hS => ?_
  refine sI hS (runs_pick rfl rfl) fun _ hS => ?_
  refine sI hS (runs_assign rfl) fun _ hS => ?_
  exact nil_ok (qx_ret (ret1 (t := 2) (by kernel_rfl) hS rfl ⟨_, rfl, by unfold great; first | (simp; done) | (simp; omega), rfl⟩))
theorem fgreat_is {x : Int} (w : World) {b : Bool} (h : great x = b) : Ans 40 [.int .i64 x] w (Is (.bool b) w) := h ▸ fgreat_any x w
set_option maxHeartbeats 1000000 in
theorem vertex_any (n x : Int) (v : Value) (w : World) : Ans 50 [gv n v, .int .i64 x] w (fun u w' => u = .bool (decide (0 ≤ x) && decide (x < n)) ∧ Below w.heap.size w w') := by
  refine calls_qx (args := [gv n (v), .int .i64 x]) 13 Try.func50 rfl (by kernel_rfl) (by simp) (fun a hS => ?_)
  have hB := Below.refl w.heap.size w
  refine qx_seq (reg_seq ?_)
  refine seq_op hS (by decide) (runs_boxB (cs := [.int .i64 n, v]) rfl rfl) (fun v1 w1 a1 hp hS => ?_)
  obtain ⟨rfl, hM1, hB1⟩ := hp
  have hB := hB.trans (hB1.mono hB.size)
  refine sI hS (runs_assign rfl) fun _ hS => ?_
  refine nil_ok (qx_seq (reg_seq ?_))
  refine sI hS (runs_move rfl) fun _ hS => ?_
  by_cases h1 : x ≥ 0
  · skip
    refine sI hS (geqT rfl rfl (by omega)) fun _ hS => ?_
    refine sI hS (runs_move rfl) fun _ hS => ?_
    refine sY hS (runs_move rfl) fun _ hS => ?_
    refine sY hS (runs_fieldK fo30_0 rfl) fun _ hS => ?_
    refine sY hS (runs_load rfl pl3 (hM1.at rfl)) fun _ hS => ?_
    by_cases h2 : x < n
    · skip
      refine sY hS (lssT rfl rfl (by omega)) fun _ hS => ?_
      refine sI hS (runs_pick rfl rfl) fun _ hS => ?_
      refine sI hS (runs_assign rfl) fun _ hS => ?_
      exact nil_ok (qx_ret (ret1 (t := 4) (by kernel_rfl) hS rfl ⟨_, rfl, by first | (simp; done) | (simp; omega), hB⟩))
    refine sY hS (lssF rfl rfl (by omega)) fun _ hS => ?_
    refine sI hS (runs_pick rfl rfl) fun _ hS => ?_
    refine sI hS (runs_assign rfl) fun _ hS => ?_
    exact nil_ok (qx_ret (ret1 (t := 4) (by kernel_rfl) hS rfl ⟨_, rfl, by first | (simp; done) | (simp; omega), hB⟩))
  refine sI hS (geqF rfl rfl (by omega)) fun _ hS => ?_
  refine sI hS (runs_move rfl) fun _ hS => ?_
  refine sN hS fun _ hS => ?_
  refine sN hS fun _ hS => ?_
  refine sN hS fun _ hS => ?_
  refine sN hS fun _ hS => ?_
  refine sI hS (runs_pick rfl rfl) fun _ hS => ?_
  refine sI hS (runs_assign rfl) fun _ hS => ?_
  exact nil_ok (qx_ret (ret1 (t := 4) (by kernel_rfl) hS rfl ⟨_, rfl, by first | (simp; done) | (simp; omega), hB⟩))
theorem vertex_is {n x : Int} {v : Value} (w : World) {b : Bool} (h : (decide (0 ≤ x) && decide (x < n)) = b) : Ans 50 [gv n v, .int .i64 x] w (fun u w' => u = .bool b ∧ Below w.heap.size w w') := h ▸ vertex_any n x v w
set_option maxHeartbeats 1000000 in
theorem sort1_any (e : E) (w : World) : Ans 28 [.agg (encE e).toArray] w (fun u w' => u = .bool true ∧ Below w.heap.size w w') := by
  refine calls_qx (args := [.agg (encE e).toArray]) 3 Try.func28 rfl (by kernel_rfl) (by simp) (fun a hS => ?_)
  have hB := Below.refl w.heap.size w
  refine qx_seq (reg_seq ?_)
  refine seq_op hS (by decide) (runs_boxB (cs := encE e) rfl rfl) (fun v1 w1 a1 hp hS => ?_)
  obtain ⟨rfl, hM1, hB1⟩ := hp
  have hB := hB.trans (hB1.mono hB.size)
  refine sI hS (runs_assign rfl) fun _ hS => ?_
  refine nil_ok (qx_seq (reg_seq ?_))
  refine sI hS (runs_assign rfl) fun _ hS => ?_
  exact nil_ok (qx_ret (ret1 (t := 2) (by kernel_rfl) hS rfl ⟨_, rfl, rfl, hB⟩))
set_option maxHeartbeats 1000000 in
theorem to1_any (e : E) (x : Int) (g : Nat) (w : World) (hG : Has w g 3 [.int .i64 x]) : Ans 30 [.agg (encE e).toArray, .pointer (some ⟨g, 0, none⟩)] w (fun u w' => u = .bool (e.2.1 == x) ∧ Below w.heap.size w w') := by
  refine calls_qx (args := [.agg (encE e).toArray, .pointer (some ⟨g, 0, none⟩)]) 8 Try.func30 rfl (by kernel_rfl) (by simp) (fun a hS => ?_)
  have hB := Below.refl w.heap.size w
  have hGb := hG
  refine qx_seq (reg_seq ?_)
  refine seq_op hS (by decide) (runs_boxB (cs := encE e) rfl rfl) (fun v1 w1 a1 hp hS => ?_)
  obtain ⟨rfl, hM1, hB1⟩ := hp
  have hB := hB.trans (hB1.mono hB.size)
  have hG := hGb.below hB hGb.lt
  refine sI hS (runs_assign rfl) fun _ hS => ?_
  refine nil_ok (qx_seq (reg_seq ?_))
  refine sI hS (runs_fieldK fo41_1 rfl) fun _ hS => ?_
  refine sI hS (runs_load rfl pl3 (hM1.at rfl)) fun _ hS => ?_
  refine sI hS (runs_load rfl pl3 (hG.at rfl)) fun _ hS => ?_
  refine sI hS (runs_eql rfl rfl rfl) fun _ hS => ?_
  refine sI hS (runs_assign rfl) fun _ hS => ?_
  exact nil_ok (qx_ret (ret1 (t := 3) (by kernel_rfl) hS rfl ⟨_, rfl, rfl, hB⟩))
set_option maxHeartbeats 1000000 in
theorem from1_any (e : E) (x : Int) (g : Nat) (w : World) (hG : Has w g 3 [.int .i64 x]) : Ans 31 [.agg (encE e).toArray, .pointer (some ⟨g, 0, none⟩)] w (fun u w' => u = .bool (e.1 == x) ∧ Below w.heap.size w w') := by
  refine calls_qx (args := [.agg (encE e).toArray, .pointer (some ⟨g, 0, none⟩)]) 8 Try.func31 rfl (by kernel_rfl) (by simp) (fun a hS => ?_)
  have hB := Below.refl w.heap.size w
  have hGb := hG
  refine qx_seq (reg_seq ?_)
  refine seq_op hS (by decide) (runs_boxB (cs := encE e) rfl rfl) (fun v1 w1 a1 hp hS => ?_)
  obtain ⟨rfl, hM1, hB1⟩ := hp
  have hB := hB.trans (hB1.mono hB.size)
  have hG := hGb.below hB hGb.lt
  refine sI hS (runs_assign rfl) fun _ hS => ?_
  refine nil_ok (qx_seq (reg_seq ?_))
  refine sI hS (runs_fieldK fo41_0 rfl) fun _ hS => ?_
  refine sI hS (runs_load rfl pl3 (hM1.at rfl)) fun _ hS => ?_
  refine sI hS (runs_load rfl pl3 (hG.at rfl)) fun _ hS => ?_
  refine sI hS (runs_eql rfl rfl rfl) fun _ hS => ?_
  refine sI hS (runs_assign rfl) fun _ hS => ?_
  exact nil_ok (qx_ret (ret1 (t := 3) (by kernel_rfl) hS rfl ⟨_, rfl, rfl, hB⟩))
set_option maxHeartbeats 1000000 in
theorem split1_any (e : E) (w : World) : Ans 37 [.agg (encE e).toArray] w (fun u w' => u = .bool (decide (e.2.1 < 0)) ∧ Below w.heap.size w w') := by
  refine calls_qx (args := [.agg (encE e).toArray]) 6 Try.func37 rfl (by kernel_rfl) (by simp) (fun a hS => ?_)
  have hB := Below.refl w.heap.size w
  refine qx_seq (reg_seq ?_)
  refine seq_op hS (by decide) (runs_boxB (cs := encE e) rfl rfl) (fun v1 w1 a1 hp hS => ?_)
  obtain ⟨rfl, hM1, hB1⟩ := hp
  have hB := hB.trans (hB1.mono hB.size)
  refine sI hS (runs_assign rfl) fun _ hS => ?_
  refine nil_ok (qx_seq (reg_seq ?_))
  refine sI hS (runs_fieldK fo41_1 rfl) fun _ hS => ?_
  refine sI hS (runs_load rfl pl3 (hM1.at rfl)) fun _ hS => ?_
  refine sI hS (runs_lss (r := decide (e.2.1 < 0)) rfl rfl rfl) fun _ hS => ?_
  refine sI hS (runs_assign rfl) fun _ hS => ?_
  exact nil_ok (qx_ret (ret1 (t := 2) (by kernel_rfl) hS rfl ⟨_, rfl, rfl, hB⟩))
set_option maxHeartbeats 1000000 in
theorem less_any (a b : E) (w : World) : Ans 29 [.agg (encE a).toArray, .agg (encE b).toArray] w (fun u w' => u = .bool (lessM a b) ∧ Below w.heap.size w w') := by
  refine calls_qx (args := [.agg (encE a).toArray, .agg (encE b).toArray]) 30 Try.func29 rfl (by kernel_rfl) (by simp) (fun act hS => ?_)
  have hB := Below.refl w.heap.size w
  refine qx_seq (reg_seq ?_)
  refine seq_op hS (by decide) (runs_boxB (cs := encE a) rfl rfl) (fun v1 w1 a1 hp hS => ?_)
  obtain ⟨rfl, hM1, hB1⟩ := hp
  have hB := hB.trans (hB1.mono hB.size)
  refine seq_op hS (by decide) (runs_boxB (cs := encE b) rfl rfl) (fun v3 w3 a1 hp hS => ?_)
  obtain ⟨rfl, hM3, hB3⟩ := hp
  have hB := hB.trans (hB3.mono hB.size)
  have hM1 := hM1.below hB3 hM1.lt
  refine sI hS (runs_assign rfl) fun _ hS => ?_
  refine nil_ok (qx_seq (qx_seq (reg_seq ?_)))
  refine sI hS (runs_fieldK fo41_1 rfl) fun _ hS => ?_
  refine sI hS (runs_load rfl pl3 (hM1.at rfl)) fun _ hS => ?_
  refine sI hS (runs_fieldK fo41_1 rfl) fun _ hS => ?_
  refine sI hS (runs_load rfl pl3 (hM3.at rfl)) fun _ hS => ?_
  by_cases h1 : ¬ a.2.1 = b.2.1
  · skip
    refine sI hS (runs_neq (r := true) rfl rfl (by simp [h1])) fun _ hS => ?_
    refine nil_ok (wp_cond_true (hS.eval rfl) (qx_seq (reg_seq ?_)))
    refine sI hS (runs_fieldK fo41_1 rfl) fun _ hS => ?_
    refine sI hS (runs_load rfl pl3 (hM1.at rfl)) fun _ hS => ?_
    refine sI hS (runs_fieldK fo41_1 rfl) fun _ hS => ?_
    refine sI hS (runs_load rfl pl3 (hM3.at rfl)) fun _ hS => ?_
    refine sI hS (runs_lss (r := decide (a.2.1 < b.2.1)) rfl rfl rfl) fun _ hS => ?_
    refine sI hS (runs_assign rfl) fun _ hS => ?_
    exact nil_ok (qx_ret (ret1 (t := 4) (by kernel_rfl) hS rfl ⟨_, rfl, by unfold lessM; rw [if_neg h1], hB⟩))
  refine sI hS (runs_neq (r := false) rfl rfl (by simp [Classical.not_not.1 h1])) fun _ hS => ?_
  refine nil_ok (wp_cond_false (hS.eval rfl) (wp_skip (qx_seq (qx_seq (reg_seq ?_)))))
  refine sI hS (runs_fieldK fo41_0 rfl) fun _ hS => ?_
  refine sI hS (runs_load rfl pl3 (hM1.at rfl)) fun _ hS => ?_
  refine sI hS (runs_fieldK fo41_0 rfl) fun _ hS => ?_
  refine sI hS (runs_load rfl pl3 (hM3.at rfl)) fun _ hS => ?_
  by_cases h2 : ¬ a.1 = b.1
  · skip
    refine sI hS (runs_neq (r := true) rfl rfl (by simp [h2])) fun _ hS => ?_
    refine nil_ok (wp_cond_true (hS.eval rfl) (qx_seq (reg_seq ?_)))
    refine sI hS (runs_fieldK fo41_0 rfl) fun _ hS => ?_
    refine sI hS (runs_load rfl pl3 (hM1.at rfl)) fun _ hS => ?_
    refine sI hS (runs_fieldK fo41_0 rfl) fun _ hS => ?_
    refine sI hS (runs_load rfl pl3 (hM3.at rfl)) fun _ hS => ?_
    refine sI hS (runs_lss (r := decide (a.1 < b.1)) rfl rfl rfl) fun _ hS => ?_
    refine sI hS (runs_assign rfl) fun _ hS => ?_
    exact nil_ok (qx_ret (ret1 (t := 4) (by kernel_rfl) hS rfl ⟨_, rfl, by unfold lessM; rw [if_pos (Classical.not_not.1 h1), if_neg h2], hB⟩))
  refine sI hS (runs_neq (r := false) rfl rfl (by simp [Classical.not_not.1 h2])) fun _ hS => ?_
  refine nil_ok (wp_cond_false (hS.eval rfl) (wp_skip (qx_seq (reg_seq ?_))))
  refine sI hS (runs_fieldK fo41_2 rfl) fun _ hS => ?_
  refine sI hS (runs_load rfl pl2 (hM1.at rfl)) fun _ hS => ?_
  refine sI hS (runs_fieldK fo41_2 rfl) fun _ hS => ?_
  refine sI hS (runs_load rfl pl2 (hM3.at rfl)) fun _ hS => ?_
  refine sI hS (runs_lss (r := decide (a.2.2 < b.2.2)) rfl rfl rfl) fun _ hS => ?_
  refine sI hS (runs_assign rfl) fun _ hS => ?_
  exact nil_ok (qx_ret (ret1 (t := 4) (by kernel_rfl) hS rfl ⟨_, rfl, by unfold lessM; rw [if_pos (Classical.not_not.1 h1), if_pos (Classical.not_not.1 h2)], hB⟩))
theorem less_is {a b : E} {r : Bool} (h : lessM a b = r) (w : World) : Ans 29 [.agg (encE a).toArray, .agg (encE b).toArray] w (fun u w' => u = .bool r ∧ Below w.heap.size w w') := h ▸ less_any a b w
/-- What cmp.Compare tells. -/
def cmpI (x y : Int) : Int := if x < y then -1 else if x > y then 1 else 0
set_option maxHeartbeats 1000000 in
theorem isNaN_any (x : Int) (w : World) : Ans 57 [.int .i64 x] w (Is (.bool false) w) := by
  refine calls_qx (args := [.int .i64 x]) 6 Try.func57 rfl (by kernel_rfl) (by simp) (fun a hS => ?_)
  refine qx_seq (reg_seq ?_)
  refine sI hS (runs_assign rfl) fun _ hS => ?_
  refine nil_ok (qx_seq (reg_seq ?_))
  refine sI hS (runs_move rfl) fun _ hS => ?_
  refine sI hS (runs_move rfl) fun _ hS => ?_
  refine sI hS (runs_neq (r := false) rfl rfl (by simp)) fun _ hS => ?_
  refine sI hS (runs_assign rfl) fun _ hS => ?_
  exact nil_ok (qx_ret (ret1 (t := 2) (by kernel_rfl) hS rfl ⟨_, rfl, rfl, rfl⟩))
set_option maxHeartbeats 1000000 in
theorem compare_any (x y : Int) (w : World) : Ans 46 [.int .i64 x, .int .i64 y] w (Is (.int .i64 (cmpI x y)) w) := by
  refine calls_qx (args := [.int .i64 x, .int .i64 y]) 20 Try.func46 rfl (by kernel_rfl) (by simp) (fun a hS => ?_)
  refine qx_seq (reg_seq ?_)
  refine sI hS (runs_assign rfl) fun _ hS => ?_
  refine nil_ok (qx_seq (reg_seq ?_))
  refine sI hS (runs_move rfl) fun _ hS => ?_
  refine sI hS (runs_call (args := [.int .i64 x]) goes57 rfl (isNaN_any x w)) fun _ hS => ?_
  refine sI hS (runs_assign rfl) fun _ hS => ?_
  refine nil_ok (qx_seq (reg_seq ?_))
  refine sI hS (runs_move rfl) fun _ hS => ?_
  refine sI hS (runs_call (args := [.int .i64 y]) goes57 rfl (isNaN_any y w)) fun _ hS => ?_
  refine sI hS (runs_assign rfl) fun _ hS => ?_
  refine nil_ok (qx_seq (qx_seq (reg_seq ?_)))
  refine sI hS (runs_move rfl) fun _ hS => ?_
  refine nil_ok (wp_cond_false (hS.eval rfl) (wp_skip (qx_seq (qx_seq (reg_seq ?_)))))
  refine sI hS (runs_move rfl) fun _ hS => ?_
  refine nil_ok (wp_cond_false (hS.eval rfl) (wp_skip (qx_seq (qx_seq (reg_seq ?_)))))
  refine sI hS (runs_move rfl) fun _ hS => ?_
  refine sI hS (runs_move rfl) fun _ hS => ?_
  by_cases h1 : x < y
  · skip
    refine sI hS (lssT rfl rfl (by omega)) fun _ hS => ?_
    refine nil_ok (wp_cond_true (hS.eval rfl) (qx_seq (reg_seq ?_)))
    refine sI hS (runs_assign rfl) fun _ hS => ?_
    exact nil_ok (qx_ret (ret1 (t := 4) (by kernel_rfl) hS rfl ⟨_, rfl, by rw [cmpI, if_pos h1], rfl⟩))
  refine sI hS (lssF rfl rfl (by omega)) fun _ hS => ?_
  refine nil_ok (wp_cond_false (hS.eval rfl) (wp_skip (qx_seq (qx_seq (reg_seq ?_)))))
  refine sI hS (runs_move rfl) fun _ hS => ?_
  refine sI hS (runs_move rfl) fun _ hS => ?_
  by_cases h2 : x > y
  · skip
    refine sI hS (gtrT rfl rfl (by omega)) fun _ hS => ?_
    refine nil_ok (wp_cond_true (hS.eval rfl) (qx_seq (reg_seq ?_)))
    refine sI hS (runs_assign rfl) fun _ hS => ?_
    exact nil_ok (qx_ret (ret1 (t := 4) (by kernel_rfl) hS rfl ⟨_, rfl, by rw [cmpI, if_neg h1, if_pos h2], rfl⟩))
  refine sI hS (gtrF rfl rfl (by omega)) fun _ hS => ?_
  refine nil_ok (wp_cond_false (hS.eval rfl) (wp_skip (qx_seq (reg_seq ?_))))
  refine sI hS (runs_assign rfl) fun _ hS => ?_
  exact nil_ok (qx_ret (ret1 (t := 4) (by kernel_rfl) hS rfl ⟨_, rfl, by rw [cmpI, if_neg h1, if_neg h2], rfl⟩))
set_option maxHeartbeats 1000000 in
theorem isNaN64_any (x : Int) (w : World) : Ans 58 [.int .i64 x] w (Is (.bool false) w) := by
  refine calls_qx (args := [.int .i64 x]) 6 Try.func58 rfl (by kernel_rfl) (by simp) (fun a hS => ?_)
  refine qx_seq (reg_seq ?_)
  refine sI hS (runs_assign rfl) fun _ hS => ?_
  refine nil_ok (qx_seq (reg_seq ?_))
  refine sI hS (runs_move rfl) fun _ hS => ?_
  refine sI hS (runs_move rfl) fun _ hS => ?_
  refine sI hS (runs_neq (r := false) rfl rfl (by simp)) fun _ hS => ?_
  refine sI hS (runs_assign rfl) fun _ hS => ?_
  exact nil_ok (qx_ret (ret1 (t := 2) (by kernel_rfl) hS rfl ⟨_, rfl, rfl, rfl⟩))
set_option maxHeartbeats 1000000 in
theorem compare64_any (x y : Int) (w : World) : Ans 47 [.int .i64 x, .int .i64 y] w (Is (.int .i64 (cmpI x y)) w) := by
  refine calls_qx (args := [.int .i64 x, .int .i64 y]) 20 Try.func47 rfl (by kernel_rfl) (by simp) (fun a hS => ?_)
  refine qx_seq (reg_seq ?_)
  refine sI hS (runs_assign rfl) fun _ hS => ?_
  refine nil_ok (qx_seq (reg_seq ?_))
  refine sI hS (runs_move rfl) fun _ hS => ?_
  refine sI hS (runs_call (args := [.int .i64 x]) goes58 rfl (isNaN64_any x w)) fun _ hS => ?_
  refine sI hS (runs_assign rfl) fun _ hS => ?_
  refine nil_ok (qx_seq (reg_seq ?_))
  refine sI hS (runs_move rfl) fun _ hS => ?_
  refine sI hS (runs_call (args := [.int .i64 y]) goes58 rfl (isNaN64_any y w)) fun _ hS => ?_
  refine sI hS (runs_assign rfl) fun _ hS => ?_
  refine nil_ok (qx_seq (qx_seq (reg_seq ?_)))
  refine sI hS (runs_move rfl) fun _ hS => ?_
  refine nil_ok (wp_cond_false (hS.eval rfl) (wp_skip (qx_seq (qx_seq (reg_seq ?_)))))
  refine sI hS (runs_move rfl) fun _ hS => ?_
  refine nil_ok (wp_cond_false (hS.eval rfl) (wp_skip (qx_seq (qx_seq (reg_seq ?_)))))
  refine sI hS (runs_move rfl) fun _ hS => ?_
  refine sI hS (runs_move rfl) fun _ hS => ?_
  by_cases h1 : x < y
  · skip
    refine sI hS (lssT rfl rfl (by omega)) fun _ hS => ?_
    refine nil_ok (wp_cond_true (hS.eval rfl) (qx_seq (reg_seq ?_)))
    refine sI hS (runs_assign rfl) fun _ hS => ?_
    exact nil_ok (qx_ret (ret1 (t := 4) (by kernel_rfl) hS rfl ⟨_, rfl, by rw [cmpI, if_pos h1], rfl⟩))
  refine sI hS (lssF rfl rfl (by omega)) fun _ hS => ?_
  refine nil_ok (wp_cond_false (hS.eval rfl) (wp_skip (qx_seq (qx_seq (reg_seq ?_)))))
  refine sI hS (runs_move rfl) fun _ hS => ?_
  refine sI hS (runs_move rfl) fun _ hS => ?_
  by_cases h2 : x > y
  · skip
    refine sI hS (gtrT rfl rfl (by omega)) fun _ hS => ?_
    refine nil_ok (wp_cond_true (hS.eval rfl) (qx_seq (reg_seq ?_)))
    refine sI hS (runs_assign rfl) fun _ hS => ?_
    exact nil_ok (qx_ret (ret1 (t := 4) (by kernel_rfl) hS rfl ⟨_, rfl, by rw [cmpI, if_neg h1, if_pos h2], rfl⟩))
  refine sI hS (gtrF rfl rfl (by omega)) fun _ hS => ?_
  refine nil_ok (wp_cond_false (hS.eval rfl) (wp_skip (qx_seq (reg_seq ?_))))
  refine sI hS (runs_assign rfl) fun _ hS => ?_
  exact nil_ok (qx_ret (ret1 (t := 4) (by kernel_rfl) hS rfl ⟨_, rfl, by rw [cmpI, if_neg h1, if_neg h2], rfl⟩))
end Go.Proofs.Ythenbmalnmaofaa
