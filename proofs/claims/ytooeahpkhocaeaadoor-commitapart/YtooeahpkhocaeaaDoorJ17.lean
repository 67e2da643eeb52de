/- Layer 8: small functions: values too great, comparing, closures. Conditions: none of our own. -/
import Derived.Test.YtooeahpkhocaeaaDoorJ16
import Derived.Sort.Grow
namespace Go.Proofs.YtooeahpkhocaeaaDoor
open Go.RowKit
set_option maxRecDepth 100000

theorem goes56 : Goes Tryd.prog 56 := goes_of Tryd.func56 (by kernel_rfl) rfl
theorem goes57 : Goes Tryd.prog 57 := goes_of Tryd.func57 (by kernel_rfl) rfl
theorem goes58 : Goes Tryd.prog 58 := goes_of Tryd.func58 (by kernel_rfl) rfl
theorem goes63 : Goes Tryd.prog 63 := goes_of Tryd.func63 (by kernel_rfl) rfl
theorem goes65 : Goes Tryd.prog 65 := goes_of Tryd.func65 (by kernel_rfl) rfl
theorem goes66 : Goes Tryd.prog 66 := goes_of Tryd.func66 (by kernel_rfl) rfl
theorem goes67 : Goes Tryd.prog 67 := goes_of Tryd.func67 (by kernel_rfl) rfl
theorem goes74 : Goes Tryd.prog 74 := goes_of Tryd.func74 (by kernel_rfl) rfl
theorem goes75 : Goes Tryd.prog 75 := goes_of Tryd.func75 (by kernel_rfl) rfl
set_option maxHeartbeats 1000000 in
theorem sort1_any (e : E) (w : World) : Ans 58 [.agg (encE e).toArray] w (fun u w' => u = .bool true ∧ Below w.heap.size w w') := by
  refine calls_qx (args := [.agg (encE e).toArray]) 3 Tryd.func58 rfl (by kernel_rfl) (by simp) (fun a hS => ?_)
  have hB := Below.refl w.heap.size w
  refine qx_seq (reg_seq ?_)
  refine seq_op hS (by decide) (runs_boxB (cs := encE e) rfl rfl) (fun v1 w1 a1 hp hS => ?_)
  obtain ⟨rfl, hM1, hB1⟩ := hp
  have hB := hB.trans (hB1.mono hB.size)
  refine sI hS (runs_assign rfl) fun _ hS => ?_
  refine nil_ok (qx_seq (reg_seq ?_))
  refine sI hS (runs_assign rfl) fun _ hS => ?_
  exact nil_ok (qx_ret (ret1 (t := 2) (by kernel_rfl) hS rfl ⟨_, rfl, rfl, hB⟩))
/-- What cmp.Compare tells. -/
def cmpI (x y : Int) : Int := if x < y then -1 else if x > y then 1 else 0
set_option maxHeartbeats 1000000 in
theorem isNaN_any (x : Int) (w : World) : Ans 74 [.int .i64 x] w (Is (.bool false) w) := by
  refine calls_qx (args := [.int .i64 x]) 6 Tryd.func74 rfl (by kernel_rfl) (by simp) (fun a hS => ?_)
  refine qx_seq (reg_seq ?_)
  refine sI hS (runs_assign rfl) fun _ hS => ?_
  refine nil_ok (qx_seq (reg_seq ?_))
  refine sI hS (runs_move rfl) fun _ hS => ?_
  refine sI hS (runs_move rfl) fun _ hS => ?_
  refine sI hS (runs_neq (r := false) rfl rfl (by simp)) fun _ hS => ?_
  refine sI hS (runs_assign rfl) fun _ hS => ?_
  exact nil_ok (qx_ret (ret1 (t := 2) (by kernel_rfl) hS rfl ⟨_, rfl, rfl, rfl⟩))
set_option maxHeartbeats 1000000 in
theorem compare_any (x y : Int) (w : World) : Ans 66 [.int .i64 x, .int .i64 y] w (Is (.int .i64 (cmpI x y)) w) := by
  refine calls_qx (args := [.int .i64 x, .int .i64 y]) 20 Tryd.func66 rfl (by kernel_rfl) (by simp) (fun a hS => ?_)
  refine qx_seq (reg_seq ?_)
  refine sI hS (runs_assign rfl) fun _ hS => ?_
  refine nil_ok (qx_seq (reg_seq ?_))
  refine sI hS (runs_move rfl) fun _ hS => ?_
  refine sI hS (runs_call (args := [.int .i64 x]) goes74 rfl (isNaN_any x w)) fun _ hS => ?_
  refine sI hS (runs_assign rfl) fun _ hS => ?_
  refine nil_ok (qx_seq (reg_seq ?_))
  refine sI hS (runs_move rfl) fun _ hS => ?_
  refine sI hS (runs_call (args := [.int .i64 y]) goes74 rfl (isNaN_any y w)) fun _ hS => ?_
  refine sI hS (runs_assign rfl) fun _ hS => ?_
  refine nil_ok (qx_seq (qx_seq (reg_seq ?_)))
  refine sI hS (runs_move rfl) fun _ hS => ?_
  refine nil_ok (wp_cond_false (hS.eval rfl) (wp_skip (qx_seq (qx_seq (reg_seq ?_)))))
  refine sI hS (runs_move rfl) fun _ hS => ?_
  refine nil_ok (wp_cond_false (hS.eval rfl) (wp_skip (qx_seq (qx_seq (reg_seq ?_)))))
  refine sI hS (runs_move rfl) fun _ hS => ?_
  refine sI hS (runs_move rfl) fun _ hS => ?_
  by_cases h1 : x < y
  · skip
    refine sI hS (lssT rfl rfl (by omega)) fun _ hS => ?_
    refine nil_ok (wp_cond_true (hS.eval rfl) (qx_seq (reg_seq ?_)))
    refine sI hS (runs_assign rfl) fun _ hS => ?_
    exact nil_ok (qx_ret (ret1 (t := 4) (by kernel_rfl) hS rfl ⟨_, rfl, by rw [cmpI, if_pos h1], rfl⟩))
  refine sI hS (lssF rfl rfl (by omega)) fun _ hS => ?_
  refine nil_ok (wp_cond_false (hS.eval rfl) (wp_skip (qx_seq (qx_seq (reg_seq ?_)))))
  refine sI hS (runs_move rfl) fun _ hS => ?_
  refine sI hS (runs_move rfl) fun _ hS => ?_
  by_cases h2 : x > y
  · skip
    refine sI hS (gtrT rfl rfl (by omega)) fun _ hS => ?_
    refine nil_ok (wp_cond_true (hS.eval rfl) (qx_seq (reg_seq ?_)))
    refine sI hS (runs_assign rfl) fun _ hS => ?_
    exact nil_ok (qx_ret (ret1 (t := 4) (by kernel_rfl) hS rfl ⟨_, rfl, by rw [cmpI, if_neg h1, if_pos h2], rfl⟩))
  refine sI hS (gtrF rfl rfl (by omega)) fun _ hS => ?_
  refine nil_ok (wp_cond_false (hS.eval rfl) (wp_skip (qx_seq (reg_seq ?_))))
  refine sI hS (runs_assign rfl) fun _ hS => ?_
  exact nil_ok (qx_ret (ret1 (t := 4) (by kernel_rfl) hS rfl ⟨_, rfl, by rw [cmpI, if_neg h1, if_neg h2], rfl⟩))
set_option maxHeartbeats 1000000 in
theorem isNaN64_any (x : Int) (w : World) : Ans 75 [.int .i64 x] w (Is (.bool false) w) := by
  refine calls_qx (args := [.int .i64 x]) 6 Tryd.func75 rfl (by kernel_rfl) (by simp) (fun a hS => ?_)
  refine qx_seq (reg_seq ?_)
  refine sI hS (runs_assign rfl) fun _ hS => ?_
  refine nil_ok (qx_seq (reg_seq ?_))
  refine sI hS (runs_move rfl) fun _ hS => ?_
  refine sI hS (runs_move rfl) fun _ hS => ?_
  refine sI hS (runs_neq (r := false) rfl rfl (by simp)) fun _ hS => ?_
  refine sI hS (runs_assign rfl) fun _ hS => ?_
  exact nil_ok (qx_ret (ret1 (t := 2) (by kernel_rfl) hS rfl ⟨_, rfl, rfl, rfl⟩))
set_option maxHeartbeats 1000000 in
theorem compare64_any (x y : Int) (w : World) : Ans 67 [.int .i64 x, .int .i64 y] w (Is (.int .i64 (cmpI x y)) w) := by
  refine calls_qx (args := [.int .i64 x, .int .i64 y]) 20 Tryd.func67 rfl (by kernel_rfl) (by simp) (fun a hS => ?_)
  refine qx_seq (reg_seq ?_)
  refine sI hS (runs_assign rfl) fun _ hS => ?_
  refine nil_ok (qx_seq (reg_seq ?_))
  refine sI hS (runs_move rfl) fun _ hS => ?_
  refine sI hS (runs_call (args := [.int .i64 x]) goes75 rfl (isNaN64_any x w)) fun _ hS => ?_
  refine sI hS (runs_assign rfl) fun _ hS => ?_
  refine nil_ok (qx_seq (reg_seq ?_))
  refine sI hS (runs_move rfl) fun _ hS => ?_
  refine sI hS (runs_call (args := [.int .i64 y]) goes75 rfl (isNaN64_any y w)) fun _ hS => ?_
  refine sI hS (runs_assign rfl) fun _ hS => ?_
  refine nil_ok (qx_seq (qx_seq (reg_seq ?_)))
  refine sI hS (runs_move rfl) fun _ hS => ?_
  refine nil_ok (wp_cond_false (hS.eval rfl) (wp_skip (qx_seq (qx_seq (reg_seq ?_)))))
  refine sI hS (runs_move rfl) fun _ hS => ?_
  refine nil_ok (wp_cond_false (hS.eval rfl) (wp_skip (qx_seq (qx_seq (reg_seq ?_)))))
  refine sI hS (runs_move rfl) fun _ hS => ?_
  refine sI hS (runs_move rfl) fun _ hS => ?_
  by_cases h1 : x < y
  · skip
    refine sI hS (lssT rfl rfl (by omega)) fun _ hS => ?_
    refine nil_ok (wp_cond_true (hS.eval rfl) (qx_seq (reg_seq ?_)))
    refine sI hS (runs_assign rfl) fun _ hS => ?_
    exact nil_ok (qx_ret (ret1 (t := 4) (by kernel_rfl) hS rfl ⟨_, rfl, by rw [cmpI, if_pos h1], rfl⟩))
  refine sI hS (lssF rfl rfl (by omega)) fun _ hS => ?_
  refine nil_ok (wp_cond_false (hS.eval rfl) (wp_skip (qx_seq (qx_seq (reg_seq ?_)))))
  refine sI hS (runs_move rfl) fun _ hS => ?_
  refine sI hS (runs_move rfl) fun _ hS => ?_
  by_cases h2 : x > y
  · skip
    refine sI hS (gtrT rfl rfl (by omega)) fun _ hS => ?_
    refine nil_ok (wp_cond_true (hS.eval rfl) (qx_seq (reg_seq ?_)))
    refine sI hS (runs_assign rfl) fun _ hS => ?_
    exact nil_ok (qx_ret (ret1 (t := 4) (by kernel_rfl) hS rfl ⟨_, rfl, by rw [cmpI, if_neg h1, if_pos h2], rfl⟩))
  refine sI hS (gtrF rfl rfl (by omega)) fun _ hS => ?_
  refine nil_ok (wp_cond_false (hS.eval rfl) (wp_skip (qx_seq (reg_seq ?_))))
  refine sI hS (runs_assign rfl) fun _ hS => ?_
  exact nil_ok (qx_ret (ret1 (t := 4) (by kernel_rfl) hS rfl ⟨_, rfl, by rw [cmpI, if_neg h1, if_neg h2], rfl⟩))
end Go.Proofs.YtooeahpkhocaeaaDoor
/- Layer 8: the comparing of messages. Conditions: none of our own. -/
namespace Go.Proofs.YtooeahpkhocaeaaDoor
open Go.RowKit
set_option maxRecDepth 100000

set_option maxHeartbeats 1000000 in
theorem or_any (x y z : Int) (g : Nat) (w : World) (hG : Has w g 3 [.int .i64 x, .int .i64 y, .int .i64 z]) : Ans 65 [.slice (some ⟨g, 0, none⟩) 3 3] w (fun v w' => v = .int .i64 (if x = 0 then (if y = 0 then z else y) else x) ∧ w' = w) := by
  refine calls_qx (args := [.slice (some ⟨g, 0, none⟩) 3 3]) 18 Tryd.func65 rfl (by kernel_rfl) (by simp) (fun a hS => ?_)
  refine qx_seq (reg_seq ?_)
  refine seq_is hS (by decide) (runs_assign rfl) (fun a1 hS => ?_)
  refine nil_ok (qx_seq (reg_seq ?_))
  refine seq_is hS (by decide) (runs_assign rfl) (fun a1 hS => ?_)
  refine nil_ok (qx_seq (qx_seq (reg_seq ?_)))
  refine seq_is hS (by decide) (runs_move rfl) (fun a1 hS => ?_)
  refine seq_is hS (by decide) (runs_len rfl und60k) (fun a1 hS => ?_)
  refine seq_is hS (by decide) (runs_move rfl) (fun a1 hS => ?_)
  refine nil_ok (qx_range (fun m a w' => ∃ i : Nat, i ≤ 3 ∧ m = 3 - i ∧ w' = w ∧ (0 < i → x = 0) ∧ (1 < i → y = 0) ∧ (2 < i → z = 0) ∧ Sees 18 [(8, .int .i64 (i : Int)), (7, .int .i64 3), (6, .slice (some ⟨g, 0, none⟩) 3 3), (3, .int .i64 0)] a) 3 ⟨0, by omega, by omega, rfl, by omega, by omega, by omega, hS.only _ ⟨rfl, rfl, rfl, rfl, trivial⟩⟩ ?_)
  rintro m a w' ⟨i, hi, rfl, rfl, hx, hy, hz, hS⟩
  refine reg_seq ?_
  by_cases hlt : i < 3
  · skip
    obtain ⟨u, hu, huu⟩ : ∃ u : Int, w'.cell? ⟨g, 0 + i, none⟩ = some (.int .i64 u) ∧ ((i = 0 ∧ u = x) ∨ (i = 1 ∧ u = y) ∨ (i = 2 ∧ u = z)) := by
      match i, hlt with
      | 0, _ => exact ⟨x, by rw [hG.cell]; rfl, .inl ⟨rfl, rfl⟩⟩
      | 1, _ => exact ⟨y, by rw [hG.cell]; rfl, .inr (.inl ⟨rfl, rfl⟩)⟩
      | 2, _ => exact ⟨z, by rw [hG.cell]; rfl, .inr (.inr ⟨rfl, rfl⟩)⟩
    refine seq_is hS (by decide) (runs_lss (r := true) rfl rfl (by rw [decide_eq_true_eq]; omega)) (fun a1 hS => ?_)
    refine nil_ok ⟨_, hS.eval rfl, fun h => by simp at h, fun _ => ?_⟩
    refine qx_seq (qx_block (qx_seq (reg_seq ?_)))
    refine seq_is hS (by decide) (runs_indexAddr (j := i) rfl rfl und60k siz3 rfl hlt) (fun a1 hS => ?_)
    refine seq_is hS (by decide) (runs_load rfl und_plain3 hu) (fun a1 hS => ?_)
    refine seq_is hS (by decide) (runs_assign rfl) (fun a1 hS => ?_)
    refine nil_ok (qx_seq (reg_seq ?_))
    refine seq_is hS (by decide) (runs_move rfl) (fun a1 hS => ?_)
    refine seq_is hS (by decide) (runs_move rfl) (fun a1 hS => ?_)
    by_cases h0 : u = 0
    · skip
      refine seq_is hS (by decide) (runs_neq (r := false) rfl rfl (by simp [h0])) (fun a1 hS => ?_)
      refine nil_ok (wp_cond_false (hS.eval rfl) (wp_skip (reg_seq ?_)))
      refine seq_is hS (by decide) (runs_add (r := ((i + 1 : Nat) : Int)) rfl rfl (by simp [IntKind.wrap, IntKind.bits, IntKind.signed]; omega)) (fun a1 hS => ?_)
      refine seq_is hS (by decide) (runs_move rfl) (fun a1 hS => ?_)
      exact nil_ok ⟨_, by omega, i + 1, by omega, rfl, rfl, by omega, by omega, by omega, hS.only _ ⟨rfl, rfl, rfl, rfl, trivial⟩⟩
    · skip
      refine seq_is hS (by decide) (runs_neq (r := true) rfl rfl (by simp [h0])) (fun a1 hS => ?_)
      refine nil_ok (wp_cond_true (hS.eval rfl) (qx_seq (reg_seq ?_)))
      refine seq_is hS (by decide) (runs_move rfl) (fun a1 hS => ?_)
      refine seq_is hS (by decide) (runs_assign rfl) (fun a1 hS => ?_)
      refine nil_ok (qx_ret (ret1 (t := 2) (by kernel_rfl) hS rfl ⟨_, rfl, ?_, rfl⟩))
      rcases huu with ⟨rfl, rfl⟩ | ⟨rfl, rfl⟩ | ⟨rfl, rfl⟩
      · rw [if_neg h0]
      · rw [if_pos (hx (by omega)), if_neg h0]
      · rw [if_pos (hx (by omega)), if_pos (hy (by omega))]
  · skip
    refine seq_is hS (by decide) (runs_lss (r := false) rfl rfl (by rw [decide_eq_false_iff_not]; omega)) (fun a1 hS => ?_)
    refine nil_ok ⟨_, hS.eval rfl, fun _ => ?_, fun h => by simp at h⟩
    refine qx_seq (reg_seq ?_)
    refine seq_is hS (by decide) (runs_move rfl) (fun a1 hS => ?_)
    refine seq_is hS (by decide) (runs_assign rfl) (fun a1 hS => ?_)
    exact nil_ok (qx_ret (ret1 (t := 2) (by kernel_rfl) hS rfl ⟨_, rfl, by rw [if_pos (hx (by omega)), if_pos (hy (by omega)), hz (by omega)], rfl⟩))
/-- The world has drawn, and has blocks behind. -/
def Grown (W w : World) : Prop := ∃ q os, w = Sort.grow (W.drewN q) os
theorem Grown.refl (W : World) : Grown W W := ⟨0, #[], by rw [Sort.grow_empty]; rfl⟩
theorem Grown.drew {W w : World} (h : Grown W w) : Grown W w.drew := by
  obtain ⟨q, os, rfl⟩ := h
  exact ⟨q + 1, os, rfl⟩
theorem Grown.alloc {W w : World} (h : Grown W w) (o : Obj) : Grown W (w.alloc o) := by
  obtain ⟨q, os, rfl⟩ := h
  exact ⟨q, os ++ #[o], by rw [Sort.alloc_eq_grow, Sort.grow_grow]⟩
theorem Grown.below {W w : World} (h : Grown W w) : Below W.heap.size W w := by
  obtain ⟨q, os, rfl⟩ := h
  refine ⟨rfl, rfl, rfl, by simp [Sort.grow], fun i hi => ?_⟩
  simp only [Sort.grow, World.heap_drewN]
  rw [Array.getElem?_append_left hi]
def cfM (a b : E) : Int := if cmpI a.2.1 b.2.1 = 0 then (if cmpI a.1 b.1 = 0 then cmpI a.2.2 b.2.2 else cmpI a.1 b.1) else cmpI a.2.1 b.2.1
set_option maxHeartbeats 1000000 in
theorem cmp_any (x y : E) (W : World) : Ans 64 [.agg (encE x).toArray, .agg (encE y).toArray] W (fun v w' => v = .int .i64 (cfM x y) ∧ Grown W w') := by
  obtain ⟨i3, hi3, hz3, hs3, hb3⟩ := info_parts inf3
  refine calls_qx (args := [.agg (encE x).toArray, .agg (encE y).toArray]) 22 Tryd.func64 rfl (by kernel_rfl) (by simp) (fun a hS => ?_)
  refine qx_seq (reg_seq ?_)
  refine seq_op hS (by decide) (runs_box rfl) (fun v1 w1 a1 hp1 hS => ?_)
  obtain ⟨rfl, hw1⟩ := hp1
  have hg1 : Grown W w1 := by rw [hw1]; exact (Grown.refl W).alloc _
  obtain ⟨hX, hB1⟩ : Has w1 W.heap.size 92 (encE x) ∧ Below W.heap.size W w1 := by rw [hw1]; exact new_box W 92 (encE x)
  clear hw1
  refine seq_op hS (by decide) (runs_box rfl) (fun v2 w2 a2 hp2 hS => ?_)
  obtain ⟨rfl, hw2⟩ := hp2
  have hg2 : Grown W w2 := by rw [hw2]; exact hg1.alloc _
  obtain ⟨hY, hB2⟩ : Has w2 w1.heap.size 92 (encE y) ∧ Below w1.heap.size w1 w2 := by rw [hw2]; exact new_box w1 92 (encE y)
  clear hw2
  have hX := hX.below hB2 hX.lt
  generalize W.heap.size = gx at *
  generalize w1.heap.size = gy at *
  refine seq_is hS (by decide) (runs_assign rfl) (fun a1 hS => ?_)
  refine nil_ok ?_
  refine qx_seq (reg_guard (fun w3 => Grown W w3 ∧ Below w2.heap.size w2 w3) [.inl (.pointer (some ⟨gx, 0 + 1, none⟩)), .inl (.int .i64 x.2.1), .inl (.pointer (some ⟨gy, 0 + 1, none⟩)), .inl (.int .i64 y.2.1), .inl (.int .i64 (cmpI x.2.1 y.2.1)), .inl (.pointer (some ⟨gx, 0 + 0, none⟩)), .inl (.int .i64 x.1), .inl (.pointer (some ⟨gy, 0 + 0, none⟩)), .inl (.int .i64 y.1), .inl (.int .i64 (cmpI x.1 y.1)), .inl (.pointer (some ⟨gx, 0 + 2, none⟩)), .inl (.int .i64 x.2.2), .inl (.pointer (some ⟨gy, 0 + 2, none⟩)), .inl (.int .i64 y.2.2), .inl (.int .i64 (cmpI x.2.2 y.2.2)), (.inr (fun v w' => ∃ g, v = .slice (some ⟨g, 0, none⟩) 3 3 ∧ Has w' g 3 [.int .i64 (cmpI x.2.1 y.2.1), .int .i64 (cmpI x.1 y.1), .int .i64 (cmpI x.2.2 y.2.2)])), .inl (.int .i64 (cfM x y)), .inl (.int .i64 (cfM x y))] 18 0 mixed rfl (by kernel_rfl) hS ⟨hg2, Below.refl _ _⟩ (fun _ h => ⟨h.1.drew, h.2.drew⟩) ?_)
  refine hs_is rfl (fun w' hw => runs_fieldK fo41_1 rfl) ?_
  refine hs_is rfl (fun w' hw => runs_load rfl pl3 ((hX.below hw.2 hX.lt).at rfl)) ?_
  refine hs_is rfl (fun w' hw => runs_fieldK fo41_1 rfl) ?_
  refine hs_is rfl (fun w' hw => runs_load rfl pl3 ((hY.below hw.2 hY.lt).at rfl)) ?_
  refine hs_is rfl (fun w' hw => runs_call (args := [.int .i64 x.2.1, .int .i64 y.2.1]) goes66 rfl (compare_any x.2.1 y.2.1 w')) ?_
  refine hs_is rfl (fun w' hw => runs_fieldK fo41_0 rfl) ?_
  refine hs_is rfl (fun w' hw => runs_load rfl pl3 ((hX.below hw.2 hX.lt).at rfl)) ?_
  refine hs_is rfl (fun w' hw => runs_fieldK fo41_0 rfl) ?_
  refine hs_is rfl (fun w' hw => runs_load rfl pl3 ((hY.below hw.2 hY.lt).at rfl)) ?_
  refine hs_is rfl (fun w' hw => runs_call (args := [.int .i64 x.1, .int .i64 y.1]) goes66 rfl (compare_any x.1 y.1 w')) ?_
  refine hs_is rfl (fun w' hw => runs_fieldK fo41_2 rfl) ?_
  refine hs_is rfl (fun w' hw => runs_load rfl pl2 ((hX.below hw.2 hX.lt).at rfl)) ?_
  refine hs_is rfl (fun w' hw => runs_fieldK fo41_2 rfl) ?_
  refine hs_is rfl (fun w' hw => runs_load rfl pl2 ((hY.below hw.2 hY.lt).at rfl)) ?_
  refine hs_is rfl (fun w' hw => runs_call (args := [.int .i64 x.2.2, .int .i64 y.2.2]) goes67 rfl (compare64_any x.2.2 y.2.2 w')) ?_
  refine hs_pr rfl (fun _ _ _ h hb => by obtain ⟨g, h1, h2⟩ := h; exact ⟨g, h1, h2.below hb h2.lt⟩) (fun w' hw hq => (runs_buildSliceG (sz := 1) (pv := [(0, .int .i64 (cmpI x.2.1 y.2.1)), (1, .int .i64 (cmpI x.1 y.1)), (2, .int .i64 (cmpI x.2.2 y.2.2))]) rfl und60k hi3 hz3 hs3 (by omega) (by omega) (cells := #[.int .i64 (cmpI x.2.1 y.2.1), .int .i64 (cmpI x.1 y.1), .int .i64 (cmpI x.2.2 y.2.2)]) (by kernel_rfl)).mono (by rintro v w3 ⟨rfl, rfl⟩; exact ⟨⟨_, rfl, Has.new w' 3 [.int .i64 (cmpI x.2.1 y.2.1), .int .i64 (cmpI x.1 y.1), .int .i64 (cmpI x.2.2 y.2.2)]⟩, ⟨hw.1.alloc _, hw.2.alloc hw.2.size _⟩, (Below.refl _ _).alloc (Nat.le_refl _) _⟩)) (fun v10 => ?_)
  refine hs_val rfl (fun w' hw hq => (by obtain ⟨g, rfl, hg⟩ := hq (15, _) List.mem_cons_self (by kernel_rfl); exact (runs_call (args := [.slice (some ⟨g, 0, none⟩) 3 3]) goes65 rfl (or_any _ _ _ g w' hg)).mono (by rintro v w3 ⟨rfl, rfl⟩; exact ⟨rfl, hw, Below.refl _ _⟩))) ?_
  refine hs_is rfl (fun w' hw => runs_assign rfl) ?_
  refine (fun a5 w5 hS5 hC5 _ => ?_)
  refine wpAnyH_done (by kernel_rfl) ?_ _
  exact qx_ret (ret1 (t := 4) (by kernel_rfl) hS5 rfl ⟨_, rfl, rfl, hC5.1⟩)
end Go.Proofs.YtooeahpkhocaeaaDoor
