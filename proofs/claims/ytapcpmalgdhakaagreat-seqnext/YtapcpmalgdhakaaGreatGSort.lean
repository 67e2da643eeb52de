/- Layer 5: the order of edges: the library's sort with the program's own comparing. Conditions: none of our own. -/
import Derived.Test.YtapcpmalgdhakaaGreatGBase
import Derived.Shelf.SlSortCmp.NoneTotal
namespace Go.Proofs.YtapcpmalgdhakaaGreat
open Go.Shelf Go.RowKit
set_option maxRecDepth 100000

def sortE_ren : Go.Shelf.Ren := ⟨fun | 6 => 92 | 15 => 88 | 14 => 107 | 28 => 105 | 29 => 106 | 20 => 113 | 21 => 114 | 22 => 115 | 23 => 116 | 24 => 117 | 25 => 118 | 26 => 119 | 27 => 120 | 46 => 122 | 47 => 109 | 48 => 110 | 49 => 123 | 50 => 124 | 57 => 125 | n => n, fun | 22 => 22 | 24 => 48 | 25 => 115 | 3 => 3 | 39 => 110 | 0 => 0 | 53 => 125 | 55 => 127 | 4 => 4 | 46 => 118 | 45 => 117 | 50 => 122 | 5 => 5 | 9 => 9 | 66 => 129 | 70 => 133 | 76 => 140 | 77 => 141 | n => n, fun | n => n⟩
theorem sortE : Go.Proofs.SlLaysF0.n6 Tryz.prog sortE_ren := {
  mixed := by kernel_rfl
  f6 := ⟨Tryz.f92.name, by decide, Tryz.func92.trans (congrArg some (by kernel_rfl))⟩
  f14 := ⟨Tryz.f107.name, by decide, Tryz.func107.trans (congrArg some (by kernel_rfl))⟩
  f15 := Tryz.func88.trans (congrArg some (by kernel_rfl))
  f20 := ⟨Tryz.f113.name, by decide, Tryz.func113.trans (congrArg some (by kernel_rfl))⟩
  f21 := ⟨Tryz.f114.name, by decide, Tryz.func114.trans (congrArg some (by kernel_rfl))⟩
  f22 := ⟨Tryz.f115.name, by decide, Tryz.func115.trans (congrArg some (by kernel_rfl))⟩
  f23 := ⟨Tryz.f116.name, by decide, Tryz.func116.trans (congrArg some (by kernel_rfl))⟩
  f24 := ⟨Tryz.f117.name, by decide, Tryz.func117.trans (congrArg some (by kernel_rfl))⟩
  f25 := ⟨Tryz.f118.name, by decide, Tryz.func118.trans (congrArg some (by kernel_rfl))⟩
  f26 := ⟨Tryz.f119.name, by decide, Tryz.func119.trans (congrArg some (by kernel_rfl))⟩
  f27 := ⟨Tryz.f120.name, by decide, Tryz.func120.trans (congrArg some (by kernel_rfl))⟩
  f28 := Tryz.func105.trans (congrArg some (by kernel_rfl))
  f29 := Tryz.func106.trans (congrArg some (by kernel_rfl))
  f46 := ⟨Tryz.f122.name, by decide, Tryz.func122.trans (congrArg some (by kernel_rfl))⟩
  f47 := Tryz.func109.trans (congrArg some (by kernel_rfl))
  f48 := Tryz.func110.trans (congrArg some (by kernel_rfl))
  f49 := ⟨Tryz.f123.name, by decide, Tryz.func123.trans (congrArg some (by kernel_rfl))⟩
  f50 := ⟨Tryz.f124.name, by decide, Tryz.func124.trans (congrArg some (by kernel_rfl))⟩
  f57 := ⟨Tryz.f125.name, by decide, Tryz.func125.trans (congrArg some (by kernel_rfl))⟩
  t0 := Tryz.underlying0
  a0 := Tryz.isAgg0
  z0 := Tryz.sizeOf0
  v0 := Tryz.zeroValue0
  t3 := Tryz.underlying3
  a3 := Tryz.isAgg3
  z3 := Tryz.sizeOf3
  v3 := Tryz.zeroValue3
  t4 := Tryz.underlying4
  a4 := Tryz.isAgg4
  z4 := Tryz.sizeOf4
  v4 := Tryz.zeroValue4
  t5 := Tryz.underlying5
  a5 := Tryz.isAgg5
  z5 := Tryz.sizeOf5
  v5 := Tryz.zeroValue5
  t9 := Tryz.underlying9
  a9 := Tryz.isAgg9
  z9 := Tryz.sizeOf9
  v9 := Tryz.zeroValue9
  t22 := Tryz.underlying22
  a22 := Tryz.isAgg22
  z22 := Tryz.sizeOf22
  v22 := Tryz.zeroValue22
  t25 := Tryz.underlying115
  a25 := Tryz.isAgg115
  z25 := Tryz.sizeOf115
  v25 := Tryz.zeroValue115
  t39 := Tryz.underlying110
  a39 := Tryz.isAgg110
  z39 := Tryz.sizeOf110
  v39 := Tryz.zeroValue110
  t45 := Tryz.underlying117
  a45 := Tryz.isAgg117
  z45 := Tryz.sizeOf117
  v45 := Tryz.zeroValue117
  t46 := Tryz.underlying118
  a46 := Tryz.isAgg118
  z46 := Tryz.sizeOf118
  v46 := Tryz.zeroValue118
  t50 := Tryz.underlying122
  a50 := Tryz.isAgg122
  z50 := Tryz.sizeOf122
  v50 := Tryz.zeroValue122
  t53 := Tryz.underlying125
  a53 := Tryz.isAgg125
  z53 := Tryz.sizeOf125
  v53 := Tryz.zeroValue125
  t55 := Tryz.underlying127
  a55 := Tryz.isAgg127
  z55 := Tryz.sizeOf127
  v55 := Tryz.zeroValue127
  t66 := Tryz.underlying129
  a66 := Tryz.isAgg129
  z66 := Tryz.sizeOf129
  v66 := Tryz.zeroValue129
  t70 := Tryz.underlying133
  a70 := Tryz.isAgg133
  z70 := Tryz.sizeOf133
  v70 := Tryz.zeroValue133
  t76 := Tryz.underlying140
  a76 := Tryz.isAgg140
  z76 := Tryz.sizeOf140
  v76 := Tryz.zeroValue140
  t77 := Tryz.underlying141
  a77 := Tryz.isAgg141
  z77 := Tryz.sizeOf141
  v77 := Tryz.zeroValue141 }
theorem goes89 : Goes Tryz.prog 89 := goes_of Tryz.func89 (by kernel_rfl) rfl
theorem goes71 : Goes Tryz.prog 71 := goes_of Tryz.func71 (by kernel_rfl) rfl
theorem goes70 : Goes Tryz.prog 70 := goes_of Tryz.func70 (by kernel_rfl) rfl
theorem goes92 : Goes Tryz.prog 92 := goes_of Tryz.func92 (by kernel_rfl) rfl
set_option maxHeartbeats 1000000 in
theorem isNaN_any (x : Int) (w : World) : Ans 89 [.int .i64 x] w (fun v w' => v = .bool false ∧ w' = w) := by
  refine calls_qx (args := [.int .i64 x]) 6 Tryz.func89 rfl (by kernel_rfl) (by simp) (fun a hS => ?_)
  refine qx_seq (reg_seq ?_)
  refine seq_is hS (by decide) (runs_assign rfl) (fun a1 hS => ?_)
  refine nil_ok (qx_seq (reg_seq ?_))
  refine seq_is hS (by decide) (runs_move rfl) (fun a1 hS => ?_)
  refine seq_is hS (by decide) (runs_move rfl) (fun a1 hS => ?_)
  refine seq_is hS (by decide) (runs_neq (r := false) rfl rfl (by simp)) (fun a1 hS => ?_)
  refine seq_is hS (by decide) (runs_assign rfl) (fun a1 hS => ?_)
  exact nil_ok (qx_ret (ret1 (t := 2) (by kernel_rfl) hS rfl ⟨_, rfl, rfl, rfl⟩))
set_option maxHeartbeats 1000000 in
theorem compare_any (x y : Int) (w : World) : Ans 71 [.int .i64 x, .int .i64 y] w (fun v w' => v = .int .i64 (Lib.compareInt x y) ∧ w' = w) := by
  refine calls_qx (args := [.int .i64 x, .int .i64 y]) 20 Tryz.func71 rfl (by kernel_rfl) (by simp) (fun a hS => ?_)
  refine qx_seq (reg_seq ?_)
  refine seq_is hS (by decide) (runs_assign rfl) (fun a1 hS => ?_)
  refine nil_ok (qx_seq (reg_seq ?_))
  refine seq_is hS (by decide) (runs_move rfl) (fun a1 hS => ?_)
  refine seq_is hS (by decide) (runs_call (args := [.int .i64 x]) goes89 rfl (isNaN_any x w)) (fun a1 hS => ?_)
  refine seq_is hS (by decide) (runs_assign rfl) (fun a1 hS => ?_)
  refine nil_ok (qx_seq (reg_seq ?_))
  refine seq_is hS (by decide) (runs_move rfl) (fun a1 hS => ?_)
  refine seq_is hS (by decide) (runs_call (args := [.int .i64 y]) goes89 rfl (isNaN_any y w)) (fun a1 hS => ?_)
  refine seq_is hS (by decide) (runs_assign rfl) (fun a1 hS => ?_)
  refine nil_ok (qx_seq (qx_seq (reg_seq ?_)))
  refine seq_is hS (by decide) (runs_move rfl) (fun a1 hS => ?_)
  refine nil_ok (wp_cond_false (hS.eval rfl) (wp_skip (qx_seq (qx_seq (reg_seq ?_)))))
  refine seq_is hS (by decide) (runs_move rfl) (fun a1 hS => ?_)
  refine nil_ok (wp_cond_false (hS.eval rfl) (wp_skip (qx_seq (qx_seq (reg_seq ?_)))))
  refine seq_is hS (by decide) (runs_move rfl) (fun a1 hS => ?_)
  refine seq_is hS (by decide) (runs_move rfl) (fun a1 hS => ?_)
  by_cases h1 : x < y
  · skip
    refine seq_is hS (by decide) (runs_lss (r := true) rfl rfl (by rw [decide_eq_true_eq]; omega)) (fun a1 hS => ?_)
    refine nil_ok (wp_cond_true (hS.eval rfl) (qx_seq (reg_seq ?_)))
    refine seq_is hS (by decide) (runs_assign rfl) (fun a1 hS => ?_)
    exact nil_ok (qx_ret (ret1 (t := 4) (by kernel_rfl) hS rfl ⟨_, rfl, by rw [Lib.compareInt, if_pos h1], rfl⟩))
  · skip
    refine seq_is hS (by decide) (runs_lss (r := false) rfl rfl (by rw [decide_eq_false_iff_not]; omega)) (fun a1 hS => ?_)
    refine nil_ok (wp_cond_false (hS.eval rfl) (wp_skip (qx_seq (qx_seq (reg_seq ?_)))))
    refine seq_is hS (by decide) (runs_move rfl) (fun a1 hS => ?_)
    refine seq_is hS (by decide) (runs_move rfl) (fun a1 hS => ?_)
    by_cases h2 : x > y
    · skip
      refine seq_is hS (by decide) (runs_gtr (r := true) rfl rfl (by rw [decide_eq_true_eq]; omega)) (fun a1 hS => ?_)
      refine nil_ok (wp_cond_true (hS.eval rfl) (qx_seq (reg_seq ?_)))
      refine seq_is hS (by decide) (runs_assign rfl) (fun a1 hS => ?_)
      exact nil_ok (qx_ret (ret1 (t := 4) (by kernel_rfl) hS rfl ⟨_, rfl, by rw [Lib.compareInt, if_neg h1, if_pos h2], rfl⟩))
    · skip
      refine seq_is hS (by decide) (runs_gtr (r := false) rfl rfl (by rw [decide_eq_false_iff_not]; omega)) (fun a1 hS => ?_)
      refine nil_ok (wp_cond_false (hS.eval rfl) (wp_skip (qx_seq (reg_seq ?_))))
      refine seq_is hS (by decide) (runs_assign rfl) (fun a1 hS => ?_)
      exact nil_ok (qx_ret (ret1 (t := 4) (by kernel_rfl) hS rfl ⟨_, rfl, by rw [Lib.compareInt, if_neg h1, if_neg h2], rfl⟩))
set_option maxHeartbeats 1000000 in
theorem or_any (x y : Int) (g : Nat) (w : World) (hG : Has w g 3 [.int .i64 x, .int .i64 y]) : Ans 70 [.slice (some ⟨g, 0, none⟩) 2 2] w (fun v w' => v = .int .i64 (if x = 0 then y else x) ∧ w' = w) := by
  refine calls_qx (args := [.slice (some ⟨g, 0, none⟩) 2 2]) 18 Tryz.func70 rfl (by kernel_rfl) (by simp) (fun a hS => ?_)
  refine qx_seq (reg_seq ?_)
  refine seq_is hS (by decide) (runs_assign rfl) (fun a1 hS => ?_)
  refine nil_ok (qx_seq (reg_seq ?_))
  refine seq_is hS (by decide) (runs_assign rfl) (fun a1 hS => ?_)
  refine nil_ok (qx_seq (qx_seq (reg_seq ?_)))
  refine seq_is hS (by decide) (runs_move rfl) (fun a1 hS => ?_)
  refine seq_is hS (by decide) (runs_len rfl und60) (fun a1 hS => ?_)
  refine seq_is hS (by decide) (runs_move rfl) (fun a1 hS => ?_)
  refine nil_ok (qx_range (fun m a w' => ∃ i : Nat, i ≤ 2 ∧ m = 2 - i ∧ w' = w ∧ (0 < i → x = 0) ∧ (1 < i → y = 0) ∧ Sees 18 [(8, .int .i64 (i : Int)), (7, .int .i64 2), (6, .slice (some ⟨g, 0, none⟩) 2 2), (3, .int .i64 0)] a) 2 ⟨0, by omega, by omega, rfl, by omega, by omega, hS.only _ ⟨rfl, rfl, rfl, rfl, trivial⟩⟩ ?_)
  rintro m a w' ⟨i, hi, rfl, rfl, hx, hy, hS⟩
  refine reg_seq ?_
  by_cases hlt : i < 2
  · skip
    obtain ⟨z, hz, hzz⟩ : ∃ z : Int, w'.cell? ⟨g, 0 + i, none⟩ = some (.int .i64 z) ∧ ((i = 0 ∧ z = x) ∨ (i = 1 ∧ z = y)) := by
      match i, hlt with
      | 0, _ => exact ⟨x, by rw [hG.cell]; rfl, .inl ⟨rfl, rfl⟩⟩
      | 1, _ => exact ⟨y, by rw [hG.cell]; rfl, .inr ⟨rfl, rfl⟩⟩
    refine seq_is hS (by decide) (runs_lss (r := true) rfl rfl (by rw [decide_eq_true_eq]; omega)) (fun a1 hS => ?_)
    refine nil_ok ⟨_, hS.eval rfl, fun h => by simp at h, fun _ => ?_⟩
    refine qx_seq (qx_block (qx_seq (reg_seq ?_)))
    refine seq_is hS (by decide) (runs_indexAddr (j := i) rfl rfl und60 siz3 rfl hlt) (fun a1 hS => ?_)
    refine seq_is hS (by decide) (runs_load rfl und_plain3 hz) (fun a1 hS => ?_)
    refine seq_is hS (by decide) (runs_assign rfl) (fun a1 hS => ?_)
    refine nil_ok (qx_seq (reg_seq ?_))
    refine seq_is hS (by decide) (runs_move rfl) (fun a1 hS => ?_)
    refine seq_is hS (by decide) (runs_move rfl) (fun a1 hS => ?_)
    by_cases h0 : z = 0
    · skip
      refine seq_is hS (by decide) (runs_neq (r := false) rfl rfl (by simp [h0])) (fun a1 hS => ?_)
      refine nil_ok (wp_cond_false (hS.eval rfl) (wp_skip (reg_seq ?_)))
      refine seq_is hS (by decide) (runs_add (r := ((i + 1 : Nat) : Int)) rfl rfl (by simp [IntKind.wrap, IntKind.bits, IntKind.signed]; omega)) (fun a1 hS => ?_)
      refine seq_is hS (by decide) (runs_move rfl) (fun a1 hS => ?_)
      exact nil_ok ⟨_, by omega, i + 1, by omega, rfl, rfl, by omega, by omega, hS.only _ ⟨rfl, rfl, rfl, rfl, trivial⟩⟩
    · skip
      refine seq_is hS (by decide) (runs_neq (r := true) rfl rfl (by simp [h0])) (fun a1 hS => ?_)
      refine nil_ok (wp_cond_true (hS.eval rfl) (qx_seq (reg_seq ?_)))
      refine seq_is hS (by decide) (runs_move rfl) (fun a1 hS => ?_)
      refine seq_is hS (by decide) (runs_assign rfl) (fun a1 hS => ?_)
      refine nil_ok (qx_ret (ret1 (t := 2) (by kernel_rfl) hS rfl ⟨_, rfl, ?_, rfl⟩))
      rcases hzz with ⟨rfl, rfl⟩ | ⟨rfl, rfl⟩
      · rw [if_neg h0]
      · rw [if_pos (hx (by omega))]
  · skip
    refine seq_is hS (by decide) (runs_lss (r := false) rfl rfl (by rw [decide_eq_false_iff_not]; omega)) (fun a1 hS => ?_)
    refine nil_ok ⟨_, hS.eval rfl, fun _ => ?_, fun h => by simp at h⟩
    refine qx_seq (reg_seq ?_)
    refine seq_is hS (by decide) (runs_move rfl) (fun a1 hS => ?_)
    refine seq_is hS (by decide) (runs_assign rfl) (fun a1 hS => ?_)
    exact nil_ok (qx_ret (ret1 (t := 2) (by kernel_rfl) hS rfl ⟨_, rfl, by rw [if_pos (hx (by omega)), hy (by omega)], rfl⟩))
/-- The world has drawn, and has blocks behind. -/
def Grown (W w : World) : Prop := ∃ q os, w = Sort.grow (W.drewN q) os
theorem Grown.refl (W : World) : Grown W W := ⟨0, #[], by rw [Sort.grow_empty]; rfl⟩
theorem Grown.drew {W w : World} (h : Grown W w) : Grown W w.drew := by
  obtain ⟨q, os, rfl⟩ := h
  exact ⟨q + 1, os, rfl⟩
theorem Grown.alloc {W w : World} (h : Grown W w) (o : Obj) : Grown W (w.alloc o) := by
  obtain ⟨q, os, rfl⟩ := h
  exact ⟨q, os ++ #[o], by rw [Sort.alloc_eq_grow, Sort.grow_grow]⟩
theorem Grown.below {W w : World} (h : Grown W w) : Below W.heap.size W w := by
  obtain ⟨q, os, rfl⟩ := h
  refine ⟨rfl, rfl, rfl, by simp [Sort.grow], fun i hi => ?_⟩
  simp only [Sort.grow, World.heap_drewN]
  rw [Array.getElem?_append_left hi]
def cfE (a b : E) : Int := if Lib.compareInt a.1 b.1 = 0 then Lib.compareInt a.2.1 b.2.1 else Lib.compareInt a.1 b.1
set_option maxHeartbeats 1000000 in
theorem cmp_any (x y : E) (W : World) : Ans 93 [.agg (encE x).toArray, .agg (encE y).toArray] W (fun v w' => v = .int .i64 (cfE x y) ∧ Grown W w') := by
  obtain ⟨i3, hi3, hz3, hs3, hb3⟩ := info_parts inf3
  refine calls_qx (args := [.agg (encE x).toArray, .agg (encE y).toArray]) 17 Tryz.func93 rfl (by kernel_rfl) (by simp) (fun a hS => ?_)
  refine qx_seq (reg_seq ?_)
  refine seq_op hS (by decide) (runs_box rfl) (fun v1 w1 a1 hp1 hS => ?_)
  obtain ⟨rfl, hw1⟩ := hp1
  have hg1 : Grown W w1 := by rw [hw1]; exact (Grown.refl W).alloc _
  obtain ⟨hX, hB1⟩ : Has w1 W.heap.size 48 (encE x) ∧ Below W.heap.size W w1 := by rw [hw1]; exact new_box W 48 (encE x)
  clear hw1
  refine seq_op hS (by decide) (runs_box rfl) (fun v2 w2 a2 hp2 hS => ?_)
  obtain ⟨rfl, hw2⟩ := hp2
  have hg2 : Grown W w2 := by rw [hw2]; exact hg1.alloc _
  obtain ⟨hY, hB2⟩ : Has w2 w1.heap.size 48 (encE y) ∧ Below w1.heap.size w1 w2 := by rw [hw2]; exact new_box w1 48 (encE y)
  clear hw2
  have hX := hX.below hB2 hX.lt
  generalize W.heap.size = gx at *
  generalize w1.heap.size = gy at *
  refine seq_is hS (by decide) (runs_assign rfl) (fun a1 hS => ?_)
  refine nil_ok ?_
  refine qx_seq (reg_guard (fun w3 => Grown W w3 ∧ Below w2.heap.size w2 w3) [.inl (.pointer (some ⟨gx, 0 + 0, none⟩)), .inl (.int .i64 x.1), .inl (.pointer (some ⟨gy, 0 + 0, none⟩)), .inl (.int .i64 y.1), .inl (.int .i64 (Lib.compareInt x.1 y.1)), .inl (.pointer (some ⟨gx, 0 + 1, none⟩)), .inl (.int .i64 x.2.1), .inl (.pointer (some ⟨gy, 0 + 1, none⟩)), .inl (.int .i64 y.2.1), .inl (.int .i64 (Lib.compareInt x.2.1 y.2.1)), .inr (fun v w' => ∃ g, v = .slice (some ⟨g, 0, none⟩) 2 2 ∧ Has w' g 3 [.int .i64 (Lib.compareInt x.1 y.1), .int .i64 (Lib.compareInt x.2.1 y.2.1)]), .inl (.int .i64 (cfE x y)), .inl (.int .i64 (cfE x y))] 13 0 mixed rfl (by kernel_rfl) hS ⟨hg2, Below.refl _ _⟩ (fun _ h => ⟨h.1.drew, h.2.drew⟩) ?_)
  refine hs_is rfl (fun w' hw => runs_f45 (by decide) rfl) ?_
  refine hs_is rfl (fun w' hw => runs_load0 rfl (hX.below hw.2 hX.lt)) ?_
  refine hs_is rfl (fun w' hw => runs_f45 (by decide) rfl) ?_
  refine hs_is rfl (fun w' hw => runs_load0 rfl (hY.below hw.2 hY.lt)) ?_
  refine hs_is rfl (fun w' hw => runs_call (args := [.int .i64 x.1, .int .i64 y.1]) goes71 rfl (compare_any x.1 y.1 w')) ?_
  refine hs_is rfl (fun w' hw => runs_f45 (by decide) rfl) ?_
  refine hs_is rfl (fun w' hw => runs_load1 rfl (hX.below hw.2 hX.lt)) ?_
  refine hs_is rfl (fun w' hw => runs_f45 (by decide) rfl) ?_
  refine hs_is rfl (fun w' hw => runs_load1 rfl (hY.below hw.2 hY.lt)) ?_
  refine hs_is rfl (fun w' hw => runs_call (args := [.int .i64 x.2.1, .int .i64 y.2.1]) goes71 rfl (compare_any x.2.1 y.2.1 w')) ?_
  refine hs_pr rfl (fun _ _ _ h hb => by obtain ⟨g, h1, h2⟩ := h; exact ⟨g, h1, h2.below hb h2.lt⟩) (fun w' hw hq => (runs_buildSlice (pv := [(0, .int .i64 (Lib.compareInt x.1 y.1)), (1, .int .i64 (Lib.compareInt x.2.1 y.2.1))]) rfl und60 hi3 hz3 hs3 (by omega) (by omega) (cells := #[.int .i64 (Lib.compareInt x.1 y.1), .int .i64 (Lib.compareInt x.2.1 y.2.1)]) (by kernel_rfl)).mono (by rintro v w3 ⟨rfl, rfl⟩; exact ⟨⟨_, rfl, Has.new w' 3 [.int .i64 (Lib.compareInt x.1 y.1), .int .i64 (Lib.compareInt x.2.1 y.2.1)]⟩, ⟨hw.1.alloc _, hw.2.alloc hw.2.size _⟩, (Below.refl _ _).alloc (Nat.le_refl _) _⟩)) (fun v10 => ?_)
  refine hs_val rfl (fun w' hw hq => (by obtain ⟨g, rfl, hg⟩ := hq (10, _) List.mem_cons_self (by kernel_rfl); exact (runs_call (args := [.slice (some ⟨g, 0, none⟩) 2 2]) goes70 rfl (or_any _ _ g w' hg)).mono (by rintro v w3 ⟨rfl, rfl⟩; exact ⟨rfl, hw, Below.refl _ _⟩))) ?_
  refine hs_is rfl (fun w' hw => runs_assign rfl) ?_
  refine (fun a5 w5 hS5 hC5 _ => ?_)
  refine wpAnyH_done (by kernel_rfl) ?_ _
  exact qx_ret (ret1 (t := 4) (by kernel_rfl) hS5 rfl ⟨_, rfl, rfl, hC5.1⟩)
theorem ltE_cf (a b : E) : ltOf cfE a b = true ↔ ltE a b := by
  unfold ltOf cfE Lib.compareInt ltE
  rw [decide_eq_true_eq]
  split <;> split <;> (try split) <;> (try split) <;> omega
theorem swoE : Sort.SWO (ltOf cfE) where
  irrefl x := by
    cases h : ltOf cfE x x with
    | false => rfl
    | true => exact absurd ((ltE_cf x x).1 h) (ltE_irrefl x)
  trans x y z h1 h2 := by rw [ltE_cf] at *; exact ltE_trans h1 h2
  ntrans x y z h1 h2 := by
    cases h : ltOf cfE x z with
    | false => rfl
    | true =>
      rw [← Bool.not_eq_true, ltE_cf] at h1 h2
      rw [ltE_cf] at h
      unfold ltE at *
      exact absurd h (by omega)
theorem holdsE {w : World} {g : Nat} {cur : Array Value} {es : List E} (hg : w.heap[g]? = some (.cells cur 48 (0, 0))) (h : cur.toList.take (es.length * 3) = cellsE es) : Sort.HoldsK encE 3 w g 0 es.toArray := by
  intro j hj
  simp only [Sort.size_flatK, List.size_toArray] at hj
  rw [Sort.get_flatK _ _ _ _ (by simpa using hj)]
  have hq : j / 3 < es.length := by omega
  have he : es.toArray[j / 3]! = es[j / 3] := by simp [hq]
  have h1 := cellsE_get es (j / 3) es[j / 3] (List.getElem?_eq_getElem hq)
  have h2 : (cellsE es)[j]? = (encE es[j / 3])[j % 3]? := by
    rw [← h1, List.getElem?_take, if_pos (Nat.mod_lt _ (by omega)), List.getElem?_drop, show j / 3 * 3 + j % 3 = j by omega]
  have h3 : (encE es[j / 3])[j % 3]? = some (encE es[j / 3])[j % 3]! := by
    have : j % 3 < (encE es[j / 3]).length := by simp [encE]; omega
    rw [List.getElem?_eq_getElem this, getElem!_pos (encE es[j / 3]) (j % 3) this]
  rw [h3, ← h, List.getElem?_take, if_pos hj] at h2
  rw [he]
  refine ⟨?_, ?_⟩
  · simp only [World.cell?, hg, Nat.zero_add, id]; simpa using h2
  · simp [World.frozen?, hg]
theorem rangeK {w : World} {g : Nat} {d : Array E} (h : Sort.HoldsK encE 3 w g 0 d) : w.rangeAt g 0 (cellsE d.toList) := by
  intro j v hv
  have hj : j < d.toList.length * 3 := by have := (List.getElem?_eq_some_iff.1 hv).1; rwa [cellsE_length] at this
  have hq : j / 3 < d.toList.length := by omega
  have h1 := cellsE_get d.toList (j / 3) d.toList[j / 3] (List.getElem?_eq_getElem hq)
  have h2 : (cellsE d.toList)[j]? = (encE d.toList[j / 3])[j % 3]? := by
    rw [← h1, List.getElem?_take, if_pos (Nat.mod_lt _ (by omega)), List.getElem?_drop, show j / 3 * 3 + j % 3 = j by omega]
  have hd : j / 3 < d.size := by simpa using hq
  have := (h.cell (i := j / 3) (c := j % 3) hd (Nat.mod_lt _ (by omega))).1
  rw [show 0 + j / 3 * 3 + j % 3 = 0 + j by omega] at this
  rw [this, ← hv, h2]
  have he : d[j / 3]! = d.toList[j / 3] := by simp [hd]
  have h3 : j % 3 < (encE d.toList[j / 3]).length := by simp [encE]; omega
  rw [he, List.getElem?_eq_getElem h3, getElem!_pos (encE d.toList[j / 3]) (j % 3) h3]
theorem sortWorld_below {B : Nat} {w : World} {g n : Nat} {d : Array E} {os : Array Obj} (hB : B ≤ g) (hw : B ≤ w.heap.size) : Below B w (sortWorldK encE 3 w g 0 n d os) := by
  refine ⟨rfl, rfl, rfl, ?_, fun i hi => ?_⟩
  · simp only [sortWorldK, Sort.grow, Sort.putRowK, Sort.putRow, Sort.mapBlock, Sort.ahead]
    simp
  · simp only [sortWorldK, Sort.grow, Sort.putRowK, Sort.putRow, Sort.mapBlock, Sort.ahead]
    rw [Array.getElem?_append_left (by simp; omega), Array.getElem?_modify]
    rw [if_neg (by omega)]
theorem sorted_of {es : List E} {d : Array E} (hp : Sort.PermIn 0 es.toArray.size es.toArray d) (hs : Sort.SortedIn (ltOf cfE) 0 es.toArray.size d) (ha : es.Pairwise Apart) : d.toList.Perm es ∧ d.toList.Pairwise ltE := by
  obtain ⟨h1, _, h3⟩ := hp
  have e1 : (d.extract 0 es.toArray.size) = d := by rw [← h1]; simp
  have e2 : (es.toArray.extract 0 es.toArray.size) = es.toArray := by simp
  rw [e1, e2] at h3
  have hperm : d.toList.Perm es := by simpa using h3
  refine ⟨hperm, ?_⟩
  have hap : d.toList.Pairwise Apart := (hperm.pairwise_iff (fun h => apart_comm h)).2 ha
  rw [List.pairwise_iff_getElem] at hap ⊢
  intro i j hi hj hij
  have hsz : d.toList.length = es.length := hperm.length_eq
  have := hs i j (Nat.zero_le _) hij (by simp; omega)
  have hi' : i < d.size := by simpa using hi
  have hj' : j < d.size := by simpa using hj
  rw [getElem!_pos d j hj', getElem!_pos d i hi', ← Bool.not_eq_true, ltE_cf] at this
  have hne := hap i j hi hj hij
  simp only [Array.getElem_toList] at hne ⊢
  unfold ltE at this ⊢
  unfold Apart at hne
  omega
set_option maxHeartbeats 1000000 in
theorem sort_any (es : List E) (hsm : es.length ≤ 512) (ha : es.Pairwise Apart) (B : Nat) (v : Value) (w : World) (hown : w.ownsRow B 48 3 v es.length (cellsE es)) : Ans 92 [v, .func (.func 93) #[] #[]] w (fun _ w' => Below B w w' ∧ ∃ l : List E, l.Perm es ∧ l.Pairwise ltE ∧ EdgesB B w' v l) := by
  rcases hown.2 with ⟨rfl, h0⟩ | ⟨g, cap, cur, rfl, hg, hh, hc1, hc2, hc3, hc4⟩
  · obtain rfl : es = [] := List.eq_nil_of_length_eq_zero h0
    have h := AnyF.slices_SortFunc_none sortE none 0 (.func (.func 93) #[] #[]) w
    change Calls Tryz.prog 92 _ _ _ at h
    exact h.mono (by rintro e w' ⟨rfl, rfl⟩; exact ⟨_, rfl, Below.refl _ _, [], List.Perm.refl _, List.Pairwise.nil, ⟨none, 0, rfl, Nat.le_refl _, by unfold maxLen; omega, fun h => absurd h (by simp)⟩⟩)
  · have hgl : g < w.heap.size := (Array.getElem?_eq_some_iff.1 hh).1
    have hH := holdsE hh hc4
    have eg : ∀ args w, (callFunc 93 args).run Tryz.prog w = .ok (.enter 93 args) w := enters_of Tryz.func93 (by kernel_rfl) rfl
    have hcmp : CmpLays Tryz.prog 93 #[] encE 3 cfE g 0 es.toArray.size w := fun _ _ _ _ x y =>
      (cmp_any x y _).mono (by rintro e w' ⟨v, rfl, rfl, q, os, rfl⟩; exact ⟨rfl, q, os, rfl⟩)
    have h := AnyQ.slices_SortFunc sortE 3 Tryz.isAgg48 Tryz.sizeOf48 encE (fun _ => rfl) (fun x v hv => by simp [encE] at hv; rcases hv with rfl | rfl | rfl <;> rfl) cfE swoE 93 #[] g 0 cap es.toArray w eg hcmp hH hgl (by simp; omega)
    change Calls Tryz.prog 92 _ _ _ at h
    rw [show es.toArray.size = es.length by simp] at h
    refine h.mono ?_
    rintro e w' ⟨rfl, d, n, os, hp, hs, rfl⟩
    obtain ⟨hperm, hsort⟩ := sorted_of (by simpa using hp) (by simpa using hs) ha
    refine ⟨_, rfl, sortWorld_below hg (by omega), d.toList, hperm, hsort, ?_⟩
    have hl : d.toList.length = es.length := hperm.length_eq
    refine ⟨_, cap, by rw [hl], by omega, hc2, fun _ => ⟨g, 0, rfl, hg, ?_, ?_⟩⟩
    · have := (sortWorld_below (B := w.heap.size) (w := w) (g := w.heap.size) (n := n) (d := d) (os := os) (Nat.le_refl _) (Nat.le_refl _)).size
      have h2 := (sortWorld_below (B := 0) (w := w) (g := g) (n := n) (d := d) (os := os) (Nat.zero_le _) (Nat.zero_le _)).size
      exact Nat.lt_of_lt_of_le hgl h2
    · refine rangeK ?_
      unfold sortWorldK
      have hH2 := Sort.holdsK_ahead (enc := encE) (k := 3) w n g 0 es.toArray hH
      have hH3 := Sort.holdsK_putRowK (enc := encE) (k := 3) (Sort.ahead w n) g 0 es.toArray d hH2 hp.1
      exact Sort.holdsK_grow (enc := encE) (k := 3) _ os g 0 d (by simp [Sort.putRowK, Sort.putRow, Sort.mapBlock, Sort.ahead]; exact hgl) hH3
end Go.Proofs.YtapcpmalgdhakaaGreat
