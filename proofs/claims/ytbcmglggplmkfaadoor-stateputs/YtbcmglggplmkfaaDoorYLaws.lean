/- Layer 10: four of its laws, walked. -/
import Derived.Test.YtbcmglggplmkfaaDoorYAwake
import Derived.Test.YtbcmglggplmkfaaDoorYRGet
namespace Go.Proofs.YtbcmglggplmkfaaDoor
open Go.RowKit
set_option maxRecDepth 100000

theorem putX_right {x : Vx} (h : rightX x = true) : putX x = S (bytesX x) := by unfold putX; rw [if_pos h]
theorem putX_wrong {x : Vx} (h : ¬ rightX x = true) : bl (putX x) = [] := by unfold putX; rw [if_neg h]; rfl
theorem putX_size {x : Vx} (h : rightX x = true) : 5 ≤ (putX x).size ∧ (putX x).size ≤ 19 := by rw [putX_right h, S_size]; exact bytesX_size h
theorem bl_putX {x : Vx} (h : rightX x = true) : bl (putX x) = bytesX x := by rw [putX_right h, bl_S (bytesX_lt x)]
set_option maxHeartbeats 1000000 in
theorem sizes_law (x : Vx) (w : World) (hk : Kept w)  : Ans 7 [vv x] w (fun u w' => u = .bool true ∧ Below w.heap.size w w') := by
  refine calls_qx (args := [.agg (vc x).toArray]) 25 Tryd.func7 rfl (by kernel_rfl) (by simp) (fun a hS => ?_)
  have hB := Below.refl w.heap.size w
  refine qx_seq (reg_seq ?_)
  refine seq_op hS (by decide) (runs_boxB (cs := vc x) rfl rfl) (fun v1 w1 a1 hp hS => ?_)
  obtain ⟨rfl, hM1, hB1⟩ := hp
  have hB := hB.trans (hB1.mono hB.size)
  refine sI hS (runs_assign rfl) fun _ hS => ?_
  refine nil_ok (qx_seq (reg_seq ?_))
  refine sI hS (runs_loadRow rfl hM1 Tryd.underlying23 rfl (by rw [sz28]; rfl)) fun _ hS => ?_
  refine seq_op hS (by decide) (runs_call (args := [.agg (vc x).toArray]) goes9 rfl (sput_any x w1)) (fun v3 w3 a1 hp hS => ?_)
  obtain ⟨rfl, hB3⟩ := hp
  have hB := hB.trans (hB3.mono hB.size)
  have hM1 := hM1.below hB3 hM1.lt
  refine sI hS (runs_assign rfl) fun _ hS => ?_
  refine nil_ok (qx_seq (qx_seq (reg_seq ?_)))
  refine sI hS (runs_loadRow rfl hM1 Tryd.underlying23 rfl (by rw [sz28]; rfl)) fun _ hS => ?_
  refine seq_op hS (by decide) (runs_call (args := [.agg (vc x).toArray]) goes13 rfl (scheck_any x w3)) (fun v5 w5 a1 hp hS => ?_)
  obtain ⟨rfl, hB5⟩ := hp
  have hB := hB.trans (hB5.mono hB.size)
  by_cases hr : ¬ rightX x = true
  · skip
    refine sI hS (runs_neq (r := true) rfl rfl (by rw [if_neg hr]; rfl)) fun _ hS => ?_
    refine nil_ok (wp_cond_true (hS.eval rfl) (qx_seq (reg_seq ?_)))
    refine seq_op hS (by decide) (runs_call (args := []) goes10 rfl (sawake_any w5 (hk.below hB hk.pos))) (fun v7 w7 a1 hp hS => ?_)
    obtain ⟨rfl, hB7⟩ := hp
    have hB := hB.trans (hB7.mono hB.size)
    refine sI hS (runs_move rfl) fun _ hS => ?_
    refine sY hS (runs_move rfl) fun _ hS => ?_
    refine sY hS (runs_eqStr (r := true) rfl rfl (by rw [putX_wrong hr]; rfl)) fun _ hS => ?_
    refine sI hS (runs_pick rfl rfl) fun _ hS => ?_
    refine sI hS (runs_assign rfl) fun _ hS => ?_
    exact nil_ok (qx_ret (ret1 (t := 2) (by kernel_rfl) hS rfl ⟨_, rfl, rfl, hB⟩))
  refine sI hS (runs_neq (r := false) rfl rfl (by rw [if_pos (Classical.not_not.1 hr)]; rfl)) fun _ hS => ?_
  refine nil_ok (wp_cond_false (hS.eval rfl) (wp_skip (qx_seq (?_))))
  obtain ⟨z1, z2⟩ := putX_size (Classical.not_not.1 hr)
  refine reg_seq ?_
  refine seq_op hS (by decide) (runs_call (args := []) goes10 rfl (sawake_any w5 (hk.below hB hk.pos))) (fun v9 w9 a1 hp hS => ?_)
  obtain ⟨rfl, hB9⟩ := hp
  have hB := hB.trans (hB9.mono hB.size)
  refine sI hS (runs_move rfl) fun _ hS => ?_
  refine sY hS (runs_move rfl) fun _ hS => ?_
  refine sY hS (runs_lens rfl und9) fun _ hS => ?_
  refine sY hS (runs_geq (r := true) rfl rfl (by first | rfl | (simp; done) | (simp; omega))) fun _ hS => ?_
  refine sI hS (runs_pick rfl rfl) fun _ hS => ?_
  refine sI hS (runs_move rfl) fun _ hS => ?_
  refine sY hS (runs_move rfl) fun _ hS => ?_
  refine sY hS (runs_lens rfl und9) fun _ hS => ?_
  refine sY hS (runs_leq (r := true) rfl rfl (by first | rfl | (simp; done) | (simp; omega))) fun _ hS => ?_
  refine sI hS (runs_pick rfl rfl) fun _ hS => ?_
  refine sI hS (runs_assign rfl) fun _ hS => ?_
  exact nil_ok (qx_ret (ret1 (t := 2) (by kernel_rfl) hS rfl ⟨_, rfl, rfl, hB⟩))
set_option maxHeartbeats 1000000 in
theorem gets_law (s : ByteArray) (w : World) (hk : Kept w)  : Ans 4 [.string s] w (fun u w' => u = .bool true ∧ Below w.heap.size w w') := by
  refine calls_qx (args := [.string s]) 43 Tryd.func4 rfl (by kernel_rfl) (by simp) (fun a hS => ?_)
  have hB := Below.refl w.heap.size w
  refine qx_seq (reg_seq ?_)
  refine sI hS (runs_assign rfl) fun _ hS => ?_
  refine nil_ok (qx_seq (qx_seq (reg_seq ?_)))
  refine seq_op hS (by decide) (runs_call (args := []) goes10 rfl (sawake_any w (hk.below hB hk.pos))) (fun v1 w1 a1 hp hS => ?_)
  obtain ⟨rfl, hB1⟩ := hp
  have hB := hB.trans (hB1.mono hB.size)
  refine sI hS (runs_not (b := true) rfl) fun _ hS => ?_
  refine sI hS (runs_move rfl) fun _ hS => ?_
  refine sY hS (runs_move rfl) fun _ hS => ?_
  refine sY hS (runs_lens rfl und9) fun _ hS => ?_
  by_cases hbig : 200 < s.size
  · skip
    refine sY hS (gtrT rfl rfl (by omega)) fun _ hS => ?_
    refine sI hS (runs_pick rfl rfl) fun _ hS => ?_
    refine nil_ok (wp_cond_true (hS.eval rfl) (qx_seq (reg_seq ?_)))
    refine seq_op hS (by decide) (runs_call (args := []) goes10 rfl (sawake_any w1 (hk.below hB hk.pos))) (fun v3 w3 a1 hp hS => ?_)
    obtain ⟨rfl, hB3⟩ := hp
    have hB := hB.trans (hB3.mono hB.size)
    refine sI hS (runs_assign rfl) fun _ hS => ?_
    exact nil_ok (qx_ret (ret1 (t := 2) (by kernel_rfl) hS rfl ⟨_, rfl, rfl, hB⟩))
  refine sY hS (gtrF rfl rfl (by omega)) fun _ hS => ?_
  refine sI hS (runs_pick rfl rfl) fun _ hS => ?_
  refine nil_ok (wp_cond_false (hS.eval rfl) (wp_skip (qx_seq (?_))))
  obtain ⟨X, E, hXE⟩ : ∃ X E, getX (bl s) = (X, E) := ⟨_, _, rfl⟩
  have hget := fun w => sget_any s w
  have hrget := fun w => rget_any s (by omega) w
  rw [hXE] at hget hrget
  refine reg_seq ?_
  refine sI hS (runs_move rfl) fun _ hS => ?_
  refine seq_op hS (by decide) (runs_call (args := [.string s]) goes14 rfl (hget w1)) (fun v5 w5 a1 hp hS => ?_)
  obtain ⟨rfl, hB5⟩ := hp
  have hB := hB.trans (hB5.mono hB.size)
  refine sI hS (runs_move rfl) fun _ hS => ?_
  refine sI hS (runs_extract rfl rfl) fun _ hS => ?_
  refine sI hS (runs_extract rfl rfl) fun _ hS => ?_
  refine seq_op hS (by decide) (runs_allocB (cs := [.int .i64 0, .int .i64 0, .bool false, .bool false, .int .i64 0]) zo28 rfl) (fun v7 w7 a1 hp hS => ?_)
  obtain ⟨rfl, hM7, hB7⟩ := hp
  have hLhM7 : w.heap.size ≤ w5.heap.size := hB.size
  have hB := hB.trans (hB7.mono hB.size)
  refine seq_none hS (runs_storeB (cs := vc X) rfl rfl hM7 rfl rfl sz28) (fun v9 w9 a1 hp hS => ?_)
  obtain ⟨hM7, hU9⟩ := hp
  have hB := But.new hB hU9 (fun i e => by rw [e]; exact hLhM7) (Nat.le_refl _)
  refine sI hS (runs_assign rfl) fun _ hS => ?_
  refine nil_ok (qx_seq (reg_seq ?_))
  refine sI hS (runs_move rfl) fun _ hS => ?_
  refine seq_op hS (by decide) (runs_call (args := [.string s]) goes15 rfl (hrget w9)) (fun v11 w11 a1 hp hS => ?_)
  obtain ⟨rfl, hB11⟩ := hp
  have hB := hB.trans (hB11.mono hB.size)
  have hM7 := hM7.below hB11 hM7.lt
  refine sI hS (runs_move rfl) fun _ hS => ?_
  refine sI hS (runs_extract rfl rfl) fun _ hS => ?_
  refine sI hS (runs_extract rfl rfl) fun _ hS => ?_
  refine seq_op hS (by decide) (runs_allocB (cs := [.int .i64 0, .int .i64 0, .bool false, .bool false, .int .i64 0]) zo28 rfl) (fun v13 w13 a1 hp hS => ?_)
  obtain ⟨rfl, hM13, hB13⟩ := hp
  have hLhM13 : w.heap.size ≤ w11.heap.size := hB.size
  have hNhM7hM13 : w5.heap.size ≠ w11.heap.size := by have := hM7.lt; omega
  have hB := hB.trans (hB13.mono hB.size)
  have hM7 := hM7.below hB13 hM7.lt
  refine seq_none hS (runs_storeB (cs := vc X) rfl rfl hM13 rfl rfl sz28) (fun v15 w15 a1 hp hS => ?_)
  obtain ⟨hM13, hU15⟩ := hp
  have hB := But.new hB hU15 (fun i e => by rw [e]; exact hLhM13) (Nat.le_refl _)
  have hM7 := hM7.but hU15 (hNhM7hM13)
  refine sI hS (runs_assign rfl) fun _ hS => ?_
  refine nil_ok (qx_seq (reg_seq ?_))
  refine sI hS (runs_loadRow rfl hM7 Tryd.underlying23 rfl (by rw [sz28]; rfl)) fun _ hS => ?_
  refine sI hS (runs_loadRow rfl hM13 Tryd.underlying23 rfl (by rw [sz28]; rfl)) fun _ hS => ?_
  refine sI hS (runs_eqV (r := true) rfl rfl (by simp)) fun _ hS => ?_
  refine sI hS (runs_move rfl) fun _ hS => ?_
  refine sY hS (runs_move rfl) fun _ hS => ?_
  refine sY hS (runs_move rfl) fun _ hS => ?_
  refine sY hS (runs_eql (r := true) rfl rfl (by simp)) fun _ hS => ?_
  refine sI hS (runs_pick rfl rfl) fun _ hS => ?_
  refine sI hS (runs_move rfl) fun _ hS => ?_
  refine sY hS (runs_move rfl) fun _ hS => ?_
  by_cases he : E ≠ 0
  · skip
    refine sY hS (runs_neq (r := true) rfl rfl (by simpa using he)) fun _ hS => ?_
    refine sY hS (runs_move rfl) fun _ hS => ?_
    refine sN hS fun _ hS => ?_
    refine sN hS fun _ hS => ?_
    refine sN hS fun _ hS => ?_
    refine sN hS fun _ hS => ?_
    refine sY hS (runs_pick rfl rfl) fun _ hS => ?_
    refine sI hS (runs_pick rfl rfl) fun _ hS => ?_
    refine sI hS (runs_assign rfl) fun _ hS => ?_
    exact nil_ok (qx_ret (ret1 (t := 2) (by kernel_rfl) hS rfl ⟨_, rfl, rfl, hB⟩))
  refine sY hS (runs_neq (r := false) rfl rfl (by simpa using he)) fun _ hS => ?_
  refine sY hS (runs_move rfl) fun _ hS => ?_
  refine sY hS (runs_loadRow rfl hM7 Tryd.underlying23 rfl (by rw [sz28]; rfl)) fun _ hS => ?_
  refine seq_yes hS (by decide) rfl (by decide) rfl (runs_call (args := [.agg (vc X).toArray]) goes9 rfl (sput_any X w15)) (fun v17 w17 a1 hp hS => ?_)
  obtain ⟨rfl, hB17⟩ := hp
  have hB := hB.trans (hB17.mono hB.size)
  refine sY hS (runs_move rfl) fun _ hS => ?_
  refine sY hS (runs_eqStr (r := true) rfl rfl (by obtain ⟨r1, r2⟩ := getX_back (bl_bytes s) (show (getX (bl s)).2 = 0 by rw [hXE]; exact Classical.not_not.1 he); rw [hXE] at r1 r2; rw [bl_putX r1, r2]; simp)) fun _ hS => ?_
  refine sY hS (runs_pick rfl rfl) fun _ hS => ?_
  refine sI hS (runs_pick rfl rfl) fun _ hS => ?_
  refine sI hS (runs_assign rfl) fun _ hS => ?_
  exact nil_ok (qx_ret (ret1 (t := 2) (by kernel_rfl) hS rfl ⟨_, rfl, rfl, hB⟩))
set_option maxHeartbeats 1000000 in
theorem apart_law (x y : Vx) (w : World) (hk : Kept w)  : Ans 5 [vv x, vv y] w (fun u w' => u = .bool true ∧ Below w.heap.size w w') := by
  refine calls_qx (args := [.agg (vc x).toArray, .agg (vc y).toArray]) 26 Tryd.func5 rfl (by kernel_rfl) (by simp) (fun a hS => ?_)
  have hB := Below.refl w.heap.size w
  refine qx_seq (reg_seq ?_)
  refine seq_op hS (by decide) (runs_boxB (cs := vc x) rfl rfl) (fun v1 w1 a1 hp hS => ?_)
  obtain ⟨rfl, hM1, hB1⟩ := hp
  have hB := hB.trans (hB1.mono hB.size)
  refine seq_op hS (by decide) (runs_boxB (cs := vc y) rfl rfl) (fun v3 w3 a1 hp hS => ?_)
  obtain ⟨rfl, hM3, hB3⟩ := hp
  have hB := hB.trans (hB3.mono hB.size)
  have hM1 := hM1.below hB3 hM1.lt
  refine sI hS (runs_assign rfl) fun _ hS => ?_
  refine nil_ok (qx_seq (qx_seq (reg_seq ?_)))
  refine sI hS (runs_loadRow rfl hM1 Tryd.underlying23 rfl (by rw [sz28]; rfl)) fun _ hS => ?_
  refine seq_op hS (by decide) (runs_call (args := [.agg (vc x).toArray]) goes13 rfl (scheck_any x w3)) (fun v5 w5 a1 hp hS => ?_)
  obtain ⟨rfl, hB5⟩ := hp
  have hB := hB.trans (hB5.mono hB.size)
  have hM1 := hM1.below hB5 hM1.lt
  have hM3 := hM3.below hB5 hM3.lt
  by_cases hr : ¬ rightX x = true
  · skip
    refine sI hS (runs_neq (r := true) rfl rfl (by rw [if_neg hr]; rfl)) fun _ hS => ?_
    refine sI hS (runs_move rfl) fun _ hS => ?_
    refine sN hS fun _ hS => ?_
    refine sN hS fun _ hS => ?_
    refine sN hS fun _ hS => ?_
    refine sI hS (runs_pick rfl rfl) fun _ hS => ?_
    refine nil_ok (wp_cond_true (hS.eval rfl) (qx_seq (reg_seq ?_)))
    refine seq_op hS (by decide) (runs_call (args := []) goes10 rfl (sawake_any w5 (hk.below hB hk.pos))) (fun v7 w7 a1 hp hS => ?_)
    obtain ⟨rfl, hB7⟩ := hp
    have hB := hB.trans (hB7.mono hB.size)
    have hM1 := hM1.below hB7 hM1.lt
    have hM3 := hM3.below hB7 hM3.lt
    refine sI hS (runs_assign rfl) fun _ hS => ?_
    exact nil_ok (qx_ret (ret1 (t := 4) (by kernel_rfl) hS rfl ⟨_, rfl, rfl, hB⟩))
  refine sI hS (runs_neq (r := false) rfl rfl (by rw [if_pos (Classical.not_not.1 hr)]; rfl)) fun _ hS => ?_
  refine sI hS (runs_move rfl) fun _ hS => ?_
  refine sY hS (runs_loadRow rfl hM3 Tryd.underlying23 rfl (by rw [sz28]; rfl)) fun _ hS => ?_
  refine seq_yes hS (by decide) rfl (by decide) rfl (runs_call (args := [.agg (vc y).toArray]) goes13 rfl (scheck_any y w5)) (fun v9 w9 a1 hp hS => ?_)
  obtain ⟨rfl, hB9⟩ := hp
  have hB := hB.trans (hB9.mono hB.size)
  have hM1 := hM1.below hB9 hM1.lt
  have hM3 := hM3.below hB9 hM3.lt
  by_cases hr2 : ¬ rightX y = true
  · skip
    refine sY hS (runs_neq (r := true) rfl rfl (by rw [if_neg hr2]; rfl)) fun _ hS => ?_
    refine sI hS (runs_pick rfl rfl) fun _ hS => ?_
    refine nil_ok (wp_cond_true (hS.eval rfl) (qx_seq (reg_seq ?_)))
    refine seq_op hS (by decide) (runs_call (args := []) goes10 rfl (sawake_any w9 (hk.below hB hk.pos))) (fun v11 w11 a1 hp hS => ?_)
    obtain ⟨rfl, hB11⟩ := hp
    have hB := hB.trans (hB11.mono hB.size)
    have hM1 := hM1.below hB11 hM1.lt
    have hM3 := hM3.below hB11 hM3.lt
    refine sI hS (runs_assign rfl) fun _ hS => ?_
    exact nil_ok (qx_ret (ret1 (t := 4) (by kernel_rfl) hS rfl ⟨_, rfl, rfl, hB⟩))
  refine sY hS (runs_neq (r := false) rfl rfl (by rw [if_pos (Classical.not_not.1 hr2)]; rfl)) fun _ hS => ?_
  refine sI hS (runs_pick rfl rfl) fun _ hS => ?_
  replace hr := Classical.not_not.1 hr
  replace hr2 := Classical.not_not.1 hr2
  have hap : (bl (putX x) == bl (putX y)) = decide (x = y) := by
    rw [bl_putX hr, bl_putX hr2]
    by_cases e : x = y
    · subst e; simp
    · simp only [e, decide_false, beq_eq_false_iff_ne, ne_eq]; exact fun h => e (bytesX_inj hr hr2 h)
  refine nil_ok (wp_cond_false (hS.eval rfl) (wp_skip (qx_seq (reg_guard (fun w' => Below w9.heap.size w9 w') [.inl (.bool true), .inl (.bool true), .inl (.agg (vc x).toArray), .inl (.string (putX x)), .inl (.agg (vc y).toArray), .inl (.string (putX y)), .inl (.bool (decide (x = y))), .inl (.agg (vc x).toArray), .inl (.agg (vc y).toArray), .inl (.bool (decide (x = y))), .inl (.bool true), .inl (.bool true)] 12 1 mixed rfl (by kernel_rfl) hS (Below.refl _ _) (fun _ h => h.drew) ?_))))
  refine hs_val rfl (fun w' hw hq => (runs_call (args := []) goes10 rfl (sawake_any w' (hk.below (hB.trans (hw.mono hB.size)) hk.pos))).mono (by rintro u w3 ⟨rfl, h1⟩; exact ⟨rfl, hw.trans (h1.mono hw.size), h1⟩)) ?_
  refine hs_is rfl (fun w' hw => runs_move rfl) ?_
  refine hs_yis rfl rfl (fun w' hw => runs_loadRow rfl (hM1.below hw hM1.lt) Tryd.underlying23 rfl (by rw [sz28]; rfl)) ?_
  refine hs_yval rfl rfl (fun w' hw hq => (runs_call (args := [.agg (vc x).toArray]) goes9 rfl (sput_any x w')).mono (by rintro u w3 ⟨rfl, h1⟩; exact ⟨rfl, hw.trans (h1.mono hw.size), h1⟩)) ?_
  refine hs_yis rfl rfl (fun w' hw => runs_loadRow rfl (hM3.below hw hM3.lt) Tryd.underlying23 rfl (by rw [sz28]; rfl)) ?_
  refine hs_yval rfl rfl (fun w' hw hq => (runs_call (args := [.agg (vc y).toArray]) goes9 rfl (sput_any y w')).mono (by rintro u w3 ⟨rfl, h1⟩; exact ⟨rfl, hw.trans (h1.mono hw.size), h1⟩)) ?_
  refine hs_yis rfl rfl (fun w' hw => runs_eqStr rfl rfl hap) ?_
  refine hs_yis rfl rfl (fun w' hw => runs_loadRow rfl (hM1.below hw hM1.lt) Tryd.underlying23 rfl (by rw [sz28]; rfl)) ?_
  refine hs_yis rfl rfl (fun w' hw => runs_loadRow rfl (hM3.below hw hM3.lt) Tryd.underlying23 rfl (by rw [sz28]; rfl)) ?_
  refine hs_yis rfl rfl (fun w' hw => runs_eqV rfl rfl rfl) ?_
  refine hs_yis rfl rfl (fun w' hw => runs_bin rfl rfl rfl (by rw [run_eql_bool _ 4 _ _ (by kernel_rfl)]; simp)) ?_
  refine hs_is rfl (fun w' hw => runs_pick rfl rfl) ?_
  refine (fun a13 w13 hS hB13 hq => ?_)
  clear hq
  have hB := hB.trans (hB13.mono hB.size)
  refine tail_op 12 (by kernel_rfl) rfl hS (by decide) (runs_assign rfl) (fun v15 w15 a15 hp hS => ⟨trivial, ?_⟩)
  obtain ⟨rfl, rfl⟩ := hp
  refine wpAnyH_done (by kernel_rfl) ?_ _
  exact qx_ret (ret1 (t := 4) (by kernel_rfl) hS rfl ⟨_, rfl, rfl, hB⟩)
set_option maxHeartbeats 1000000 in
theorem puts_law (x : Vx) (w : World) (hk : Kept w)  : Ans 3 [vv x] w (fun u w' => u = .bool true ∧ Below w.heap.size w w') := by
  refine calls_qx (args := [.agg (vc x).toArray]) 43 Tryd.func3 rfl (by kernel_rfl) (by simp) (fun a hS => ?_)
  have hB := Below.refl w.heap.size w
  refine qx_seq (reg_seq ?_)
  refine seq_op hS (by decide) (runs_boxB (cs := vc x) rfl rfl) (fun v1 w1 a1 hp hS => ?_)
  obtain ⟨rfl, hM1, hB1⟩ := hp
  have hB := hB.trans (hB1.mono hB.size)
  refine sI hS (runs_assign rfl) fun _ hS => ?_
  refine nil_ok (qx_seq (reg_seq ?_))
  refine sI hS (runs_loadRow rfl hM1 Tryd.underlying23 rfl (by rw [sz28]; rfl)) fun _ hS => ?_
  refine seq_op hS (by decide) (runs_call (args := [.agg (vc x).toArray]) goes9 rfl (sput_any x w1)) (fun v3 w3 a1 hp hS => ?_)
  obtain ⟨rfl, hB3⟩ := hp
  have hB := hB.trans (hB3.mono hB.size)
  have hM1 := hM1.below hB3 hM1.lt
  refine sI hS (runs_assign rfl) fun _ hS => ?_
  refine nil_ok (qx_seq (qx_seq (reg_seq ?_)))
  refine seq_op hS (by decide) (runs_call (args := []) goes10 rfl (sawake_any w3 (hk.below hB hk.pos))) (fun v5 w5 a1 hp hS => ?_)
  obtain ⟨rfl, hB5⟩ := hp
  have hB := hB.trans (hB5.mono hB.size)
  have hM1 := hM1.below hB5 hM1.lt
  refine sI hS (runs_not (b := true) rfl) fun _ hS => ?_
  refine sI hS (runs_move rfl) fun _ hS => ?_
  refine sY hS (runs_move rfl) fun _ hS => ?_
  refine sY hS (runs_loadRow rfl hM1 Tryd.underlying23 rfl (by rw [sz28]; rfl)) fun _ hS => ?_
  refine seq_yes hS (by decide) rfl (by decide) rfl (runs_call (args := [.agg (vc x).toArray]) goes11 rfl (rput_any x w5)) (fun v7 w7 a1 hp hS => ?_)
  obtain ⟨rfl, hB7⟩ := hp
  have hB := hB.trans (hB7.mono hB.size)
  have hM1 := hM1.below hB7 hM1.lt
  refine sY hS (runs_neStr (r := false) rfl rfl (by simp)) fun _ hS => ?_
  refine sI hS (runs_pick rfl rfl) fun _ hS => ?_
  refine nil_ok (wp_cond_false (hS.eval rfl) (wp_skip (qx_seq (qx_seq (reg_seq ?_)))))
  refine sI hS (runs_loadRow rfl hM1 Tryd.underlying23 rfl (by rw [sz28]; rfl)) fun _ hS => ?_
  refine seq_op hS (by decide) (runs_call (args := [.agg (vc x).toArray]) goes12 rfl (rright_any x w7)) (fun v9 w9 a1 hp hS => ?_)
  obtain ⟨rfl, hB9⟩ := hp
  have hB := hB.trans (hB9.mono hB.size)
  have hM1 := hM1.below hB9 hM1.lt
  by_cases hr : rightX x = true
  · skip
    rw [hr] at hS
    refine sI hS (runs_not (b := true) rfl) fun _ hS => ?_
    refine nil_ok (wp_cond_false (hS.eval rfl) (wp_skip (qx_seq (reg_seq ?_))))
    refine sI hS (runs_move rfl) fun _ hS => ?_
    refine seq_op hS (by decide) (runs_call (args := [.string (putX x)]) goes14 rfl (sget_any (putX x) w9)) (fun v11 w11 a1 hp hS => ?_)
    rw [bl_putX hr, getX_bytes hr] at hp
    obtain ⟨rfl, hB11⟩ := hp
    have hB := hB.trans (hB11.mono hB.size)
    have hM1 := hM1.below hB11 hM1.lt
    refine sI hS (runs_move rfl) fun _ hS => ?_
    refine sI hS (runs_extract rfl rfl) fun _ hS => ?_
    refine sI hS (runs_extract rfl rfl) fun _ hS => ?_
    refine seq_op hS (by decide) (runs_allocB (cs := [.int .i64 0, .int .i64 0, .bool false, .bool false, .int .i64 0]) zo28 rfl) (fun v13 w13 a1 hp hS => ?_)
    obtain ⟨rfl, hM13, hB13⟩ := hp
    have hLhM13 : w.heap.size ≤ w11.heap.size := hB.size
    have hNhM1hM13 : w.heap.size ≠ w11.heap.size := by have := hM1.lt; omega
    have hB := hB.trans (hB13.mono hB.size)
    have hM1 := hM1.below hB13 hM1.lt
    refine seq_none hS (runs_storeB (cs := vc x) rfl rfl hM13 rfl rfl sz28) (fun v15 w15 a1 hp hS => ?_)
    obtain ⟨hM13, hU15⟩ := hp
    have hB := But.new hB hU15 (fun i e => by rw [e]; exact hLhM13) (Nat.le_refl _)
    have hM1 := hM1.but hU15 (hNhM1hM13)
    refine sI hS (runs_assign rfl) fun _ hS => ?_
    refine nil_ok (qx_seq (reg_seq ?_))
    refine sI hS (runs_loadRow rfl hM13 Tryd.underlying23 rfl (by rw [sz28]; rfl)) fun _ hS => ?_
    refine sI hS (runs_loadRow rfl hM1 Tryd.underlying23 rfl (by rw [sz28]; rfl)) fun _ hS => ?_
    refine sI hS (runs_eqV (r := true) rfl rfl (by simp)) fun _ hS => ?_
    refine sI hS (runs_move rfl) fun _ hS => ?_
    refine sY hS (runs_move rfl) fun _ hS => ?_
    refine sY hS (runs_eql (r := true) rfl rfl (by simp)) fun _ hS => ?_
    refine sI hS (runs_pick rfl rfl) fun _ hS => ?_
    refine sI hS (runs_move rfl) fun _ hS => ?_
    refine sY hS (runs_loadRow rfl hM1 Tryd.underlying23 rfl (by rw [sz28]; rfl)) fun _ hS => ?_
    refine seq_yes hS (by decide) rfl (by decide) rfl (runs_call (args := [.agg (vc x).toArray]) goes13 rfl (scheck_any x w15)) (fun v17 w17 a1 hp hS => ?_)
    obtain ⟨rfl, hB17⟩ := hp
    have hB := hB.trans (hB17.mono hB.size)
    have hM1 := hM1.below hB17 hM1.lt
    refine sY hS (runs_eql (r := true) rfl rfl (by rw [if_pos hr]; rfl)) fun _ hS => ?_
    refine sI hS (runs_pick rfl rfl) fun _ hS => ?_
    refine sI hS (runs_assign rfl) fun _ hS => ?_
    exact nil_ok (qx_ret (ret1 (t := 2) (by kernel_rfl) hS rfl ⟨_, rfl, rfl, hB⟩))
  · skip
    rw [Bool.eq_false_iff.2 hr] at hS
    refine sI hS (runs_not (b := false) rfl) fun _ hS => ?_
    refine nil_ok (wp_cond_true (hS.eval rfl) (qx_seq (reg_seq ?_)))
    refine sI hS (runs_move rfl) fun _ hS => ?_
    refine sI hS (runs_eqStr (r := true) rfl rfl (by rw [putX_wrong hr]; rfl)) fun _ hS => ?_
    refine sI hS (runs_move rfl) fun _ hS => ?_
    refine sY hS (runs_loadRow rfl hM1 Tryd.underlying23 rfl (by rw [sz28]; rfl)) fun _ hS => ?_
    refine seq_yes hS (by decide) rfl (by decide) rfl (runs_call (args := [.agg (vc x).toArray]) goes13 rfl (scheck_any x w9)) (fun v19 w19 a1 hp hS => ?_)
    obtain ⟨rfl, hB19⟩ := hp
    have hB := hB.trans (hB19.mono hB.size)
    refine sY hS (runs_eql (r := true) rfl rfl (by rw [if_neg hr]; rfl)) fun _ hS => ?_
    refine sI hS (runs_pick rfl rfl) fun _ hS => ?_
    refine sI hS (runs_assign rfl) fun _ hS => ?_
    exact nil_ok (qx_ret (ret1 (t := 2) (by kernel_rfl) hS rfl ⟨_, rfl, rfl, hB⟩))
end Go.Proofs.YtbcmglggplmkfaaDoor
