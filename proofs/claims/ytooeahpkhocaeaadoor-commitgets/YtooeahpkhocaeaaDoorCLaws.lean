/- Layer 12: four of its laws, walked over the contracts of what they call. -/
import Derived.Test.YtooeahpkhocaeaaDoorCRow
import Derived.Test.YtooeahpkhocaeaaDoorJ35
import Derived.Test.YtooeahpkhocaeaaDoorCRGet
import Derived.Test.YtooeahpkhocaeaaDoorCRPut
namespace Go.Proofs.YtooeahpkhocaeaaDoor
open Go.RowKit
set_option maxRecDepth 100000

theorem goes9 : Goes Tryd.prog 9 := goes_of Tryd.func9 (by kernel_rfl) rfl
theorem goes12 : Goes Tryd.prog 12 := goes_of Tryd.func12 (by kernel_rfl) rfl
theorem goes16 : Goes Tryd.prog 16 := goes_of Tryd.func16 (by kernel_rfl) rfl
theorem goes17 : Goes Tryd.prog 17 := goes_of Tryd.func17 (by kernel_rfl) rfl
set_option maxHeartbeats 1000000 in
theorem puts_law (hAw : CAwkC) (hP : CPutC) (hG : CGetC) (hRP : RPutC) (c : Cm) (u : Value) (w : World) (hC : CmV w u c) (hF : FitsC c) (hk : Kept w) : Ans 3 [u] w (fun u w' => u = .bool true ∧ Below w.heap.size w w') := by
  obtain ⟨x, rfl, hH, hl, hby⟩ := id hC
  obtain ⟨A, cc, rfl, hc1, hc2, hHo, -⟩ := id hH
  have ho := hC.ok
  refine calls_qx (args := [.agg (cmc c (.slice A c.bs.length cc)).toArray]) 53 Tryd.func3 rfl (by kernel_rfl) (by simp) (fun a hS => ?_)
  have hB := Below.refl w.heap.size w
  have hCb := hC
  refine qx_seq (reg_seq ?_)
  refine seq_op hS (by decide) (runs_boxB (cs := cmc c (.slice A c.bs.length cc)) rfl rfl) (fun v1 w1 a1 hp hS => ?_)
  obtain ⟨rfl, hM1, hB1⟩ := hp
  have hB := hB.trans (hB1.mono hB.size)
  have hC := hCb.kept hB
  refine sI hS (runs_assign rfl) fun _ hS => ?_
  refine nil_ok (qx_seq (qx_seq (reg_seq ?_)))
  refine seq_op hS (by decide) (runs_call (args := []) goes8 rfl (hAw w1 (hk.below (hB) hk.pos))) (fun v3 w3 a1 hp hS => ?_)
  obtain ⟨rfl, hB3⟩ := hp
  have hB := hB.trans (hB3.mono hB.size)
  have hM1 := hM1.below hB3 hM1.lt
  have hC := hCb.kept hB
  refine sI hS (runs_not (b := true) rfl) fun _ hS => ?_
  refine sI hS (runs_move rfl) fun _ hS => ?_
  refine sY hS (runs_fieldK foC_3 rfl) fun _ hS => ?_
  refine sY hS (runs_load rfl pl924 (hM1.at (cm_v hl))) fun _ hS => ?_
  refine sY hS (runs_len rfl undHs) fun _ hS => ?_
  by_cases h70 : 70 < c.bs.length
  · skip
    refine sY hS (gtrT rfl rfl (by omega)) fun _ hS => ?_
    refine sI hS (runs_pick rfl rfl) fun _ hS => ?_
    refine nil_ok (wp_cond_true (hS.eval rfl) (qx_seq (reg_seq ?_)))
    refine seq_op hS (by decide) (runs_call (args := []) goes8 rfl (hAw w3 (hk.below (hB) hk.pos))) (fun v5 w5 a1 hp hS => ?_)
    obtain ⟨rfl, hB5⟩ := hp
    have hB := hB.trans (hB5.mono hB.size)
    have hM1 := hM1.below hB5 hM1.lt
    have hC := hCb.kept hB
    refine sI hS (runs_assign rfl) fun _ hS => ?_
    exact nil_ok (qx_ret (ret1 (t := 2) (by kernel_rfl) hS rfl ⟨_, rfl, rfl, hB⟩))
  refine sY hS (gtrF rfl rfl (by omega)) fun _ hS => ?_
  refine sI hS (runs_pick rfl rfl) fun _ hS => ?_
  refine nil_ok (wp_cond_false (hS.eval rfl) (wp_skip (qx_seq (reg_seq ?_))))
  refine sI hS (runs_loadRow rfl hM1 Tryd.underlying26 rfl (by rw [szC, cmc_len hl])) fun _ hS => ?_
  refine seq_op hS (by decide) (runs_call (args := [.agg (cmc c (.slice A c.bs.length cc)).toArray]) goes10 rfl (own_any c _ w3 hC (by omega))) (fun v7 w7 a1 hp hS => ?_)
  obtain ⟨hO1, hB7⟩ := hp
  have hB := hB.trans (hB7.mono hB.size)
  have hM1 := hM1.below hB7 hM1.lt
  have hC := hCb.kept hB
  refine seq_op hS (by decide) (runs_call (args := [v7]) goes9 rfl (hP c _ w7 hO1 (by omega) (hF))) (fun v9 w9 a1 hp hS => ?_)
  obtain ⟨rfl, hB9⟩ := hp
  have hB := hB.trans (hB9.mono hB.size)
  have hM1 := hM1.below hB9 hM1.lt
  have hC := hCb.kept hB
  refine sI hS (runs_move rfl) fun _ hS => ?_
  refine sI hS (runs_extract rfl rfl) fun _ hS => ?_
  refine sI hS (runs_extract rfl rfl) fun _ hS => ?_
  refine sI hS (runs_assign rfl) fun _ hS => ?_
  refine sI hS (runs_assign rfl) fun _ hS => ?_
  refine nil_ok (qx_seq (qx_seq (reg_seq ?_)))
  refine sI hS (runs_loadRow rfl hM1 Tryd.underlying26 rfl (by rw [szC, cmc_len hl])) fun _ hS => ?_
  refine seq_op hS (by decide) (runs_call (args := [.agg (cmc c (.slice A c.bs.length cc)).toArray]) goes11 rfl (rrightC_any c _ w9 hC)) (fun v11 w11 a1 hp hS => ?_)
  obtain ⟨rfl, hB11⟩ := hp
  have hB := hB.trans (hB11.mono hB.size)
  have hM1 := hM1.below hB11 hM1.lt
  have hC := hCb.kept hB
  by_cases hr : rightC c = true
  · skip
    rw [hr] at hS
    refine sI hS (runs_not (b := true) rfl) fun _ hS => ?_
    refine nil_ok (wp_cond_false (hS.eval rfl) (wp_skip (qx_seq (reg_seq ?_))))
    refine sI hS (runs_move rfl) fun _ hS => ?_
    refine seq_op hS (by decide) (runs_call (args := [.string (putC c)]) goes12 rfl (hG (putC c) w11 (by have := putC_size ho; omega))) (fun v13 w13 a1 hp hS => ?_)
    rw [bl_putC hr ho, getC_bytes hr ho] at hp
    obtain ⟨ug, rfl, hVg, hB13⟩ := hp
    obtain ⟨xg, rfl, hHg, hlg, hbyg⟩ := id hVg
    obtain ⟨Ag, ccg, rfl, -, -, hHog, -⟩ := id hHg
    have hB := hB.trans (hB13.mono hB.size)
    have hM1 := hM1.below hB13 hM1.lt
    have hC := hCb.kept hB
    have hBpregg := hB
    have hB := Below.refl w13.heap.size w13
    have hM1b := hM1
    have hCb := hC
    have hVgb := hVg
    refine sI hS (runs_move rfl) fun _ hS => ?_
    refine sI hS (runs_extract rfl rfl) fun _ hS => ?_
    refine sI hS (runs_extract rfl rfl) fun _ hS => ?_
    refine seq_op hS (by decide) (runs_allocB (cs := cmc noCm (.slice none 0 0)) zoC rfl) (fun v15 w15 a1 hp hS => ?_)
    obtain ⟨rfl, hM15, hB15⟩ := hp
    have hLhM15 : w13.heap.size ≤ w13.heap.size := hB.size
    have hB := hB.trans (hB15.mono hB.size)
    have hM1 := hM1b.below hB hM1b.lt
    have hC := hCb.kept hB
    have hVg := hVgb.kept hB
    refine seq_none hS (runs_storeB (cs := cmc c (.slice Ag c.bs.length ccg)) rfl rfl hM15 ((cmc_len noCm_len).trans (cmc_len hlg).symm) (cm_one rfl) (by rw [szC, cmc_len hlg])) (fun v17 w17 a1 hp hS => ?_)
    obtain ⟨hM15, hU17⟩ := hp
    have hB := But.new hB hU17 (fun i e => by rw [e]; exact hLhM15) (Nat.le_refl _)
    have hM1 := hM1b.below hB hM1b.lt
    have hC := hCb.kept hB
    have hVg := hVgb.kept hB
    refine sI hS (runs_assign rfl) fun _ hS => ?_
    refine nil_ok (qx_seq (reg_seq ?_))
    refine sI hS (runs_move rfl) fun _ hS => ?_
    refine sI hS (runs_loadRow rfl hM1 Tryd.underlying26 rfl (by rw [szC, cmc_len hlg])) fun _ hS => ?_
    refine seq_op hS (by decide) (runs_call (args := [.agg (cmc c (.slice A c.bs.length cc)).toArray]) goes13 rfl (hRP c _ w17 hC hr)) (fun v19 w19 a1 hp hS => ?_)
    obtain ⟨rfl, hB19⟩ := hp
    have hB := hB.trans (hB19.mono hB.size)
    have hM1 := hM1b.below hB hM1b.lt
    have hM15 := hM15.below hB19 hM15.lt
    have hC := hCb.kept hB
    have hVg := hVgb.kept hB
    refine sI hS (runs_eqStr (r := true) rfl rfl (by unfold putC; rw [if_pos hr]; simp)) fun _ hS => ?_
    refine sI hS (runs_move rfl) fun _ hS => ?_
    refine sY hS (runs_move rfl) fun _ hS => ?_
    refine sY hS (runs_eql (r := true) rfl rfl (by rw [chkC_ok hr]; rfl)) fun _ hS => ?_
    refine sI hS (runs_pick rfl rfl) fun _ hS => ?_
    refine sI hS (runs_move rfl) fun _ hS => ?_
    refine sY hS (runs_loadRow rfl hM1 Tryd.underlying26 rfl (by rw [szC, cmc_len hlg])) fun _ hS => ?_
    refine sY hS (runs_loadRow rfl hM15 Tryd.underlying26 rfl (by rw [szC, cmc_len hlg])) fun _ hS => ?_
    refine seq_yes hS (by decide) rfl (by decide) rfl (runs_call (args := [.agg (cmc c (.slice A c.bs.length cc)).toArray, .agg (cmc c (.slice Ag c.bs.length ccg)).toArray]) goes14 rfl (rsame_any c c _ _ w19 hC hVg)) (fun v21 w21 a1 hp hS => ?_)
    obtain ⟨rfl, hB21⟩ := hp
    have hB := hB.trans (hB21.mono hB.size)
    rw [show decide (c = c) = true by simp] at hS
    refine sI hS (runs_pick rfl rfl) fun _ hS => ?_
    refine sI hS (runs_move rfl) fun _ hS => ?_
    refine sY hS (runs_move rfl) fun _ hS => ?_
    refine sY hS (runs_eql (r := true) rfl rfl rfl) fun _ hS => ?_
    refine sI hS (runs_pick rfl rfl) fun _ hS => ?_
    refine sI hS (runs_assign rfl) fun _ hS => ?_
    exact nil_ok (qx_ret (ret1 (t := 2) (by kernel_rfl) hS rfl ⟨_, rfl, rfl, hBpregg.trans ((hB).mono hBpregg.size)⟩))
  · skip
    rw [Bool.eq_false_iff.2 hr] at hS
    refine sI hS (runs_not (b := false) rfl) fun _ hS => ?_
    refine nil_ok (wp_cond_true (hS.eval rfl) (qx_seq (reg_seq ?_)))
    refine sI hS (runs_move rfl) fun _ hS => ?_
    refine sI hS (runs_eqStr (r := true) rfl rfl (by unfold putC; rw [if_neg hr]; rfl)) fun _ hS => ?_
    refine sI hS (runs_move rfl) fun _ hS => ?_
    refine sY hS (runs_move rfl) fun _ hS => ?_
    refine sY hS (runs_eql (r := true) rfl rfl (by rw [chkC_bad hr]; rfl)) fun _ hS => ?_
    refine sI hS (runs_pick rfl rfl) fun _ hS => ?_
    refine sI hS (runs_assign rfl) fun _ hS => ?_
    exact nil_ok (qx_ret (ret1 (t := 2) (by kernel_rfl) hS rfl ⟨_, rfl, rfl, hB⟩))
set_option maxHeartbeats 1000000 in
theorem gets_law (hAw : CAwkC) (hP : CPutC) (hG : CGetC) (hRG : RGetC) (s : ByteArray) (w : World) (hk : Kept w) : Ans 4 [.string s] w (fun u w' => u = .bool true ∧ Below w.heap.size w w') := by
  refine calls_qx (args := [.string s]) 50 Tryd.func4 rfl (by kernel_rfl) (by simp) (fun a hS => ?_)
  have hB := Below.refl w.heap.size w
  refine qx_seq (reg_seq ?_)
  refine sI hS (runs_assign rfl) fun _ hS => ?_
  refine nil_ok (qx_seq (qx_seq (reg_seq ?_)))
  refine seq_op hS (by decide) (runs_call (args := []) goes8 rfl (hAw w (hk.below (hB) hk.pos))) (fun v1 w1 a1 hp hS => ?_)
  obtain ⟨rfl, hB1⟩ := hp
  have hB := hB.trans (hB1.mono hB.size)
  refine sI hS (runs_not (b := true) rfl) fun _ hS => ?_
  refine sI hS (runs_move rfl) fun _ hS => ?_
  refine sY hS (runs_move rfl) fun _ hS => ?_
  refine sY hS (runs_lens rfl und9) fun _ hS => ?_
  by_cases hbig : 3000 < s.size
  · skip
    refine sY hS (gtrT rfl rfl (by omega)) fun _ hS => ?_
    refine sI hS (runs_pick rfl rfl) fun _ hS => ?_
    refine nil_ok (wp_cond_true (hS.eval rfl) (qx_seq (reg_seq ?_)))
    refine seq_op hS (by decide) (runs_call (args := []) goes8 rfl (hAw w1 (hk.below (hB) hk.pos))) (fun v3 w3 a1 hp hS => ?_)
    obtain ⟨rfl, hB3⟩ := hp
    have hB := hB.trans (hB3.mono hB.size)
    refine sI hS (runs_assign rfl) fun _ hS => ?_
    exact nil_ok (qx_ret (ret1 (t := 2) (by kernel_rfl) hS rfl ⟨_, rfl, rfl, hB⟩))
  refine sY hS (gtrF rfl rfl (by omega)) fun _ hS => ?_
  refine sI hS (runs_pick rfl rfl) fun _ hS => ?_
  refine nil_ok (wp_cond_false (hS.eval rfl) (wp_skip (qx_seq (?_))))
  obtain ⟨q, hq⟩ : ∃ q, getC (bl s) = q := ⟨_, rfl⟩
  refine reg_seq ?_
  refine sI hS (runs_move rfl) fun _ hS => ?_
  refine seq_op hS (by decide) (runs_call (args := [.string s]) goes12 rfl (hG s w1 (by omega))) (fun v5 w5 a1 hp hS => ?_)
  rw [hq] at hp
  obtain ⟨ug, rfl, hVg, hB5⟩ := hp
  obtain ⟨xg, rfl, hHg, hlg, hbyg⟩ := id hVg
  obtain ⟨Ag, ccg, rfl, -, -, hHog, -⟩ := id hHg
  have hB := hB.trans (hB5.mono hB.size)
  have hBpregg := hB
  have hB := Below.refl w5.heap.size w5
  have hVgb := hVg
  refine sI hS (runs_move rfl) fun _ hS => ?_
  refine sI hS (runs_extract rfl rfl) fun _ hS => ?_
  refine sI hS (runs_extract rfl rfl) fun _ hS => ?_
  refine seq_op hS (by decide) (runs_allocB (cs := cmc noCm (.slice none 0 0)) zoC rfl) (fun v7 w7 a1 hp hS => ?_)
  obtain ⟨rfl, hM7, hB7⟩ := hp
  have hLhM7 : w5.heap.size ≤ w5.heap.size := hB.size
  have hB := hB.trans (hB7.mono hB.size)
  have hVg := hVgb.kept hB
  refine seq_none hS (runs_storeB (cs := cmc q.1 (.slice Ag q.1.bs.length ccg)) rfl rfl hM7 ((cmc_len noCm_len).trans (cmc_len hlg).symm) (cm_one rfl) (by rw [szC, cmc_len hlg])) (fun v9 w9 a1 hp hS => ?_)
  obtain ⟨hM7, hU9⟩ := hp
  have hB := But.new hB hU9 (fun i e => by rw [e]; exact hLhM7) (Nat.le_refl _)
  have hVg := hVgb.kept hB
  refine sI hS (runs_assign rfl) fun _ hS => ?_
  refine nil_ok (qx_seq (reg_seq ?_))
  refine sI hS (runs_move rfl) fun _ hS => ?_
  refine seq_op hS (by decide) (runs_call (args := [.string s]) goes15 rfl (hRG s w9 (by omega))) (fun v11 w11 a1 hp hS => ?_)
  rw [hq] at hp
  obtain ⟨ug, rfl, hVh, hB11⟩ := hp
  obtain ⟨xh, rfl, hHh, hlh, hbyh⟩ := id hVh
  obtain ⟨Ah, cch, rfl, -, -, hHoh, -⟩ := id hHh
  have hB := hB.trans (hB11.mono hB.size)
  have hM7 := hM7.below hB11 hM7.lt
  have hVg := hVgb.kept hB
  have hBpregh := hB
  have hB := Below.refl w11.heap.size w11
  have hM7b := hM7
  have hVgb := hVg
  have hVhb := hVh
  refine sI hS (runs_move rfl) fun _ hS => ?_
  refine sI hS (runs_extract rfl rfl) fun _ hS => ?_
  refine sI hS (runs_extract rfl rfl) fun _ hS => ?_
  refine seq_op hS (by decide) (runs_allocB (cs := cmc noCm (.slice none 0 0)) zoC rfl) (fun v13 w13 a1 hp hS => ?_)
  obtain ⟨rfl, hM13, hB13⟩ := hp
  have hLhM13 : w11.heap.size ≤ w11.heap.size := hB.size
  have hB := hB.trans (hB13.mono hB.size)
  have hM7 := hM7b.below hB hM7b.lt
  have hVg := hVgb.kept hB
  have hVh := hVhb.kept hB
  refine seq_none hS (runs_storeB (cs := cmc q.1 (.slice Ah q.1.bs.length cch)) rfl rfl hM13 ((cmc_len noCm_len).trans (cmc_len hlh).symm) (cm_one rfl) (by rw [szC, cmc_len hlh])) (fun v15 w15 a1 hp hS => ?_)
  obtain ⟨hM13, hU15⟩ := hp
  have hB := But.new hB hU15 (fun i e => by rw [e]; exact hLhM13) (Nat.le_refl _)
  have hM7 := hM7b.below hB hM7b.lt
  have hVg := hVgb.kept hB
  have hVh := hVhb.kept hB
  refine sI hS (runs_assign rfl) fun _ hS => ?_
  refine nil_ok (qx_seq (qx_seq (reg_seq ?_)))
  refine sI hS (runs_loadRow rfl hM7 Tryd.underlying26 rfl (by rw [szC, cmc_len hlh])) fun _ hS => ?_
  refine sI hS (runs_loadRow rfl hM13 Tryd.underlying26 rfl (by rw [szC, cmc_len hlh])) fun _ hS => ?_
  refine seq_op hS (by decide) (runs_call (args := [.agg (cmc q.1 (.slice Ag q.1.bs.length ccg)).toArray, .agg (cmc q.1 (.slice Ah q.1.bs.length cch)).toArray]) goes14 rfl (rsame_any q.1 q.1 _ _ w15 hVg hVh)) (fun v17 w17 a1 hp hS => ?_)
  obtain ⟨rfl, hB17⟩ := hp
  have hB := hB.trans (hB17.mono hB.size)
  have hM7 := hM7b.below hB hM7b.lt
  have hVg := hVgb.kept hB
  rw [show decide (q.1 = q.1) = true by simp] at hS
  refine sI hS (runs_not (b := true) rfl) fun _ hS => ?_
  refine sI hS (runs_move rfl) fun _ hS => ?_
  refine sY hS (runs_move rfl) fun _ hS => ?_
  refine sY hS (runs_move rfl) fun _ hS => ?_
  refine sY hS (runs_neq (r := false) rfl rfl (by simp)) fun _ hS => ?_
  refine sI hS (runs_pick rfl rfl) fun _ hS => ?_
  refine nil_ok (wp_cond_false (hS.eval rfl) (wp_skip (qx_seq (qx_seq (reg_seq ?_)))))
  refine sI hS (runs_move rfl) fun _ hS => ?_
  by_cases he : q.2 ≠ 0
  · skip
    refine sI hS (runs_neq (r := true) rfl rfl (by simpa using he)) fun _ hS => ?_
    refine nil_ok (wp_cond_true (hS.eval rfl) (qx_seq (reg_seq ?_)))
    refine sI hS (runs_assign rfl) fun _ hS => ?_
    exact nil_ok (qx_ret (ret1 (t := 2) (by kernel_rfl) hS rfl ⟨_, rfl, rfl, hBpregg.trans ((hBpregh.trans ((hB).mono hBpregh.size)).mono hBpregg.size)⟩))
  refine sI hS (runs_neq (r := false) rfl rfl (by simpa using he)) fun _ hS => ?_
  refine nil_ok (wp_cond_false (hS.eval rfl) (wp_skip (qx_seq (?_))))
  replace he := Classical.not_not.1 he
  obtain ⟨hr, hok, hby2⟩ := getC_back (bl_bytes s) (by rw [hq]; exact he)
  rw [hq] at hr hok hby2
  have hle := ((rightC_iff _).1 hr).2.2.2.2.2
  refine reg_seq ?_
  refine sI hS (runs_loadRow rfl hM7 Tryd.underlying26 rfl (by rw [szC, cmc_len hlh])) fun _ hS => ?_
  refine seq_op hS (by decide) (runs_call (args := [.agg (cmc q.1 (.slice Ag q.1.bs.length ccg)).toArray]) goes9 rfl (hP q.1 _ w17 hVg (by omega) (fitsC_right hr))) (fun v19 w19 a1 hp hS => ?_)
  obtain ⟨rfl, hB19⟩ := hp
  have hB := hB.trans (hB19.mono hB.size)
  refine sI hS (runs_move rfl) fun _ hS => ?_
  refine sI hS (runs_extract rfl rfl) fun _ hS => ?_
  refine sI hS (runs_extract rfl rfl) fun _ hS => ?_
  refine sI hS (runs_assign rfl) fun _ hS => ?_
  refine sI hS (runs_assign rfl) fun _ hS => ?_
  refine nil_ok (qx_seq (reg_seq ?_))
  refine sI hS (runs_move rfl) fun _ hS => ?_
  refine sI hS (runs_move rfl) fun _ hS => ?_
  refine sI hS (runs_eqStr (r := true) rfl rfl (by rw [bl_putC hr hok, hby2]; simp)) fun _ hS => ?_
  refine sI hS (runs_move rfl) fun _ hS => ?_
  refine sY hS (runs_move rfl) fun _ hS => ?_
  refine sY hS (runs_eql (r := true) rfl rfl (by rw [chkC_ok hr]; rfl)) fun _ hS => ?_
  refine sI hS (runs_pick rfl rfl) fun _ hS => ?_
  refine sI hS (runs_assign rfl) fun _ hS => ?_
  exact nil_ok (qx_ret (ret1 (t := 2) (by kernel_rfl) hS rfl ⟨_, rfl, rfl, hBpregg.trans ((hBpregh.trans ((hB).mono hBpregh.size)).mono hBpregg.size)⟩))
set_option maxHeartbeats 1000000 in
theorem apart_law (hAw : CAwkC) (hP : CPutC) (c d : Cm) (u v : Value) (w : World) (hC : CmV w u c) (hD : CmV w v d) (hF : FitsC c) (hFd : FitsC d) (hk : Kept w) : Ans 5 [u, v] w (fun u w' => u = .bool true ∧ Below w.heap.size w w') := by
  obtain ⟨x, rfl, hH, hl, hby⟩ := id hC
  obtain ⟨A, cc, rfl, hc1, hc2, hHo, -⟩ := id hH
  obtain ⟨xd, rfl, hHd, hld, hbyd⟩ := id hD
  obtain ⟨Ad, ccd, rfl, hc1d, hc2d, hHod, -⟩ := id hHd
  have ho := hC.ok
  have hod := hD.ok
  refine calls_qx (args := [.agg (cmc c (.slice A c.bs.length cc)).toArray, .agg (cmc d (.slice Ad d.bs.length ccd)).toArray]) 51 Tryd.func5 rfl (by kernel_rfl) (by simp) (fun a hS => ?_)
  have hB := Below.refl w.heap.size w
  have hCb := hC
  have hDb := hD
  refine qx_seq (reg_seq ?_)
  refine seq_op hS (by decide) (runs_boxB (cs := cmc c (.slice A c.bs.length cc)) rfl rfl) (fun v1 w1 a1 hp hS => ?_)
  obtain ⟨rfl, hM1, hB1⟩ := hp
  have hB := hB.trans (hB1.mono hB.size)
  have hC := hCb.kept hB
  have hD := hDb.kept hB
  refine seq_op hS (by decide) (runs_boxB (cs := cmc d (.slice Ad d.bs.length ccd)) rfl rfl) (fun v3 w3 a1 hp hS => ?_)
  obtain ⟨rfl, hM3, hB3⟩ := hp
  have hB := hB.trans (hB3.mono hB.size)
  have hM1 := hM1.below hB3 hM1.lt
  have hC := hCb.kept hB
  have hD := hDb.kept hB
  refine sI hS (runs_assign rfl) fun _ hS => ?_
  refine nil_ok (qx_seq (qx_seq (reg_seq ?_)))
  refine seq_op hS (by decide) (runs_call (args := []) goes8 rfl (hAw w3 (hk.below (hB) hk.pos))) (fun v5 w5 a1 hp hS => ?_)
  obtain ⟨rfl, hB5⟩ := hp
  have hB := hB.trans (hB5.mono hB.size)
  have hM1 := hM1.below hB5 hM1.lt
  have hM3 := hM3.below hB5 hM3.lt
  have hC := hCb.kept hB
  have hD := hDb.kept hB
  refine sI hS (runs_not (b := true) rfl) fun _ hS => ?_
  refine sI hS (runs_move rfl) fun _ hS => ?_
  refine sY hS (runs_fieldK foC_3 rfl) fun _ hS => ?_
  refine sY hS (runs_load rfl pl924 (hM1.at (cm_v hl))) fun _ hS => ?_
  refine sY hS (runs_len rfl undHs) fun _ hS => ?_
  by_cases h70 : 70 < c.bs.length
  · skip
    refine sY hS (gtrT rfl rfl (by omega)) fun _ hS => ?_
    refine sI hS (runs_pick rfl rfl) fun _ hS => ?_
    refine sI hS (runs_move rfl) fun _ hS => ?_
    refine sN hS fun _ hS => ?_
    refine sN hS fun _ hS => ?_
    refine sN hS fun _ hS => ?_
    refine sN hS fun _ hS => ?_
    refine sI hS (runs_pick rfl rfl) fun _ hS => ?_
    refine nil_ok (wp_cond_true (hS.eval rfl) (qx_seq (reg_seq ?_)))
    refine seq_op hS (by decide) (runs_call (args := []) goes8 rfl (hAw w5 (hk.below (hB) hk.pos))) (fun v7 w7 a1 hp hS => ?_)
    obtain ⟨rfl, hB7⟩ := hp
    have hB := hB.trans (hB7.mono hB.size)
    have hM1 := hM1.below hB7 hM1.lt
    have hM3 := hM3.below hB7 hM3.lt
    have hC := hCb.kept hB
    have hD := hDb.kept hB
    refine sI hS (runs_assign rfl) fun _ hS => ?_
    exact nil_ok (qx_ret (ret1 (t := 4) (by kernel_rfl) hS rfl ⟨_, rfl, rfl, hB⟩))
  refine sY hS (gtrF rfl rfl (by omega)) fun _ hS => ?_
  refine sI hS (runs_pick rfl rfl) fun _ hS => ?_
  refine sI hS (runs_move rfl) fun _ hS => ?_
  refine sY hS (runs_fieldK foC_3 rfl) fun _ hS => ?_
  refine sY hS (runs_load rfl pl924 (hM3.at (cm_v hld))) fun _ hS => ?_
  refine sY hS (runs_len rfl undHs) fun _ hS => ?_
  by_cases h71 : 70 < d.bs.length
  · skip
    refine sY hS (gtrT rfl rfl (by omega)) fun _ hS => ?_
    refine sI hS (runs_pick rfl rfl) fun _ hS => ?_
    refine nil_ok (wp_cond_true (hS.eval rfl) (qx_seq (reg_seq ?_)))
    refine seq_op hS (by decide) (runs_call (args := []) goes8 rfl (hAw w5 (hk.below (hB) hk.pos))) (fun v9 w9 a1 hp hS => ?_)
    obtain ⟨rfl, hB9⟩ := hp
    have hB := hB.trans (hB9.mono hB.size)
    have hM1 := hM1.below hB9 hM1.lt
    have hM3 := hM3.below hB9 hM3.lt
    have hC := hCb.kept hB
    have hD := hDb.kept hB
    refine sI hS (runs_assign rfl) fun _ hS => ?_
    exact nil_ok (qx_ret (ret1 (t := 4) (by kernel_rfl) hS rfl ⟨_, rfl, rfl, hB⟩))
  refine sY hS (gtrF rfl rfl (by omega)) fun _ hS => ?_
  refine sI hS (runs_pick rfl rfl) fun _ hS => ?_
  refine nil_ok (wp_cond_false (hS.eval rfl) (wp_skip (qx_seq (reg_seq ?_))))
  refine sI hS (runs_loadRow rfl hM1 Tryd.underlying26 rfl (by rw [szC, cmc_len hl])) fun _ hS => ?_
  refine seq_op hS (by decide) (runs_call (args := [.agg (cmc c (.slice A c.bs.length cc)).toArray]) goes10 rfl (own_any c _ w5 hC (by omega))) (fun v11 w11 a1 hp hS => ?_)
  obtain ⟨hO1, hB11⟩ := hp
  have hB := hB.trans (hB11.mono hB.size)
  have hM1 := hM1.below hB11 hM1.lt
  have hM3 := hM3.below hB11 hM3.lt
  have hC := hCb.kept hB
  have hD := hDb.kept hB
  refine seq_op hS (by decide) (runs_call (args := [v11]) goes9 rfl (hP c _ w11 hO1 (by omega) (hF))) (fun v13 w13 a1 hp hS => ?_)
  obtain ⟨rfl, hB13⟩ := hp
  have hB := hB.trans (hB13.mono hB.size)
  have hM1 := hM1.below hB13 hM1.lt
  have hM3 := hM3.below hB13 hM3.lt
  have hC := hCb.kept hB
  have hD := hDb.kept hB
  refine sI hS (runs_move rfl) fun _ hS => ?_
  refine sI hS (runs_extract rfl rfl) fun _ hS => ?_
  refine sI hS (runs_extract rfl rfl) fun _ hS => ?_
  refine sI hS (runs_assign rfl) fun _ hS => ?_
  refine sI hS (runs_assign rfl) fun _ hS => ?_
  refine nil_ok (qx_seq (reg_seq ?_))
  refine sI hS (runs_loadRow rfl hM3 Tryd.underlying26 rfl (by rw [szC, cmc_len hld])) fun _ hS => ?_
  refine seq_op hS (by decide) (runs_call (args := [.agg (cmc d (.slice Ad d.bs.length ccd)).toArray]) goes10 rfl (own_any d _ w13 hD (by omega))) (fun v15 w15 a1 hp hS => ?_)
  obtain ⟨hO2, hB15⟩ := hp
  have hB := hB.trans (hB15.mono hB.size)
  have hM1 := hM1.below hB15 hM1.lt
  have hM3 := hM3.below hB15 hM3.lt
  have hC := hCb.kept hB
  have hD := hDb.kept hB
  refine seq_op hS (by decide) (runs_call (args := [v15]) goes9 rfl (hP d _ w15 hO2 (by omega) (hFd))) (fun v17 w17 a1 hp hS => ?_)
  obtain ⟨rfl, hB17⟩ := hp
  have hB := hB.trans (hB17.mono hB.size)
  have hM1 := hM1.below hB17 hM1.lt
  have hM3 := hM3.below hB17 hM3.lt
  have hC := hCb.kept hB
  have hD := hDb.kept hB
  refine sI hS (runs_move rfl) fun _ hS => ?_
  refine sI hS (runs_extract rfl rfl) fun _ hS => ?_
  refine sI hS (runs_extract rfl rfl) fun _ hS => ?_
  refine sI hS (runs_assign rfl) fun _ hS => ?_
  refine sI hS (runs_assign rfl) fun _ hS => ?_
  refine nil_ok (qx_seq (reg_seq ?_))
  refine sI hS (runs_move rfl) fun _ hS => ?_
  by_cases hr1 : ¬ rightC c = true
  · skip
    refine sI hS (runs_neq (r := true) rfl rfl (by rw [chkC_bad hr1]; rfl)) fun _ hS => ?_
    refine sI hS (runs_move rfl) fun _ hS => ?_
    refine sN hS fun _ hS => ?_
    refine sN hS fun _ hS => ?_
    refine sI hS (runs_pick rfl rfl) fun _ hS => ?_
    refine sI hS (runs_move rfl) fun _ hS => ?_
    refine sN hS fun _ hS => ?_
    refine sN hS fun _ hS => ?_
    refine sN hS fun _ hS => ?_
    refine sN hS fun _ hS => ?_
    refine sN hS fun _ hS => ?_
    refine sN hS fun _ hS => ?_
    refine sN hS fun _ hS => ?_
    refine sI hS (runs_pick rfl rfl) fun _ hS => ?_
    refine sI hS (runs_assign rfl) fun _ hS => ?_
    exact nil_ok (qx_ret (ret1 (t := 4) (by kernel_rfl) hS rfl ⟨_, rfl, rfl, hB⟩))
  refine sI hS (runs_neq (r := false) rfl rfl (by rw [chkC_ok (Classical.not_not.1 hr1)]; rfl)) fun _ hS => ?_
  refine sI hS (runs_move rfl) fun _ hS => ?_
  refine sY hS (runs_move rfl) fun _ hS => ?_
  by_cases hr2 : ¬ rightC d = true
  · skip
    refine sY hS (runs_neq (r := true) rfl rfl (by rw [chkC_bad hr2]; rfl)) fun _ hS => ?_
    refine sI hS (runs_pick rfl rfl) fun _ hS => ?_
    refine sI hS (runs_move rfl) fun _ hS => ?_
    refine sN hS fun _ hS => ?_
    refine sN hS fun _ hS => ?_
    refine sN hS fun _ hS => ?_
    refine sN hS fun _ hS => ?_
    refine sN hS fun _ hS => ?_
    refine sN hS fun _ hS => ?_
    refine sN hS fun _ hS => ?_
    refine sI hS (runs_pick rfl rfl) fun _ hS => ?_
    refine sI hS (runs_assign rfl) fun _ hS => ?_
    exact nil_ok (qx_ret (ret1 (t := 4) (by kernel_rfl) hS rfl ⟨_, rfl, rfl, hB⟩))
  refine sY hS (runs_neq (r := false) rfl rfl (by rw [chkC_ok (Classical.not_not.1 hr2)]; rfl)) fun _ hS => ?_
  refine sI hS (runs_pick rfl rfl) fun _ hS => ?_
  refine sI hS (runs_move rfl) fun _ hS => ?_
  refine sY hS (runs_move rfl) fun _ hS => ?_
  refine sY hS (runs_move rfl) fun _ hS => ?_
  replace hr1 := Classical.not_not.1 hr1
  replace hr2 := Classical.not_not.1 hr2
  have hap : (bl (putC c) == bl (putC d)) = decide (c = d) := by
    rw [bl_putC hr1 ho, bl_putC hr2 hod]
    by_cases e : c = d
    · simp [e]
    · rw [decide_eq_false e, beq_eq_false_iff_ne]; exact fun h => e (bytesC_inj hr1 ho hr2 hod h)
  refine sY hS (runs_eqStr rfl rfl hap) fun _ hS => ?_
  refine sY hS (runs_loadRow rfl hM1 Tryd.underlying26 rfl (by rw [szC, cmc_len hl])) fun _ hS => ?_
  refine sY hS (runs_loadRow rfl hM3 Tryd.underlying26 rfl (by rw [szC, cmc_len hld])) fun _ hS => ?_
  refine seq_yes hS (by decide) rfl (by decide) rfl (runs_call (args := [.agg (cmc c (.slice A c.bs.length cc)).toArray, .agg (cmc d (.slice Ad d.bs.length ccd)).toArray]) goes14 rfl (rsame_any c d _ _ w17 hC hD)) (fun v19 w19 a1 hp hS => ?_)
  obtain ⟨rfl, hB19⟩ := hp
  have hB := hB.trans (hB19.mono hB.size)
  refine sY hS (runs_bin (r := .bool true) rfl rfl rfl (by rw [run_eql_bool _ 4 _ _ (by kernel_rfl)]; simp)) fun _ hS => ?_
  refine sI hS (runs_pick rfl rfl) fun _ hS => ?_
  refine sI hS (runs_assign rfl) fun _ hS => ?_
  exact nil_ok (qx_ret (ret1 (t := 4) (by kernel_rfl) hS rfl ⟨_, rfl, rfl, hB⟩))
section
variable {L : List (Nat × Value)} {w : World} {ty : TypeId}
theorem runs_takeS {x hi : Operand} {s : ByteArray} {i : Nat} (hx : vals L x = some (.string s)) (hhi : vals L hi = some (.int .i64 (i : Int))) (hi' : i ≤ s.size) : Runs Tryd.prog (.slice 9 x none (some hi) none) ty L w (Is (.string (S ((bl s).take i))) w) := fun o a K Q ho _ hL hK => by
  have ex := hL x (by simp [Op.operands]) _ hx
  have el := hL hi (by simp [Op.operands]) _ hhi
  unfold Oper.wp
  have e : s.extract 0 i = S ((bl s).take i) := by
    apply bl_inj
    rw [bl_S (fun c hc => bl_bytes s c (List.mem_of_mem_take hc))]
    simp [bl, ByteArray.data_extract, List.map_take]
  have : (execOp a.eval o).run Tryd.prog w = .ok (.value (.string (S ((bl s).take i)))) w := by
    rw [← e]
    simp [execOp, ho, ex, el, Instr.sliceAt, run_underlying und9, Instr.slice, Instr.sliceBounds, Instr.sliceBound, asIntOf, hi']
  rw [this]
  exact hK _ _ ⟨rfl, rfl⟩
theorem infU8z : (Tryd.prog.info? 5).map (fun i => (i.zero, i.size, i.bytes)) = some (some (.int .u8 0), 1, 1) := by kernel_rfl
theorem runs_oneB {x : Operand} {n : Nat} (hx : vals L x = some (.int .u8 (n : Int))) : Runs Tryd.prog (.buildSlice 45 1 #[(0, x)]) ty L w (fun v w' => ∃ g2, v = .slice (some ⟨g2, 0, none⟩) 1 1 ∧ Has w' g2 5 (U8 [n]) ∧ Below w.heap.size w w') := by
  obtain ⟨i48, hi48, hz48, hs48, hb48⟩ := info_parts infU8z
  exact (runs_buildSliceG (sz := 1) (pv := [(0, .int .u8 (n : Int))]) (by simp [hx]) und59 hi48 hz48 hs48 (by omega) (by omega) (cells := #[.int .u8 (n : Int)]) (by kernel_rfl)).mono (by rintro v w5 ⟨rfl, rfl⟩; exact ⟨_, rfl, Has.new w 5 [.int .u8 (n : Int)], (Below.refl _ _).alloc (Nat.le_refl _) _⟩)
end
set_option maxHeartbeats 1000000 in
theorem cuts_law (hAw : CAwkC) (hP : CPutC) (hG : CGetC) (c : Cm) (u : Value) (p b : Nat) (hp6 : p < 65536) (hb : b < 256) (w : World) (hC : CmV w u c) (hF : FitsC c) (hk : Kept w) : Ans 7 [u, .int .u16 (p : Int), .int .u8 (b : Int)] w (fun u w' => u = .bool true ∧ Below w.heap.size w w') := by
  obtain ⟨x, rfl, hH, hl, hby⟩ := id hC
  obtain ⟨A, cc, rfl, hc1, hc2, hHo, -⟩ := id hH
  have ho := hC.ok
  refine calls_qx (args := [.agg (cmc c (.slice A c.bs.length cc)).toArray, .int .u16 (p : Int), .int .u8 (b : Int)]) 56 Tryd.func7 rfl (by kernel_rfl) (by simp) (fun a hS => ?_)
  have hB := Below.refl w.heap.size w
  have hCb := hC
  refine qx_seq (reg_seq ?_)
  refine seq_op hS (by decide) (runs_boxB (cs := cmc c (.slice A c.bs.length cc)) rfl rfl) (fun v1 w1 a1 hp hS => ?_)
  obtain ⟨rfl, hM1, hB1⟩ := hp
  have hB := hB.trans (hB1.mono hB.size)
  have hC := hCb.kept hB
  refine sI hS (runs_assign rfl) fun _ hS => ?_
  refine nil_ok (qx_seq (qx_seq (reg_seq ?_)))
  refine seq_op hS (by decide) (runs_call (args := []) goes8 rfl (hAw w1 (hk.below (hB) hk.pos))) (fun v3 w3 a1 hp hS => ?_)
  obtain ⟨rfl, hB3⟩ := hp
  have hB := hB.trans (hB3.mono hB.size)
  have hM1 := hM1.below hB3 hM1.lt
  have hC := hCb.kept hB
  refine sI hS (runs_not (b := true) rfl) fun _ hS => ?_
  refine sI hS (runs_move rfl) fun _ hS => ?_
  refine sY hS (runs_fieldK foC_3 rfl) fun _ hS => ?_
  refine sY hS (runs_load rfl pl924 (hM1.at (cm_v hl))) fun _ hS => ?_
  refine sY hS (runs_len rfl undHs) fun _ hS => ?_
  by_cases h70 : 70 < c.bs.length
  · skip
    refine sY hS (gtrT rfl rfl (by omega)) fun _ hS => ?_
    refine sI hS (runs_pick rfl rfl) fun _ hS => ?_
    refine nil_ok (wp_cond_true (hS.eval rfl) (qx_seq (reg_seq ?_)))
    refine seq_op hS (by decide) (runs_call (args := []) goes8 rfl (hAw w3 (hk.below (hB) hk.pos))) (fun v5 w5 a1 hp hS => ?_)
    obtain ⟨rfl, hB5⟩ := hp
    have hB := hB.trans (hB5.mono hB.size)
    have hM1 := hM1.below hB5 hM1.lt
    have hC := hCb.kept hB
    refine sI hS (runs_assign rfl) fun _ hS => ?_
    exact nil_ok (qx_ret (ret1 (t := 6) (by kernel_rfl) hS rfl ⟨_, rfl, rfl, hB⟩))
  refine sY hS (gtrF rfl rfl (by omega)) fun _ hS => ?_
  refine sI hS (runs_pick rfl rfl) fun _ hS => ?_
  refine nil_ok (wp_cond_false (hS.eval rfl) (wp_skip (qx_seq (reg_seq ?_))))
  refine sI hS (runs_loadRow rfl hM1 Tryd.underlying26 rfl (by rw [szC, cmc_len hl])) fun _ hS => ?_
  refine seq_op hS (by decide) (runs_call (args := [.agg (cmc c (.slice A c.bs.length cc)).toArray]) goes10 rfl (own_any c _ w3 hC (by omega))) (fun v7 w7 a1 hp hS => ?_)
  obtain ⟨hO1, hB7⟩ := hp
  have hB := hB.trans (hB7.mono hB.size)
  refine seq_op hS (by decide) (runs_call (args := [v7]) goes9 rfl (hP c _ w7 hO1 (by omega) (hF))) (fun v9 w9 a1 hp hS => ?_)
  obtain ⟨rfl, hB9⟩ := hp
  have hB := hB.trans (hB9.mono hB.size)
  refine sI hS (runs_move rfl) fun _ hS => ?_
  refine sI hS (runs_extract rfl rfl) fun _ hS => ?_
  refine sI hS (runs_extract rfl rfl) fun _ hS => ?_
  refine sI hS (runs_assign rfl) fun _ hS => ?_
  refine sI hS (runs_assign rfl) fun _ hS => ?_
  refine nil_ok (qx_seq (qx_seq (reg_seq ?_)))
  refine sI hS (runs_move rfl) fun _ hS => ?_
  by_cases hr : ¬ rightC c = true
  · skip
    refine sI hS (runs_neq (r := true) rfl rfl (by rw [chkC_bad hr]; rfl)) fun _ hS => ?_
    refine nil_ok (wp_cond_true (hS.eval rfl) (qx_seq (reg_seq ?_)))
    refine sI hS (runs_assign rfl) fun _ hS => ?_
    exact nil_ok (qx_ret (ret1 (t := 6) (by kernel_rfl) hS rfl ⟨_, rfl, rfl, hB⟩))
  refine sI hS (runs_neq (r := false) rfl rfl (by rw [chkC_ok (Classical.not_not.1 hr)]; rfl)) fun _ hS => ?_
  refine nil_ok (wp_cond_false (hS.eval rfl) (wp_skip (qx_seq (?_))))
  replace hr := Classical.not_not.1 hr
  have hbp := bl_putC hr ho
  have hps := putC_size ho
  have hpl : (putC c).size = (bytesC c).length := by rw [← bl_length, hbp]
  have hp0 : 0 < (bytesC c).length := by simp [bytesC]
  obtain ⟨k, hkk⟩ : ∃ k, p % (putC c).size = k := ⟨_, rfl⟩
  have hkl : k < (bytesC c).length := by rw [← hkk, ← hpl]; exact Nat.mod_lt _ (by omega)
  obtain ⟨q, hq⟩ : ∃ q, getC ((bytesC c).take k) = q := ⟨_, rfl⟩
  have hqe := getC_cut hr ho hkl
  rw [hq] at hqe
  have hlt2 : ∀ x ∈ bytesC c ++ [b], x < 256 := (fun x hx => by rcases List.mem_append.1 hx with h | h; exact bytesC_lt ho x h; rw [List.mem_singleton] at h; omega)
  have hlt3 : ∀ x ∈ (bytesC c).take k, x < 256 := fun x hx => bytesC_lt ho x (List.mem_of_mem_take hx)
  refine reg_seq ?_
  refine sI hS (runs_move rfl) fun _ hS => ?_
  refine sI hS (runs_move rfl) fun _ hS => ?_
  refine sI hS (runs_convInt (r := (p : Int)) rfl (by decide) und3 (by simp [IntKind.wrap, IntKind.bits, IntKind.signed]; omega)) fun _ hS => ?_
  refine sI hS (runs_move rfl) fun _ hS => ?_
  refine sI hS (runs_lens rfl und9) fun _ hS => ?_
  refine sI hS (runs_rem (r := ((k : Nat) : Int)) rfl rfl (by omega) (by rw [Int.tmod_eq_emod_of_nonneg (by omega)]; omega)) fun _ hS => ?_
  refine sI hS (runs_takeS rfl rfl (by omega)) fun _ hS => ?_
  refine seq_op hS (by decide) (runs_call (args := [.string (S ((bl (putC c)).take k))]) goes12 rfl (hG (S ((bl (putC c)).take k)) w9 (by rw [S_size, List.length_take]; omega))) (fun v11 w11 a1 hp hS => ?_)
  rw [hbp, bl_S hlt3, hq] at hp
  obtain ⟨ug, rfl, hVg, hB11⟩ := hp
  obtain ⟨xg, rfl, hHg, hlg, hbyg⟩ := id hVg
  obtain ⟨Ag, ccg, rfl, -, -, hHog, -⟩ := id hHg
  have hB := hB.trans (hB11.mono hB.size)
  have hBpregg := hB
  have hB := Below.refl w11.heap.size w11
  refine sI hS (runs_move rfl) fun _ hS => ?_
  refine sI hS (runs_extract rfl rfl) fun _ hS => ?_
  refine sI hS (runs_extract rfl rfl) fun _ hS => ?_
  refine seq_op hS (by decide) (runs_allocB (cs := cmc noCm (.slice none 0 0)) zoC rfl) (fun v13 w13 a1 hp hS => ?_)
  obtain ⟨rfl, hM13, hB13⟩ := hp
  have hLhM13 : w11.heap.size ≤ w11.heap.size := hB.size
  have hB := hB.trans (hB13.mono hB.size)
  refine seq_none hS (runs_storeB (cs := cmc q.1 (.slice Ag q.1.bs.length ccg)) rfl rfl hM13 ((cmc_len noCm_len).trans (cmc_len hlg).symm) (cm_one rfl) (by rw [szC, cmc_len hlg])) (fun v15 w15 a1 hp hS => ?_)
  obtain ⟨hM13, hU15⟩ := hp
  have hB := But.new hB hU15 (fun i e => by rw [e]; exact hLhM13) (Nat.le_refl _)
  refine sI hS (runs_assign rfl) fun _ hS => ?_
  refine nil_ok (qx_seq (reg_seq ?_))
  refine sI hS (runs_move rfl) fun _ hS => ?_
  refine sI hS (runs_move rfl) fun _ hS => ?_
  refine seq_op hS (by decide) (runs_oneB rfl) (fun v17 w17 a1 hp hS => ?_)
  obtain ⟨g2, rfl, hX, hB17⟩ := hp
  have hB := hB.trans (hB17.mono hB.size)
  refine sI hS (runs_convBytesR rfl rfl hX.all) fun _ hS => ?_
  refine sI hS (runs_catG rfl rfl (by apply bl_inj; rw [bl_S hlt2]; unfold putC; rw [if_pos hr, ← S_append, bl_S hlt2]) (by rw [S_size]; simp; omega)) fun _ hS => ?_
  refine seq_op hS (by decide) (runs_call (args := [.string (S (bytesC c ++ [b]))]) goes12 rfl (hG (S (bytesC c ++ [b])) w17 (by rw [S_size, List.length_append]; simp; omega))) (fun v19 w19 a1 hp hS => ?_)
  rw [bl_S hlt2, getC_more hr ho, if_neg (by simp)] at hp
  obtain ⟨ug, rfl, hVh, hB19⟩ := hp
  obtain ⟨xh, rfl, hHh, hlh, hbyh⟩ := id hVh
  obtain ⟨Ah, cch, rfl, -, -, hHoh, -⟩ := id hHh
  have hB := hB.trans (hB19.mono hB.size)
  have hBpregh := hB
  have hB := Below.refl w19.heap.size w19
  refine sI hS (runs_move rfl) fun _ hS => ?_
  refine sI hS (runs_extract rfl rfl) fun _ hS => ?_
  refine sI hS (runs_extract rfl rfl) fun _ hS => ?_
  refine seq_op hS (by decide) (runs_allocB (cs := cmc noCm (.slice none 0 0)) zoC rfl) (fun v21 w21 a1 hp hS => ?_)
  obtain ⟨rfl, hM21, hB21⟩ := hp
  have hLhM21 : w19.heap.size ≤ w19.heap.size := hB.size
  have hB := hB.trans (hB21.mono hB.size)
  refine seq_none hS (runs_storeB (cs := cmc noCm (.slice Ah noCm.bs.length cch)) rfl rfl hM21 ((cmc_len noCm_len).trans (cmc_len noCm_len).symm) (cm_one rfl) (by rw [szC, cmc_len noCm_len])) (fun v23 w23 a1 hp hS => ?_)
  obtain ⟨hM21, hU23⟩ := hp
  have hB := But.new hB hU23 (fun i e => by rw [e]; exact hLhM21) (Nat.le_refl _)
  refine sI hS (runs_assign rfl) fun _ hS => ?_
  refine nil_ok (qx_seq (reg_seq ?_))
  refine sI hS (runs_move rfl) fun _ hS => ?_
  refine sI hS (runs_neq (r := true) rfl rfl (by simpa using hqe)) fun _ hS => ?_
  refine sI hS (runs_move rfl) fun _ hS => ?_
  refine sY hS (runs_move rfl) fun _ hS => ?_
  refine sY hS (runs_eql (r := true) rfl rfl rfl) fun _ hS => ?_
  refine sI hS (runs_pick rfl rfl) fun _ hS => ?_
  refine sI hS (runs_assign rfl) fun _ hS => ?_
  exact nil_ok (qx_ret (ret1 (t := 6) (by kernel_rfl) hS rfl ⟨_, rfl, rfl, hBpregg.trans ((hBpregh.trans ((hB).mono hBpregh.size)).mono hBpregg.size)⟩))
end Go.Proofs.YtooeahpkhocaeaaDoor
