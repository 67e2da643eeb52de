/- Layer 12: the program's Keeps. Conditions: none but those of the contract. -/
import Derived.Test.YtooeahpkhocaeaaDoorJ35
namespace Go.Proofs.YtooeahpkhocaeaaDoor
open Go.RowKit
set_option maxRecDepth 100000

set_option maxHeartbeats 1000000 in
theorem keeps1_any (x : List Nat) (m : List E) (u : Value) (w : World) (hx32 : x.length = 32) (hE : Edges w u m) (hl : m.length ≤ 10000) (hf : FitsM m) (hk : Kept w) : Ans 33 [.agg (U8 x).toArray, u] w (fun r w' => r = .bool (x == rootM m) ∧ Below w.heap.size w w') := by
  refine calls_qx (args := [.agg (U8 x).toArray, u]) 9 Tryd.func33 rfl (by kernel_rfl) (by simp) (fun a hS => ?_)
  have hB := Below.refl w.heap.size w
  have hEb := hE
  refine qx_seq (reg_seq ?_)
  refine seq_op hS (by decide) (runs_boxB (cs := U8 x) rfl rfl) (fun v1 w1 a1 hp hS => ?_)
  obtain ⟨rfl, hM1, hB1⟩ := hp
  have hB := hB.trans (hB1.mono hB.size)
  have hE := hEb.kept hB
  refine sI hS (runs_assign rfl) fun _ hS => ?_
  refine nil_ok (qx_seq (reg_guard (fun w' => Below w1.heap.size w1 w') [.inl (.agg (U8 x).toArray), .inl (u), .inl (.agg (U8 (rootM m)).toArray), .inl (.bool (x == rootM m)), .inl (.bool (x == rootM m))] 5 0 mixed rfl (by kernel_rfl) hS (Below.refl _ _) (fun _ h => h.drew) ?_))
  refine hs_is rfl (fun w' hw => runs_loadRow rfl (hM1.below hw hM1.lt) Tryd.underlying23 rfl (by rw [infHash, U8_length, hx32])) ?_
  refine hs_is rfl (fun w' hw => runs_move rfl) ?_
  refine hs_val rfl (fun w' hw hq => (runs_call (args := [u]) goes31 rfl (broot_c m u w' (hE.kept hw) hl hf (hk.below (hB.trans (hw.mono hB.size)) hk.pos))).mono (by rintro v w5 ⟨rfl, hb⟩; exact ⟨rfl, hw.trans (hb.mono hw.size), hb⟩)) ?_
  refine hs_is rfl (fun w' hw => runs_eqHash rfl rfl hx32 (rootM_len m) rfl) ?_
  refine hs_is rfl (fun w' hw => runs_assign rfl) ?_
  refine (fun a3 w3 hS hB3 hq => ?_)
  clear hq
  have hB := hB.trans (hB3.mono hB.size)
  refine wpAnyH_done (by kernel_rfl) ?_ _
  exact qx_ret (ret1 (t := 4) (by kernel_rfl) hS rfl ⟨_, rfl, rfl, hB⟩)
set_option maxHeartbeats 1000000 in
theorem eqf_any (hs : List (List Nat)) (outs : List (List E)) (v vo : Value) (w : World) (hH : Hashes w v hs) (hO : Outs w vo outs) (hn : hs.length ≤ 10000) (hfo : FitsO outs) (hk : Kept w) : Ans 32 [v, vo, .func (.func 33) #[] #[]] w (fun r w' => r = .bool (decide (hs = outs.map rootM)) ∧ Below w.heap.size w w') := by
  obtain ⟨A, cc, rfl, hc1, hc2, hHo, -⟩ := id hH
  obtain ⟨Ao, co, vs_, hoe, -, -, -⟩ := id hO
  subst hoe
  refine calls_qx (args := [.slice A hs.length cc, .slice Ao outs.length co, .func (.func 33) #[] #[]]) 32 Tryd.func32 rfl (by kernel_rfl) (by simp) (fun a hS => ?_)
  have hB := Below.refl w.heap.size w
  have hHb := hH
  have hOb := hO
  refine qx_seq (reg_seq ?_)
  refine sI hS (runs_assign rfl) fun _ hS => ?_
  refine nil_ok (qx_seq (qx_seq (reg_seq ?_)))
  refine sI hS (runs_move rfl) fun _ hS => ?_
  refine sI hS (runs_len rfl undHs) fun _ hS => ?_
  refine sI hS (runs_move rfl) fun _ hS => ?_
  refine sI hS (runs_len rfl undLMM) fun _ hS => ?_
  by_cases hne : hs.length ≠ outs.length
  · skip
    refine sI hS (runs_neq (r := true) rfl rfl (by simp; omega)) fun _ hS => ?_
    refine nil_ok (wp_cond_true (hS.eval rfl) (qx_seq (reg_seq ?_)))
    refine sI hS (runs_assign rfl) fun _ hS => ?_
    exact nil_ok (qx_ret (ret1 (t := 6) (by kernel_rfl) hS rfl ⟨_, rfl, by rw [decide_eq_false (fun e => hne (by rw [e, List.length_map]))], hB⟩))
  refine sI hS (runs_neq (r := false) rfl rfl (by simp; omega)) fun _ hS => ?_
  refine nil_ok (wp_cond_false (hS.eval rfl) (wp_skip (qx_seq (qx_seq (reg_seq ?_)))))
  refine sI hS (runs_move rfl) fun _ hS => ?_
  refine sI hS (runs_len rfl undHs) fun _ hS => ?_
  refine sI hS (runs_move rfl) fun _ hS => ?_
  refine nil_ok (?_)
  replace hne := Classical.not_not.1 hne
  have hH0 := hHb
  have hO0 := hOb
  refine qx_range (fun mm a w' => ∃ (i : Nat), i ≤ hs.length ∧ mm = hs.length - i ∧ Below w.heap.size w w' ∧ hs.take i = (outs.take i).map rootM ∧ Sees 32 [(17, .int .i64 (i : Int)), (16, .int .i64 ((hs.length : Nat) : Int)), (15, .slice A hs.length cc), (2, .func (.func 33) #[] #[]), (1, .slice Ao outs.length co)] a) hs.length ⟨0, by omega, by omega, hB, by simp, hS.only _ ⟨rfl, rfl, rfl, rfl, rfl, trivial⟩⟩ ?_
  clear hS 
  rintro mm a wl1 ⟨i, hi1, rfl, hBb1, hpr, hS⟩
  have hBsz1 := hBb1.size
  have hB := Below.refl wl1.heap.size wl1
  refine reg_seq ?_
  by_cases hlt1 : i < hs.length
  · skip
    refine sI hS (lssT rfl rfl (by omega)) fun _ hS => ?_
    refine nil_ok ⟨_, hS.eval rfl, fun h => by simp at h, fun _ => ?_⟩
    have hSn := hS
    obtain ⟨x, hx⟩ : ∃ x, hs[i]? = some x := ⟨hs[i], by simp [hlt1]⟩
    obtain ⟨m, hm⟩ : ∃ m, outs[i]? = some m := ⟨outs[i]'(by omega), by simp [show i < outs.length by omega]⟩
    obtain ⟨b, o, hbe, hbw, hr_⟩ := hashes_row hH0 (by omega)
    cases hbe
    have hrx := range_below (hashes_at hr_ hHo hx) hBb1 hbw
    have hx32 := (hHo x (List.mem_of_getElem? hx)).1
    obtain ⟨bo, oo, u1, hbe2, hcu, hEu⟩ := outs_row2 hO0 hBb1 hm
    cases hbe2
    have hEu1 := hEu.kept hBb1
    have hfx := hfo m (List.mem_of_getElem? hm)
    have hS := hSn
    have hEu1b1 := hEu1
    refine qx_seq (qx_block (qx_seq (reg_seq ?_)))
    refine sI hS (runs_move rfl) fun _ hS => ?_
    refine sI hS (runs_indexAddrG (j := i) rfl rfl undHs szHs rfl hlt1) fun _ hS => ?_
    refine sI hS (runs_loadMid rfl hrx Tryd.underlying23 rfl (by rw [infHash, U8_length, hx32])) fun _ hS => ?_
    refine seq_op hS (by decide) (runs_allocB (cs := U8 zero32) zoH rfl) (fun v1 w1 a1 hp hS => ?_)
    obtain ⟨rfl, hM1, hB1⟩ := hp
    have hLhM1 : wl1.heap.size ≤ wl1.heap.size := hB.size
    have hB := hB.trans (hB1.mono hB.size)
    have hEu1 := hEu1b1.kept hB
    refine sI hS (runs_assign rfl) fun _ hS => ?_
    refine seq_none hS (runs_storeB (cs := U8 x) rfl rfl hM1 (by rw [U8_length, U8_length, hx32]; rfl) (List.all_eq_true.2 (U8_one x)) (by rw [infHash, U8_length, hx32])) (fun v3 w3 a1 hp hS => ?_)
    obtain ⟨hM1, hU3⟩ := hp
    have hB := But.new hB hU3 (fun i e => by rw [e]; exact hLhM1) (Nat.le_refl _)
    have hEu1 := hEu1b1.kept hB
    refine nil_ok (qx_seq (reg_seq ?_))
    refine sI hS (runs_move rfl) fun _ hS => ?_
    refine sI hS (runs_move rfl) fun _ hS => ?_
    refine sI hS (runs_indexAddrG (j := i) rfl rfl undLMM szLM rfl (by omega)) fun _ hS => ?_
    refine sI hS (runs_load rfl plLM (by rw [Nat.mul_one]; exact cell_kept hB hcu)) fun _ hS => ?_
    refine sI hS (runs_assign rfl) fun _ hS => ?_
    refine nil_ok (qx_seq (reg_seq ?_))
    refine sI hS (runs_move rfl) fun _ hS => ?_
    refine sI hS (runs_loadRow rfl hM1 Tryd.underlying23 rfl (by rw [infHash, U8_length, hx32])) fun _ hS => ?_
    refine sI hS (runs_move rfl) fun _ hS => ?_
    refine seq_op hS (by decide) (runs_callv (args := [.agg (U8 x).toArray, u1]) (caps := []) goes33 rfl rfl (keeps1_any x m u1 w3 hx32 hEu1 hfx.1 hfx.2 (hk.below (hBb1.trans (hB.mono hBsz1)) hk.pos))) (fun v5 w5 a1 hp hS => ?_)
    obtain ⟨rfl, hB5⟩ := hp
    have hB := hB.trans (hB5.mono hB.size)
    by_cases hq : (x == rootM m) = true
    · skip
      rw [hq] at hS
      refine sI hS (runs_not (b := true) rfl) fun _ hS => ?_
      refine nil_ok (wp_cond_false (hS.eval rfl) (wp_skip (reg_seq ?_)))
      refine sI hS (runs_add (r := ((i + 1 : Nat) : Int)) rfl rfl (by simp [IntKind.wrap, IntKind.bits, IntKind.signed]; omega)) fun _ hS => ?_
      refine sI hS (runs_move rfl) fun _ hS => ?_
      exact nil_ok ⟨_, by omega, i + 1, by omega, rfl, hBb1.trans (hB.mono hBb1.size), by rw [List.take_add_one, List.take_add_one, hx, hm, Option.toList_some, Option.toList_some, List.map_append, hpr, eq_of_beq hq]; rfl, hS.only _ ⟨rfl, rfl, rfl, rfl, rfl, trivial⟩⟩
    · skip
      rw [Bool.eq_false_iff.2 hq] at hS
      refine sI hS (runs_not (b := false) rfl) fun _ hS => ?_
      refine nil_ok (wp_cond_true (hS.eval rfl) (qx_seq (reg_seq ?_)))
      refine sI hS (runs_assign rfl) fun _ hS => ?_
      exact nil_ok (qx_ret (ret1 (t := 6) (by kernel_rfl) hS rfl ⟨_, rfl, by rw [decide_eq_false (fun e => hq (by rw [e, List.getElem?_map, hm] at hx; rw [← Option.some.inj hx]; simp))], hBb1.trans (hB.mono hBsz1)⟩))
  refine sI hS (lssF rfl rfl (by omega)) fun _ hS => ?_
  obtain rfl : i = hs.length := by omega
  refine nil_ok ⟨_, hS.eval rfl, fun _ => ?_, fun h => by simp at h⟩
  have hB := hBb1
  rw [List.take_length, hne, List.take_length] at hpr
  refine qx_seq (reg_seq ?_)
  refine sI hS (runs_assign rfl) fun _ hS => ?_
  exact nil_ok (qx_ret (ret1 (t := 6) (by kernel_rfl) hS rfl ⟨_, rfl, by rw [decide_eq_true hpr], hB⟩))
set_option maxHeartbeats 1000000 in
theorem ckeeps_c : CKeepsC := fun c l outs u vl vo w hC hn hV hl hO hol hfo hk => by
  show Ans 17 [u, vl, vo] w _
  obtain ⟨x, rfl, hH, hcl, hby⟩ := id hC
  obtain ⟨A, cc, rfl, hc1, hc2, hHo, -⟩ := id hH
  obtain ⟨R, hR⟩ : ∃ R, rootX l = R := ⟨_, rfl⟩
  have hR32 : R.length = 32 := by rw [← hR]; exact rootX_len _
  have hkb : keepsB c l outs = (decide (c.root = R) && decide (c.bs = outs.map rootM)) := by unfold keepsB; rw [hR]
  refine calls_qx (args := [.agg (cmc c (.slice A c.bs.length cc)).toArray, vl, vo]) 18 Tryd.func17 rfl (by kernel_rfl) (by simp) (fun a hS => ?_)
  have hB := Below.refl w.heap.size w
  have hHb := hH
  have hVb := hV
  have hOb := hO
  refine qx_seq (reg_seq ?_)
  refine seq_op hS (by decide) (runs_boxB (cs := cmc c (.slice A c.bs.length cc)) rfl rfl) (fun v1 w1 a1 hp hS => ?_)
  obtain ⟨rfl, hM1, hB1⟩ := hp
  have hB := hB.trans (hB1.mono hB.size)
  have hH := hHb.kept hB
  have hV := hVb.kept hB
  have hO := hOb.kept hB
  refine sI hS (runs_assign rfl) fun _ hS => ?_
  refine nil_ok (qx_seq (?_))
  by_cases hq : c.root = R
  · skip
    refine reg_guard (fun w' => Below w1.heap.size w1 w') [.inl (.pointer (some ⟨w.heap.size, 0 + 2, none⟩)), .inl (.agg (U8 c.root).toArray), .inl (vl), .inl (.agg (U8 R).toArray), .inl (.bool true), .inl (.bool true), .inl (.pointer (some ⟨w.heap.size, 0 + 34, none⟩)), .inl (.slice A c.bs.length cc), .inl (vo), .inl (.bool (decide (c.bs = outs.map rootM))), .inl (.bool (decide (c.bs = outs.map rootM))), .inl (.bool (decide (c.bs = outs.map rootM)))] 12 0 mixed rfl (by kernel_rfl) hS (Below.refl _ _) (fun _ h => h.drew) ?_
    refine hs_is rfl (fun w' hw => runs_fieldK foC_2 rfl) ?_
    refine hs_is rfl (fun w' hw => runs_loadMid rfl (cm_root (hM1.below hw hM1.lt) hcl) Tryd.underlying23 rfl (by rw [infHash, U8_length, hcl])) ?_
    refine hs_is rfl (fun w' hw => runs_move rfl) ?_
    refine hs_val rfl (fun w' hw hq => (runs_call (args := [vl]) goes30 rfl (sroot_any l vl w' (hV.kept hw) hl (hk.below (hB.trans (hw.mono hB.size)) hk.pos))).mono (by rw [hR]; rintro v w5 ⟨rfl, hb⟩; exact ⟨rfl, hw.trans (hb.mono hw.size), hb⟩)) ?_
    refine hs_is rfl (fun w' hw => runs_eqHash (r := true) rfl rfl hcl hR32 (by rw [hq]; simp)) ?_
    refine hs_is rfl (fun w' hw => runs_move rfl) ?_
    refine hs_yis rfl rfl (fun w' hw => runs_fieldK foC_3 rfl) ?_
    refine hs_yis rfl rfl (fun w' hw => runs_load rfl pl924 ((hM1.below hw hM1.lt).at (cm_v hcl))) ?_
    refine hs_yis rfl rfl (fun w' hw => runs_move rfl) ?_
    refine hs_yval rfl rfl (fun w' hw hq => (runs_call (args := [.slice A c.bs.length cc, vo, .func (.func 33) #[] #[]]) goes32 rfl (eqf_any c.bs outs _ vo w' (hH.kept hw) (hO.kept hw) hn hfo (hk.below (hB.trans (hw.mono hB.size)) hk.pos))).mono (by rintro v w5 ⟨rfl, hb⟩; exact ⟨rfl, hw.trans (hb.mono hw.size), hb⟩)) ?_
    refine hs_is rfl (fun w' hw => runs_pick rfl rfl) ?_
    refine hs_is rfl (fun w' hw => runs_assign rfl) ?_
    refine (fun a3 w3 hS hB3 hq => ?_)
    clear hq
    have hB := hB.trans (hB3.mono hB.size)
    have hM1 := hM1.below hB3 hM1.lt
    have hV := hVb.kept hB
    refine wpAnyH_done (by kernel_rfl) ?_ _
    exact qx_ret (ret1 (t := 6) (by kernel_rfl) hS rfl ⟨_, rfl, by rw [hkb]; simp [hq], hB⟩)
  · skip
    refine reg_guard (fun w' => Below w1.heap.size w1 w') [.inl (.pointer (some ⟨w.heap.size, 0 + 2, none⟩)), .inl (.agg (U8 c.root).toArray), .inl (vl), .inl (.agg (U8 R).toArray), .inl (.bool false), .inl (.bool false), .inl undef, .inl undef, .inl undef, .inl undef, .inl (.bool false), .inl (.bool false)] 12 0 mixed rfl (by kernel_rfl) hS (Below.refl _ _) (fun _ h => h.drew) ?_
    refine hs_is rfl (fun w' hw => runs_fieldK foC_2 rfl) ?_
    refine hs_is rfl (fun w' hw => runs_loadMid rfl (cm_root (hM1.below hw hM1.lt) hcl) Tryd.underlying23 rfl (by rw [infHash, U8_length, hcl])) ?_
    refine hs_is rfl (fun w' hw => runs_move rfl) ?_
    refine hs_val rfl (fun w' hw hq => (runs_call (args := [vl]) goes30 rfl (sroot_any l vl w' (hV.kept hw) hl (hk.below (hB.trans (hw.mono hB.size)) hk.pos))).mono (by rw [hR]; rintro v w5 ⟨rfl, hb⟩; exact ⟨rfl, hw.trans (hb.mono hw.size), hb⟩)) ?_
    refine hs_is rfl (fun w' hw => runs_eqHash (r := false) rfl rfl hcl hR32 (by rw [beq_eq_false_iff_ne]; exact hq)) ?_
    refine hs_is rfl (fun w' hw => runs_move rfl) ?_
    refine hs_no rfl rfl rfl ?_
    refine hs_no rfl rfl rfl ?_
    refine hs_no rfl rfl rfl ?_
    refine hs_no rfl rfl rfl ?_
    refine hs_is rfl (fun w' hw => runs_pick rfl rfl) ?_
    refine hs_is rfl (fun w' hw => runs_assign rfl) ?_
    refine (fun a5 w5 hS hB5 hq => ?_)
    clear hq
    have hB := hB.trans (hB5.mono hB.size)
    refine wpAnyH_done (by kernel_rfl) ?_ _
    exact qx_ret (ret1 (t := 6) (by kernel_rfl) hS rfl ⟨_, rfl, by rw [hkb]; simp [hq], hB⟩)
end Go.Proofs.YtooeahpkhocaeaaDoor
