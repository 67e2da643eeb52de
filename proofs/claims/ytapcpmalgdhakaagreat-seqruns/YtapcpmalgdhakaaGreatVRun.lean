/- Layer 9: Run. Conditions: that there are at most 100 edges. -/
import Derived.Test.YtapcpmalgdhakaaGreatVNext
namespace Go.Proofs.YtapcpmalgdhakaaGreat
open Go.RowKit
set_option maxRecDepth 100000

section
variable {n : Int} {es : List E} {k : Nat} {src steps : Int} {L : List Vx} {d S : Nat}
theorem loop_step (hd : d < S) (hq : quietL L = false) (he : (nextL n es k src steps d L).2.2 = 0) : loopL n es k src steps (S - (d + 1)) (d + 1) (nextL n es k src steps d L).1 = loopL n es k src steps (S - d) d L := by
  obtain ⟨f, hf⟩ : ∃ f, S - d = f + 1 := ⟨S - (d + 1), by omega⟩
  rw [hf, loopL, if_neg (by rw [hq]; simp), if_neg (by rw [he]; simp), show S - (d + 1) = f by omega]
theorem loop_bad (hd : d < S) (hq : quietL L = false) (he : (nextL n es k src steps d L).2.2 ≠ 0) : loopL n es k src steps (S - d) d L = ([], d, (nextL n es k src steps d L).2.2) := by
  obtain ⟨f, hf⟩ : ∃ f, S - d = f + 1 := ⟨S - (d + 1), by omega⟩
  rw [hf, loopL, if_neg (by rw [hq]; simp), if_pos he]
theorem loop_quiet (hq : quietL L = true) : loopL n es k src steps (S - d) d L = (valuesL L, d, 0) := by
  cases S - d with
  | zero => rfl
  | succ f => rw [loopL, if_pos hq]
theorem loop_all (hd : ¬ d < S) : loopL n es k src steps (S - d) d L = (valuesL L, d, 0) := by
  rw [show S - d = 0 by omega]; rfl
end
set_option maxHeartbeats 2000000 in
theorem whole_any (n : Int) (es : List E) (hsm : es.length ≤ 100) (v : Value) (tg : ByteArray) (src steps : Int) (w : World) (hE : Edges w v es) : Ans 17 [gv n v, jv tg src steps] w (fun u w' => ∃ x, u = .tuple #[x, .int .i64 (((wholeL n es (kindL tg.data.toList) src steps).2.1 : Nat) : Int), .int .i64 (wholeL n es (kindL tg.data.toList) src steps).2.2] ∧ Nums w' x (wholeL n es (kindL tg.data.toList) src steps).1 ∧ Below w.heap.size w w') := by
  refine calls_qx (args := [gv n v, .agg (jc tg src steps).toArray]) 46 Tryz.func17 rfl (by kernel_rfl) (by simp) (fun a hS => ?_)
  have hB := Below.refl w.heap.size w
  have hEb := hE
  refine qx_seq (reg_seq ?_)
  refine seq_op hS (by decide) (runs_boxB (cs := [.int .i64 n, v]) rfl rfl) (fun v1 w1 a1 hp hS => ?_)
  obtain ⟨rfl, hM1, hB1⟩ := hp
  have hB := hB.trans (hB1.mono hB.size)
  have hE := hEb.kept hB
  refine seq_op hS (by decide) (runs_boxB (cs := jc tg src steps) rfl rfl) (fun v3 w3 a1 hp hS => ?_)
  obtain ⟨rfl, hM3, hB3⟩ := hp
  have hB := hB.trans (hB3.mono hB.size)
  have hM1 := hM1.below hB3 hM1.lt
  have hE := hEb.kept hB
  refine sI hS (runs_assign rfl) fun _ hS => ?_
  refine sI hS (runs_assign rfl) fun _ hS => ?_
  refine sI hS (runs_assign rfl) fun _ hS => ?_
  refine nil_ok (qx_seq (?_))
  by_cases hj : jobB n es (kindL tg.data.toList) src steps = true
  · skip
    refine reg_seq ?_
    refine sI hS (runs_loadRow rfl hM1 Tryz.underlying24 rfl (by rw [sz24]; rfl)) fun _ hS => ?_
    refine sI hS (runs_loadRow rfl hM3 Tryz.underlying26 rfl (by rw [sz26]; rfl)) fun _ hS => ?_
    refine seq_op hS (by decide) (runs_call (args := [gv n v, .agg (jc tg src steps).toArray]) goes16 rfl (start_any n es v tg src steps w3 hE)) (fun v5 w5 a1 hp hS => ?_)
    obtain ⟨hB5, x0, rfl, hok, hbad⟩ := hp
    rw [if_pos hj] at hS
    have hown := hok hj
    have hlS : (startL n (kindL tg.data.toList) src).length ≤ 64 := by rw [start_length]; have := (job_n hj).2; omega
    have hV0 := verts_own hown rfl
    have hB := hB.trans (hB5.mono hB.size)
    have hM1 := hM1.below hB5 hM1.lt
    have hM3 := hM3.below hB5 hM3.lt
    have hE := hEb.kept hB
    refine sI hS (runs_move rfl) fun _ hS => ?_
    refine sI hS (runs_extract rfl rfl) fun _ hS => ?_
    refine sI hS (runs_extract rfl rfl) fun _ hS => ?_
    refine sI hS (runs_assign rfl) fun _ hS => ?_
    refine sI hS (runs_assign rfl) fun _ hS => ?_
    refine nil_ok (qx_seq (qx_seq (reg_seq ?_)))
    refine sI hS (runs_move rfl) fun _ hS => ?_
    refine sI hS (runs_neq (r := false) rfl rfl rfl) fun _ hS => ?_
    refine nil_ok (wp_cond_false (hS.eval rfl) (wp_skip (qx_seq (?_))))
    have hs64 := (job_iff.1 hj).2.2.2.2.2
    have hBpre0 := hB
    have hB := Below.refl w5.heap.size w5
    have hM1b := hM1
    have hM3b := hM3
    have hEb := hE
    refine reg_seq ?_
    refine sI hS (runs_assign rfl) fun _ hS => ?_
    refine nil_ok (qx_seq (?_))
    refine qx_for (fun mm a w' => ∃ (d : Nat) (L : List Vx) (ev lv : Value), d ≤ steps.toNat ∧ mm = steps.toNat - d ∧ Below w5.heap.size w5 w' ∧ Verts w' lv L ∧ loopL n es (kindL tg.data.toList) src steps (steps.toNat - d) d L = loopL n es (kindL tg.data.toList) src steps steps.toNat 0 (startL n (kindL tg.data.toList) src) ∧ L.length ≤ 64 ∧ Sees 46 [(9, .int .i64 (d : Int)), (8, ev), (7, lv), (3, .pointer (some ⟨w1.heap.size, 0, none⟩)), (2, .pointer (some ⟨w.heap.size, 0, none⟩))] a) steps.toNat ⟨0, startL n (kindL tg.data.toList) src, _, x0, by omega, by omega, hB, hV0, rfl, hlS, hS.only _ ⟨rfl, rfl, rfl, rfl, rfl, trivial⟩⟩ ?_
    clear hS 
    rintro mm a wl1 ⟨d, L, ev, lv, hi1, rfl, hBb1, hLv, hF, hLl, hS⟩
    have hE := hEb.kept hBb1
    have hM1 := hM1b.below hBb1 hM1b.lt
    have hM3 := hM3b.below hBb1 hM3b.lt
    have hB := Below.refl wl1.heap.size wl1
    have hM1b1 := hM1
    have hM3b1 := hM3
    have hEb1 := hE
    have hLvb1 := hLv
    refine reg_seq ?_
    refine sI hS (runs_move rfl) fun _ hS => ?_
    refine sI hS (runs_fieldK fo26_2 rfl) fun _ hS => ?_
    refine sI hS (runs_load rfl pl3 (hM3.at rfl)) fun _ hS => ?_
    by_cases hlt1 : (d : Int) < steps
    · skip
      refine sI hS (lssT rfl rfl (by omega)) fun _ hS => ?_
      refine sI hS (runs_move rfl) fun _ hS => ?_
      refine sY hS (runs_move rfl) fun _ hS => ?_
      refine seq_yes hS (by decide) rfl (by decide) rfl (runs_call (args := [lv]) goes11 rfl (quiet_any L lv wl1 hLv)) (fun v7 w7 a1 hp hS => ?_)
      obtain ⟨rfl, hB7⟩ := hp
      have hB := hB.trans (hB7.mono hB.size)
      have hM1 := hM1b1.below hB hM1b1.lt
      have hM3 := hM3b1.below hB hM3b1.lt
      have hE := hEb1.kept hB
      have hLv := hLvb1.kept hB
      by_cases hq : quietL L = true
      · skip
        rw [hq] at hS
        refine sY hS (runs_not (b := true) rfl) fun _ hS => ?_
        refine sI hS (runs_pick rfl rfl) fun _ hS => ?_
        refine nil_ok ⟨_, hS.eval rfl, fun _ => ?_, fun h => by simp at h⟩
        have hB := hBb1.trans (hB.mono hBb1.size)
        refine qx_seq (?_)
        have hfin : wholeL n es (kindL tg.data.toList) src steps = (valuesL L, d, 0) := by
          unfold wholeL
          rw [if_pos hj]
          refine hF.symm.trans ?_
          first | exact loop_quiet hq | exact loop_all (by omega)
        refine reg_seq ?_
        refine sI hS (runs_move rfl) fun _ hS => ?_
        refine seq_op hS (by decide) (runs_call (args := [lv]) goes14 rfl (values_any L lv w7 hLv (by omega))) (fun v9 w9 a1 hp hS => ?_)
        obtain ⟨hown9, hB9⟩ := hp
        have hB := hB.trans (hB9.mono hB.size)
        have hM1 := hM1b.below hB hM1b.lt
        have hM3 := hM3b.below hB hM3b.lt
        have hE := hE.kept hB9
        have hLv := hLv.kept hB9
        refine sI hS (runs_move rfl) fun _ hS => ?_
        refine sI hS (runs_assign rfl) fun _ hS => ?_
        refine sI hS (runs_assign rfl) fun _ hS => ?_
        refine sI hS (runs_assign rfl) fun _ hS => ?_
        exact nil_ok (qx_ret (ret3 (t := 4) (u := 5) (r := 6) (by kernel_rfl) hS rfl rfl rfl ⟨_, rfl, _, by rw [hfin]; try rfl, by rw [hfin]; exact nums_own hown9 rfl, (hBpre0.trans ((hB).mono hBpre0.size))⟩))
      · skip
        rw [Bool.eq_false_iff.2 hq] at hS
        refine sY hS (runs_not (b := false) rfl) fun _ hS => ?_
        refine sI hS (runs_pick rfl rfl) fun _ hS => ?_
        refine nil_ok ⟨_, hS.eval rfl, fun h => by simp at h, fun _ => ?_⟩
        refine qx_block (qx_seq (qx_seq (reg_seq ?_)))
        refine sI hS (runs_loadRow rfl hM1 Tryz.underlying24 rfl (by rw [sz24]; rfl)) fun _ hS => ?_
        refine sI hS (runs_loadRow rfl hM3 Tryz.underlying26 rfl (by rw [sz26]; rfl)) fun _ hS => ?_
        refine sI hS (runs_move rfl) fun _ hS => ?_
        refine sI hS (runs_move rfl) fun _ hS => ?_
        refine seq_op hS (by decide) (runs_call (args := [gv n v, .agg (jc tg src steps).toArray, .int .i64 (d : Int), lv]) goes6 rfl (next_any n es hsm v tg src steps (d : Int) L lv w7 hE hLv)) (fun v11 w11 a1 hp hS => ?_)
        obtain ⟨xn, yn, rfl, hNv, _, hB11⟩ := hp
        have hB := hB.trans (hB11.mono hB.size)
        have hM1 := hM1b1.below hB hM1b1.lt
        have hM3 := hM3b1.below hB hM3b1.lt
        have hE := hEb1.kept hB
        have hLv := hLvb1.kept hB
        obtain ⟨NX, hNX⟩ : ∃ r, nextL n es (kindL tg.data.toList) src steps (d : Int) L = r := ⟨_, rfl⟩
        rw [hNX] at hS hNv
        have hqf : quietL L = false := Bool.eq_false_iff.2 hq
        refine sI hS (runs_move rfl) fun _ hS => ?_
        refine sI hS (runs_extract rfl rfl) fun _ hS => ?_
        refine sI hS (runs_extract rfl rfl) fun _ hS => ?_
        refine sI hS (runs_extract rfl rfl) fun _ hS => ?_
        refine sI hS (runs_assign rfl) fun _ hS => ?_
        refine sI hS (runs_assign rfl) fun _ hS => ?_
        refine nil_ok (qx_seq (reg_seq ?_))
        refine sI hS (runs_move rfl) fun _ hS => ?_
        by_cases he : NX.2.2 ≠ 0
        · skip
          refine sI hS (runs_neq (r := true) rfl rfl (by simpa using he)) fun _ hS => ?_
          refine nil_ok (wp_cond_true (hS.eval rfl) (qx_seq (reg_seq ?_)))
          refine sI hS (runs_move rfl) fun _ hS => ?_
          refine sI hS (runs_move rfl) fun _ hS => ?_
          refine sI hS (runs_assign rfl) fun _ hS => ?_
          refine sI hS (runs_assign rfl) fun _ hS => ?_
          refine sI hS (runs_assign rfl) fun _ hS => ?_
          have hfin : wholeL n es (kindL tg.data.toList) src steps = ([], d, NX.2.2) := by
            unfold wholeL
            rw [if_pos hj]
            refine hF.symm.trans ?_
            have h := loop_bad (n := n) (es := es) (k := (kindL tg.data.toList)) (src := src) (steps := steps) (d := d) (S := steps.toNat) (by omega) hqf (by rw [hNX]; exact he)
            rw [hNX] at h
            exact h
          exact nil_ok (qx_ret (ret3 (t := 4) (u := 5) (r := 6) (by kernel_rfl) hS rfl rfl rfl ⟨_, rfl, _, by rw [hfin]; try rfl, by rw [hfin]; exact nums_nil _, (hBpre0.trans (((hBb1.trans ((hB).mono hBb1.size))).mono hBpre0.size))⟩))
        refine sI hS (runs_neq (r := false) rfl rfl (by simpa using he)) fun _ hS => ?_
        refine nil_ok (wp_cond_false (hS.eval rfl) (wp_skip (reg_seq ?_)))
        refine sI hS (runs_move rfl) fun _ hS => ?_
        refine sI hS (runs_add (r := ((d + 1 : Nat) : Int)) rfl rfl (by simp [IntKind.wrap, IntKind.bits, IntKind.signed]; omega)) fun _ hS => ?_
        refine sI hS (runs_assign rfl) fun _ hS => ?_
        have he0 : (nextL n es (kindL tg.data.toList) src steps (d : Int) L).2.2 = 0 := by rw [hNX]; exact Classical.not_not.1 he
        have hst := loop_step (S := steps.toNat) (by omega) hqf he0
        have hln := next_length he0
        rw [hNX] at hst hln
        exact nil_ok ⟨_, by omega, d + 1, NX.1, _, xn, by omega, rfl, hBb1.trans (hB.mono hBb1.size), hNv, hst.trans hF, by omega, hS.only _ ⟨rfl, rfl, rfl, rfl, rfl, trivial⟩⟩
    refine sI hS (lssF rfl rfl (by omega)) fun _ hS => ?_
    refine sI hS (runs_move rfl) fun _ hS => ?_
    refine sN hS fun _ hS => ?_
    refine sN hS fun _ hS => ?_
    refine sN hS fun _ hS => ?_
    refine sI hS (runs_pick rfl rfl) fun _ hS => ?_
    refine nil_ok ⟨_, hS.eval rfl, fun _ => ?_, fun h => by simp at h⟩
    have hB := hBb1.trans (hB.mono hBb1.size)
    refine qx_seq (?_)
    have hfin : wholeL n es (kindL tg.data.toList) src steps = (valuesL L, d, 0) := by
      unfold wholeL
      rw [if_pos hj]
      refine hF.symm.trans ?_
      first | exact loop_quiet hq | exact loop_all (by omega)
    refine reg_seq ?_
    refine sI hS (runs_move rfl) fun _ hS => ?_
    refine seq_op hS (by decide) (runs_call (args := [lv]) goes14 rfl (values_any L lv wl1 hLv (by omega))) (fun v13 w13 a1 hp hS => ?_)
    obtain ⟨hown9, hB13⟩ := hp
    have hB := hB.trans (hB13.mono hB.size)
    have hM1 := hM1b.below hB hM1b.lt
    have hM3 := hM3b.below hB hM3b.lt
    have hE := hE.kept hB13
    refine sI hS (runs_move rfl) fun _ hS => ?_
    refine sI hS (runs_assign rfl) fun _ hS => ?_
    refine sI hS (runs_assign rfl) fun _ hS => ?_
    refine sI hS (runs_assign rfl) fun _ hS => ?_
    exact nil_ok (qx_ret (ret3 (t := 4) (u := 5) (r := 6) (by kernel_rfl) hS rfl rfl rfl ⟨_, rfl, _, by rw [hfin]; try rfl, by rw [hfin]; exact nums_own hown9 rfl, (hBpre0.trans ((hB).mono hBpre0.size))⟩))
  · skip
    refine reg_seq ?_
    refine sI hS (runs_loadRow rfl hM1 Tryz.underlying24 rfl (by rw [sz24]; rfl)) fun _ hS => ?_
    refine sI hS (runs_loadRow rfl hM3 Tryz.underlying26 rfl (by rw [sz26]; rfl)) fun _ hS => ?_
    refine seq_op hS (by decide) (runs_call (args := [gv n v, .agg (jc tg src steps).toArray]) goes16 rfl (start_any n es v tg src steps w3 hE)) (fun v15 w15 a1 hp hS => ?_)
    obtain ⟨hB15, x0, rfl, hok, hbad⟩ := hp
    rw [if_neg hj] at hS
    have hB := hB.trans (hB15.mono hB.size)
    refine sI hS (runs_move rfl) fun _ hS => ?_
    refine sI hS (runs_extract rfl rfl) fun _ hS => ?_
    refine sI hS (runs_extract rfl rfl) fun _ hS => ?_
    refine sI hS (runs_assign rfl) fun _ hS => ?_
    refine sI hS (runs_assign rfl) fun _ hS => ?_
    refine nil_ok (qx_seq (qx_seq (reg_seq ?_)))
    refine sI hS (runs_move rfl) fun _ hS => ?_
    refine sI hS (runs_neq (r := true) rfl rfl rfl) fun _ hS => ?_
    refine nil_ok (wp_cond_true (hS.eval rfl) (qx_seq (reg_seq ?_)))
    refine sI hS (runs_move rfl) fun _ hS => ?_
    refine sI hS (runs_assign rfl) fun _ hS => ?_
    refine sI hS (runs_assign rfl) fun _ hS => ?_
    refine sI hS (runs_assign rfl) fun _ hS => ?_
    have hfin : wholeL n es (kindL tg.data.toList) src steps = ([], 0, 70) := by unfold wholeL; rw [if_neg hj]
    exact nil_ok (qx_ret (ret3 (t := 4) (u := 5) (r := 6) (by kernel_rfl) hS rfl rfl rfl ⟨_, rfl, _, by rw [hfin]; try rfl, by rw [hfin]; exact nums_nil _, hB⟩))
end Go.Proofs.YtapcpmalgdhakaaGreat
