/- modillionlaw09.SeqSteps, walked. Conditions: none of our own. -/
import Derived.Test.YtapcpmalgdhakaaVAwake
import Derived.Test.YtapcpmalgdhakaaNAll
namespace Go.Proofs.Ytapcpmalgdhakaa
open Go.RowKit
set_option maxRecDepth 100000

set_option maxHeartbeats 2000000 in
theorem steps9_any (n : Int) (es : List E) (v : Value) (tg : ByteArray) (src steps : Int) (w : World) (hE : Edges w v es) : Ans 3 [gv n v, jv tg src steps] w (fun u w' => u = .bool true ∧ Below w.heap.size w w') := by
  obtain ⟨Ag, cg, rfl, hg1, hg2, hgA⟩ := hE
  have hE : Edges w (.slice Ag es.length cg) es := ⟨Ag, cg, rfl, hg1, hg2, hgA⟩
  clear hgA
  refine calls_qx (args := [gv n (.slice Ag es.length cg), .agg (jc tg src steps).toArray]) 109 Try.func3 rfl (by kernel_rfl) (by simp) (fun a hS => ?_)
  have hB := Below.refl w.heap.size w
  have hEb := hE
  refine qx_seq (reg_seq ?_)
  refine seq_op hS (by decide) (runs_boxB (cs := [.int .i64 n, .slice Ag es.length cg]) rfl rfl) (fun v1 w1 a1 hp hS => ?_)
  obtain ⟨rfl, hM1, hB1⟩ := hp
  have hB := hB.trans (hB1.mono hB.size)
  have hE := hEb.kept hB
  refine seq_op hS (by decide) (runs_boxB (cs := jc tg src steps) rfl rfl) (fun v3 w3 a1 hp hS => ?_)
  obtain ⟨rfl, hM3, hB3⟩ := hp
  have hB := hB.trans (hB3.mono hB.size)
  have hM1 := hM1.below hB3 hM1.lt
  have hE := hEb.kept hB
  refine sI hS (runs_assign rfl) fun _ hS => ?_
  refine nil_ok (qx_seq (qx_seq (reg_seq ?_)))
  refine seq_op hS (by decide) (runs_call (args := []) goes11 rfl (awake_any w3)) (fun v5 w5 a1 hp hS => ?_)
  obtain ⟨rfl, hB5⟩ := hp
  have hB := hB.trans (hB5.mono hB.size)
  have hM1 := hM1.below hB5 hM1.lt
  have hM3 := hM3.below hB5 hM3.lt
  have hE := hEb.kept hB
  refine sI hS (runs_not (b := true) rfl) fun _ hS => ?_
  refine sI hS (runs_move rfl) fun _ hS => ?_
  refine sY hS (runs_fieldK fo24_1 rfl) fun _ hS => ?_
  refine sY hS (runs_load rfl pl22 (hM1.at rfl)) fun _ hS => ?_
  refine sY hS (runs_len rfl und22) fun _ hS => ?_
  by_cases h60 : ((es.length : Nat) : Int) > 60
  · skip
    refine sY hS (gtrT rfl rfl (by omega)) fun _ hS => ?_
    refine sI hS (runs_pick rfl rfl) fun _ hS => ?_
    refine sI hS (runs_move rfl) fun _ hS => ?_
    refine sN hS fun _ hS => ?_
    refine sN hS fun _ hS => ?_
    refine sN hS fun _ hS => ?_
    refine sI hS (runs_pick rfl rfl) fun _ hS => ?_
    refine nil_ok (wp_cond_true (hS.eval rfl) (qx_seq (reg_seq ?_)))
    refine seq_op hS (by decide) (runs_call (args := []) goes11 rfl (awake_any w5)) (fun v7 w7 a1 hp hS => ?_)
    obtain ⟨rfl, hB7⟩ := hp
    have hB := hB.trans (hB7.mono hB.size)
    have hM1 := hM1.below hB7 hM1.lt
    have hM3 := hM3.below hB7 hM3.lt
    have hE := hEb.kept hB
    refine sI hS (runs_assign rfl) fun _ hS => ?_
    exact nil_ok (qx_ret (ret1 (t := 4) (by kernel_rfl) hS rfl ⟨_, rfl, rfl, hB⟩))
  refine sY hS (gtrF rfl rfl (by omega)) fun _ hS => ?_
  refine sI hS (runs_pick rfl rfl) fun _ hS => ?_
  refine sI hS (runs_move rfl) fun _ hS => ?_
  refine sY hS (runs_fieldK fo26_2 rfl) fun _ hS => ?_
  refine sY hS (runs_load rfl pl3 (hM3.at rfl)) fun _ hS => ?_
  by_cases h20 : steps > 20
  · skip
    refine sY hS (gtrT rfl rfl (by omega)) fun _ hS => ?_
    refine sI hS (runs_pick rfl rfl) fun _ hS => ?_
    refine nil_ok (wp_cond_true (hS.eval rfl) (qx_seq (reg_seq ?_)))
    refine seq_op hS (by decide) (runs_call (args := []) goes11 rfl (awake_any w5)) (fun v9 w9 a1 hp hS => ?_)
    obtain ⟨rfl, hB9⟩ := hp
    have hB := hB.trans (hB9.mono hB.size)
    have hM1 := hM1.below hB9 hM1.lt
    have hM3 := hM3.below hB9 hM3.lt
    have hE := hEb.kept hB
    refine sI hS (runs_assign rfl) fun _ hS => ?_
    exact nil_ok (qx_ret (ret1 (t := 4) (by kernel_rfl) hS rfl ⟨_, rfl, rfl, hB⟩))
  refine sY hS (gtrF rfl rfl (by omega)) fun _ hS => ?_
  refine sI hS (runs_pick rfl rfl) fun _ hS => ?_
  refine nil_ok (wp_cond_false (hS.eval rfl) (wp_skip (qx_seq (?_))))
  by_cases hj : jobB n es (kindL tg.data.toList) src steps = true
  · skip
    rcases whole_end hj with ⟨T, hT, hok, hnq, hend, hW⟩ | ⟨T, hT, hok, hnq, hbad, hW⟩
    · skip
      obtain ⟨XL, hXL⟩ : ∃ l, valuesL (stL n es (kindL tg.data.toList) src steps T) = l := ⟨_, rfl⟩
      rw [hXL] at hW
      have hls : (stL n es (kindL tg.data.toList) src steps T).length = n.toNat := st_length hok T (Nat.le_refl _)
      have hn64 := (job_n hj).2
      have hs1 := (job_iff.1 hj).2.2.2.2.1
      refine reg_guard (fun w' => Below w5.heap.size w5 w') [.inl (gv n (.slice Ag es.length cg)), .inr (fun v w' => ∃ y, v = gv n y ∧ Edges w' y es), .inl (.agg (jc tg src steps).toArray), .inr (fun v w' => ∃ (x0 : Value), v = .tuple #[x0, .int .i64 0] ∧ Verts w' x0 (stL n es (kindL tg.data.toList) src steps 0)), .inr (fun v w' => ∃ (x0 : Value), v = .tuple #[x0, .int .i64 0] ∧ Verts w' x0 (stL n es (kindL tg.data.toList) src steps 0)), .inr (fun v w' => Verts w' v (stL n es (kindL tg.data.toList) src steps 0)), .inl (.int .i64 0), .inr (fun v w' => Verts w' v (stL n es (kindL tg.data.toList) src steps 0)), .inl (.int .i64 0)] 9 0 mixed rfl (by kernel_rfl) hS (Below.refl _ _) (fun _ h => h.drew) ?_
      refine hs_is rfl (fun w' hw => runs_loadRow rfl (hM1.below hw hM1.lt) Try.underlying24 rfl (by rw [sz24]; rfl)) ?_
      refine hs_pr rfl (fun _ _ _ h hb => by obtain ⟨y, h1, h2⟩ := h; exact ⟨y, h1, h2.kept hb⟩) (fun w' hw hq => (runs_call (args := [gv n (.slice Ag es.length cg)]) goes13 rfl (own_any n es (by omega) _ w' (hE.kept hw))).mono (by rintro u w3 ⟨hb, y, h1, h2⟩; exact ⟨⟨y, h1, h2.edges⟩, hw.trans (hb.mono hw.size), hb⟩)) (fun u1 => ?_)
      refine hs_is rfl (fun w' hw => runs_loadRow rfl (hM3.below hw hM3.lt) Try.underlying26 rfl (by rw [sz26]; rfl)) ?_
      refine hs_pr rfl (fun _ _ _ h hb => by obtain ⟨x0, he, h0⟩ := h; exact ⟨x0, he, h0.kept hb⟩) (fun w' hw hq => (by obtain ⟨y, rfl, hy⟩ := hq (1, _) List.mem_cons_self (by kernel_rfl); exact (runs_call (args := [gv n y, .agg (jc tg src steps).toArray]) goes12 rfl (start_is w' hy rfl (if_pos hj) (if_pos hj))).mono (by rintro v w5 ⟨x0, rfl, h0, hb⟩; exact ⟨⟨x0, rfl, h0⟩, hw.trans (hb.mono hw.size), hb⟩))) (fun vc1 => ?_)
      refine hs_pr rfl (fun _ _ _ h hb => by obtain ⟨x0, he, h0⟩ := h; exact ⟨x0, he, h0.kept hb⟩) (fun w' hw hq => (by have h := hq (3, _) List.mem_cons_self (by kernel_rfl); exact (runs_move rfl).mono (by rintro v w5 ⟨rfl, rfl⟩; exact ⟨h, hw, Below.refl _ _⟩))) (fun vc2 => ?_)
      refine hs_pr rfl (fun _ _ _ h hb => h.kept hb) (fun w' hw hq => (by obtain ⟨x0, rfl, h0⟩ := hq (4, _) List.mem_cons_self (by kernel_rfl); exact (runs_extract rfl rfl).mono (by rintro v w5 ⟨rfl, rfl⟩; exact ⟨h0, hw, Below.refl _ _⟩))) (fun ve0 => ?_)
      refine hs_val rfl (fun w' hw hq => (by obtain ⟨x0, rfl, h0⟩ := hq (4, _) (List.mem_cons_of_mem _ List.mem_cons_self) (by kernel_rfl); exact (runs_extract rfl rfl).mono (by rintro v w5 ⟨rfl, rfl⟩; exact ⟨rfl, hw, Below.refl _ _⟩))) ?_
      refine hs_pr rfl (fun _ _ _ h hb => h.kept hb) (fun w' hw hq => (by have h := hq (5, _) List.mem_cons_self (by kernel_rfl); exact (runs_assign rfl).mono (by rintro v w5 ⟨rfl, rfl⟩; exact ⟨h, hw, Below.refl _ _⟩))) (fun va0 => ?_)
      refine hs_is rfl (fun w' hw => runs_assign rfl) ?_
      refine (fun a11 w11 hS hB11 hq => ?_)




      have hV := (hq (7, _) List.mem_cons_self)
      obtain ⟨AV, cV, hsV, -, hcV, -⟩ := id hV
      subst hsV
      clear hq
      have hB := hB.trans (hB11.mono hB.size)
      have hM1 := hM1.below hB11 hM1.lt
      have hM3 := hM3.below hB11 hM3.lt
      have hE := hEb.kept hB
      refine wpAnyH_done (by kernel_rfl) ?_ _
      refine qx_seq (reg_guard (fun w' => Below w11.heap.size w11 w') [.inl (gv n (.slice Ag es.length cg)), .inr (fun v w' => ∃ y, v = gv n y ∧ Edges w' y es), .inl (.agg (jc tg src steps).toArray), .inr (fun v w' => ∃ (x0 : Value), v = .tuple #[x0, .int .i64 ((T : Nat) : Int), .int .i64 0] ∧ Nums w' x0 XL), .inr (fun v w' => ∃ (x0 : Value), v = .tuple #[x0, .int .i64 ((T : Nat) : Int), .int .i64 0] ∧ Nums w' x0 XL), .inr (fun v w' => Nums w' v XL), .inl (.int .i64 ((T : Nat) : Int)), .inl (.int .i64 0), .inr (fun v w' => Nums w' v XL), .inl (.int .i64 ((T : Nat) : Int)), .inl (.int .i64 0)] 11 0 mixed rfl (by kernel_rfl) hS (Below.refl _ _) (fun _ h => h.drew) ?_)
      refine hs_is rfl (fun w' hw => runs_loadRow rfl (hM1.below hw hM1.lt) Try.underlying24 rfl (by rw [sz24]; rfl)) ?_
      refine hs_pr rfl (fun _ _ _ h hb => by obtain ⟨y, h1, h2⟩ := h; exact ⟨y, h1, h2.kept hb⟩) (fun w' hw hq => (runs_call (args := [gv n (.slice Ag es.length cg)]) goes13 rfl (own_any n es (by omega) _ w' (hE.kept hw))).mono (by rintro u w3 ⟨hb, y, h1, h2⟩; exact ⟨⟨y, h1, h2.edges⟩, hw.trans (hb.mono hw.size), hb⟩)) (fun u1 => ?_)
      refine hs_is rfl (fun w' hw => runs_loadRow rfl (hM3.below hw hM3.lt) Try.underlying26 rfl (by rw [sz26]; rfl)) ?_
      refine hs_pr rfl (fun _ _ _ h hb => by obtain ⟨x0, he, h0⟩ := h; exact ⟨x0, he, h0.kept hb⟩) (fun w' hw hq => (by obtain ⟨y, rfl, hy⟩ := hq (1, _) List.mem_cons_self (by kernel_rfl); exact (runs_call (args := [gv n y, .agg (jc tg src steps).toArray]) goes14 rfl (whole_is (by omega) w' hy rfl hW)).mono (by rintro v w5 ⟨x0, rfl, h0, hb⟩; exact ⟨⟨x0, rfl, h0⟩, hw.trans (hb.mono hw.size), hb⟩))) (fun vc1 => ?_)
      refine hs_pr rfl (fun _ _ _ h hb => by obtain ⟨x0, he, h0⟩ := h; exact ⟨x0, he, h0.kept hb⟩) (fun w' hw hq => (by have h := hq (3, _) List.mem_cons_self (by kernel_rfl); exact (runs_move rfl).mono (by rintro v w5 ⟨rfl, rfl⟩; exact ⟨h, hw, Below.refl _ _⟩))) (fun vc2 => ?_)
      refine hs_pr rfl (fun _ _ _ h hb => h.kept hb) (fun w' hw hq => (by obtain ⟨x0, rfl, h0⟩ := hq (4, _) List.mem_cons_self (by kernel_rfl); exact (runs_extract rfl rfl).mono (by rintro v w5 ⟨rfl, rfl⟩; exact ⟨h0, hw, Below.refl _ _⟩))) (fun ve0 => ?_)
      refine hs_val rfl (fun w' hw hq => (by obtain ⟨x0, rfl, h0⟩ := hq (4, _) (List.mem_cons_of_mem _ List.mem_cons_self) (by kernel_rfl); exact (runs_extract rfl rfl).mono (by rintro v w5 ⟨rfl, rfl⟩; exact ⟨rfl, hw, Below.refl _ _⟩))) ?_
      refine hs_val rfl (fun w' hw hq => (by obtain ⟨x0, rfl, h0⟩ := hq (4, _) (List.mem_cons_of_mem _ List.mem_cons_self) (by kernel_rfl); exact (runs_extract rfl rfl).mono (by rintro v w5 ⟨rfl, rfl⟩; exact ⟨rfl, hw, Below.refl _ _⟩))) ?_
      refine hs_pr rfl (fun _ _ _ h hb => h.kept hb) (fun w' hw hq => (by have h := hq (5, _) List.mem_cons_self (by kernel_rfl); exact (runs_assign rfl).mono (by rintro v w5 ⟨rfl, rfl⟩; exact ⟨h, hw, Below.refl _ _⟩))) (fun va0 => ?_)
      refine hs_is rfl (fun w' hw => runs_assign rfl) ?_
      refine hs_is rfl (fun w' hw => runs_assign rfl) ?_
      refine (fun a13 w13 hS hB13 hq => ?_)




      have hX := (hq (8, _) List.mem_cons_self)
      obtain ⟨AX, cX, hsX, -, hcX, -⟩ := id hX
      subst hsX
      clear hq
      have hB := hB.trans (hB13.mono hB.size)
      have hM1 := hM1.below hB13 hM1.lt
      have hM3 := hM3.below hB13 hM3.lt
      have hE := hEb.kept hB
      have hV := hV.kept hB13
      refine wpAnyH_done (by kernel_rfl) ?_ _
      refine qx_seq (qx_seq (reg_seq ?_))
      refine sI hS (runs_move rfl) fun _ hS => ?_
      refine sI hS (runs_neq (r := false) rfl rfl rfl) fun _ hS => ?_
      refine nil_ok (wp_cond_false (hS.eval rfl) (wp_skip (qx_seq (qx_seq (reg_seq ?_)))))
      refine sI hS (runs_assign rfl) fun _ hS => ?_
      refine nil_ok (?_)
      have hBo1 := hB
      refine qx_for (fun mm a w' => ∃ (d : Nat) (lv : Value), d ≤ T ∧ mm = T - d ∧ Below w13.heap.size w13 w' ∧ Verts w' lv (stL n es (kindL tg.data.toList) src steps d) ∧ Sees 109 [(10, .int .i64 (d : Int)), (5, lv), (2, .pointer (some ⟨w.heap.size, 0, none⟩)), (3, .pointer (some ⟨w1.heap.size, 0, none⟩)), (7, .slice AX XL.length cX), (8, .int .i64 ((T : Nat) : Int)), (9, .int .i64 0)] a) T ⟨0, .slice AV (stL n es (kindL tg.data.toList) src steps 0).length cV, by omega, by omega, Below.refl _ _, hV, hS.only _ ⟨rfl, rfl, rfl, rfl, rfl, rfl, rfl, trivial⟩⟩ ?_
      clear hS
      rintro mm a wl1 ⟨d, lv, hi1, rfl, hBl1, hLv, hS⟩
      have hM1 := hM1.below hBl1 hM1.lt
      have hM3 := hM3.below hBl1 hM3.lt
      have hE := hE.kept hBl1
      have hV := hV.kept hBl1
      have hX := hX.kept hBl1
      have hB := Below.refl wl1.heap.size wl1
      have hM1b1 := hM1
      have hM3b1 := hM3
      have hEb1 := hE
      have hVb1 := hV
      have hXb1 := hX
      refine reg_seq ?_
      refine sI hS (runs_move rfl) fun _ hS => ?_
      refine sI hS (runs_move rfl) fun _ hS => ?_
      by_cases hlt1 : d < T
      · skip
        refine sI hS (lssT rfl rfl (by omega)) fun _ hS => ?_
        refine nil_ok ⟨_, hS.eval rfl, fun h => by simp at h, fun _ => ?_⟩
        have hLvb1 := hLv
        refine qx_seq (qx_block (qx_seq (qx_seq (reg_seq ?_))))
        refine sI hS (runs_move rfl) fun _ hS => ?_
        refine seq_op hS (by decide) (runs_call (args := [lv]) goes15 rfl (quiet_any (stL n es (kindL tg.data.toList) src steps d) lv wl1 hLv)) (fun v15 w15 a1 hp hS => ?_)
        obtain ⟨rfl, hB15⟩ := hp
        rw [hnq d (by omega)] at hS
        have hB := hB.trans (hB15.mono hB.size)
        have hM1 := hM1b1.below hB hM1b1.lt
        have hM3 := hM3b1.below hB hM3b1.lt
        have hE := hEb1.kept hB
        have hV := hVb1.kept hB
        have hX := hXb1.kept hB
        have hLv := hLvb1.kept hB
        refine nil_ok (wp_cond_false (hS.eval rfl) (wp_skip (qx_seq (?_))))
        obtain ⟨NS, hNS⟩ : ∃ s, (nextL n es (kindL tg.data.toList) src steps ((d : Nat) : Int) (stL n es (kindL tg.data.toList) src steps d)).2.1 = s := ⟨_, rfl⟩
        have hNd : nextL n es (kindL tg.data.toList) src steps ((d : Nat) : Int) (stL n es (kindL tg.data.toList) src steps d) = ((stL n es (kindL tg.data.toList) src steps (d + 1)), NS, 0) := by rw [← hNS, ← hok.2 d (by omega)]; rfl
        refine reg_guard (fun w' => Below w15.heap.size w15 w') [.inl (gv n (.slice Ag es.length cg)), .inr (fun v w' => ∃ y, v = gv n y ∧ Edges w' y es), .inl (.agg (jc tg src steps).toArray), .inl (.int .i64 (d : Int)), .inl (lv), .inr (fun v w' => ∃ (x0 : Value) (x1 : Value), v = .tuple #[x0, x1, .int .i64 0] ∧ Verts w' x0 (stL n es (kindL tg.data.toList) src steps (d + 1)) ∧ Edges w' x1 NS), .inr (fun v w' => ∃ (x0 : Value) (x1 : Value), v = .tuple #[x0, x1, .int .i64 0] ∧ Verts w' x0 (stL n es (kindL tg.data.toList) src steps (d + 1)) ∧ Edges w' x1 NS), .inr (fun v w' => Verts w' v (stL n es (kindL tg.data.toList) src steps (d + 1))), .inr (fun v w' => Edges w' v NS), .inl (.int .i64 0), .inr (fun v w' => Verts w' v (stL n es (kindL tg.data.toList) src steps (d + 1))), .inr (fun v w' => Edges w' v NS), .inl (.int .i64 0)] 13 0 mixed rfl (by kernel_rfl) hS (Below.refl _ _) (fun _ h => h.drew) ?_
        refine hs_is rfl (fun w' hw => runs_loadRow rfl (hM1.below hw hM1.lt) Try.underlying24 rfl (by rw [sz24]; rfl)) ?_
        refine hs_pr rfl (fun _ _ _ h hb => by obtain ⟨y, h1, h2⟩ := h; exact ⟨y, h1, h2.kept hb⟩) (fun w' hw hq => (runs_call (args := [gv n (.slice Ag es.length cg)]) goes13 rfl (own_any n es (by omega) _ w' (hE.kept hw))).mono (by rintro u w3 ⟨hb, y, h1, h2⟩; exact ⟨⟨y, h1, h2.edges⟩, hw.trans (hb.mono hw.size), hb⟩)) (fun u1 => ?_)
        refine hs_is rfl (fun w' hw => runs_loadRow rfl (hM3.below hw hM3.lt) Try.underlying26 rfl (by rw [sz26]; rfl)) ?_
        refine hs_is rfl (fun w' hw => runs_move rfl) ?_
        refine hs_is rfl (fun w' hw => runs_move rfl) ?_
        refine hs_pr rfl (fun _ _ _ h hb => by obtain ⟨x0, x1, he, h0, h1⟩ := h; exact ⟨x0, x1, he, h0.kept hb, h1.kept hb⟩) (fun w' hw hq => (by obtain ⟨y, rfl, hy⟩ := hq (1, _) List.mem_cons_self (by kernel_rfl); exact (runs_call (args := [gv n y, .agg (jc tg src steps).toArray, .int .i64 (d : Int), lv]) goes16 rfl (next_is (by omega) w' hy (hLv.kept hw) rfl hNd)).mono (by rintro v w5 ⟨x0, x1, rfl, h0, h1, hb⟩; exact ⟨⟨x0, x1, rfl, h0, h1⟩, hw.trans (hb.mono hw.size), hb⟩))) (fun vc1 => ?_)
        refine hs_pr rfl (fun _ _ _ h hb => by obtain ⟨x0, x1, he, h0, h1⟩ := h; exact ⟨x0, x1, he, h0.kept hb, h1.kept hb⟩) (fun w' hw hq => (by have h := hq (5, _) List.mem_cons_self (by kernel_rfl); exact (runs_move rfl).mono (by rintro v w5 ⟨rfl, rfl⟩; exact ⟨h, hw, Below.refl _ _⟩))) (fun vc2 => ?_)
        refine hs_pr rfl (fun _ _ _ h hb => h.kept hb) (fun w' hw hq => (by obtain ⟨x0, x1, rfl, h0, h1⟩ := hq (6, _) List.mem_cons_self (by kernel_rfl); exact (runs_extract rfl rfl).mono (by rintro v w5 ⟨rfl, rfl⟩; exact ⟨h0, hw, Below.refl _ _⟩))) (fun ve0 => ?_)
        refine hs_pr rfl (fun _ _ _ h hb => h.kept hb) (fun w' hw hq => (by obtain ⟨x0, x1, rfl, h0, h1⟩ := hq (6, _) (List.mem_cons_of_mem _ List.mem_cons_self) (by kernel_rfl); exact (runs_extract rfl rfl).mono (by rintro v w5 ⟨rfl, rfl⟩; exact ⟨h1, hw, Below.refl _ _⟩))) (fun ve1 => ?_)
        refine hs_val rfl (fun w' hw hq => (by obtain ⟨x0, x1, rfl, h0, h1⟩ := hq (6, _) (List.mem_cons_of_mem _ (List.mem_cons_of_mem _ List.mem_cons_self)) (by kernel_rfl); exact (runs_extract rfl rfl).mono (by rintro v w5 ⟨rfl, rfl⟩; exact ⟨rfl, hw, Below.refl _ _⟩))) ?_
        refine hs_pr rfl (fun _ _ _ h hb => h.kept hb) (fun w' hw hq => (by have h := hq (7, _) (List.mem_cons_of_mem _ List.mem_cons_self) (by kernel_rfl); exact (runs_assign rfl).mono (by rintro v w5 ⟨rfl, rfl⟩; exact ⟨h, hw, Below.refl _ _⟩))) (fun va0 => ?_)
        refine hs_pr rfl (fun _ _ _ h hb => h.kept hb) (fun w' hw hq => (by have h := hq (8, _) (List.mem_cons_of_mem _ List.mem_cons_self) (by kernel_rfl); exact (runs_assign rfl).mono (by rintro v w5 ⟨rfl, rfl⟩; exact ⟨h, hw, Below.refl _ _⟩))) (fun va1 => ?_)
        refine hs_is rfl (fun w' hw => runs_assign rfl) ?_
        refine (fun a17 w17 hS hB17 hq => ?_)





        have hN := (hq (10, _) (List.mem_cons_of_mem _ List.mem_cons_self))
        obtain ⟨AN, cN, hsN, -, hcN, -⟩ := id hN
        subst hsN
        have hM := (hq (11, _) List.mem_cons_self)
        obtain ⟨AM, cM, hsM, -, hcM, -⟩ := id hM
        subst hsM
        clear hq
        have hB := hB.trans (hB17.mono hB.size)
        have hM1 := hM1b1.below hB hM1b1.lt
        have hM3 := hM3b1.below hB hM3b1.lt
        have hE := hEb1.kept hB
        have hV := hVb1.kept hB
        have hX := hXb1.kept hB
        have hLv := hLvb1.kept hB
        refine wpAnyH_done (by kernel_rfl) ?_ _
        refine qx_seq (qx_seq (reg_seq ?_))
        refine sI hS (runs_move rfl) fun _ hS => ?_
        refine sI hS (runs_neq (r := false) rfl rfl rfl) fun _ hS => ?_
        refine nil_ok (wp_cond_false (hS.eval rfl) (wp_skip (reg_seq ?_)))
        refine sI hS (runs_move rfl) fun _ hS => ?_
        refine sI hS (runs_assign rfl) fun _ hS => ?_
        refine nil_ok (reg_seq ?_)
        refine sI hS (runs_move rfl) fun _ hS => ?_
        refine sI hS (runs_add (r := ((d + 1 : Nat) : Int)) rfl rfl (by simp [IntKind.wrap, IntKind.bits, IntKind.signed]; omega)) fun _ hS => ?_
        refine sI hS (runs_assign rfl) fun _ hS => ?_
        exact nil_ok ⟨_, by omega, d + 1, _, by omega, rfl, hBl1.trans (hB.mono hBl1.size), hN, hS.only _ ⟨rfl, rfl, rfl, rfl, rfl, rfl, rfl, trivial⟩⟩
      refine sI hS (lssF rfl rfl (by omega)) fun _ hS => ?_
      obtain rfl : T = d := by omega
      refine nil_ok ⟨_, hS.eval rfl, fun _ => ?_, fun h => by simp at h⟩
      have hB := hBo1.trans ((hBl1.trans (hB.mono hBl1.size)).mono hBo1.size)
      refine qx_seq (qx_seq (reg_seq ?_))
      refine sI hS (runs_move rfl) fun _ hS => ?_
      refine sI hS (runs_neq (r := false) rfl rfl rfl) fun _ hS => ?_
      refine nil_ok (wp_cond_false (hS.eval rfl) (wp_skip (qx_seq (reg_seq ?_))))
      refine sI hS (runs_move rfl) fun _ hS => ?_
      refine sI hS (runs_move rfl) fun _ hS => ?_
      refine seq_op hS (by decide) (runs_call (args := [lv]) goes18 rfl (values_any (stL n es (kindL tg.data.toList) src steps T) lv wl1 hLv (by omega))) (fun v19 w19 a1 hp hS => ?_)
      obtain ⟨hown9, hB19⟩ := hp
      have hO9 := nums_own hown9 rfl
      rw [hXL] at hO9
      have hB := hB.trans (hB19.mono hB.size)
      have hM1 := hM1.below hB19 hM1.lt
      have hM3 := hM3.below hB19 hM3.lt
      have hE := hEb.kept hB
      have hV := hV.kept hB19
      have hX := hX.kept hB19
      have hLv := hLv.kept hB19
      refine seq_op hS (by decide) (runs_call (args := [.slice AX XL.length cX, v19]) goes17 rfl (row_any XL XL _ _ w19 hX hO9)) (fun v21 w21 a1 hp hS => ?_)
      obtain ⟨rfl, hB21⟩ := hp
      have hB := hB.trans (hB21.mono hB.size)
      have hM1 := hM1.below hB21 hM1.lt
      have hM3 := hM3.below hB21 hM3.lt
      have hE := hEb.kept hB
      have hV := hV.kept hB21
      have hX := hX.kept hB21
      have hLv := hLv.kept hB21
      rw [show decide (XL = XL) = true by simp] at hS
      refine sI hS (runs_move rfl) fun _ hS => ?_
      refine sY hS (runs_move rfl) fun _ hS => ?_
      refine sY hS (runs_fieldK fo26_2 rfl) fun _ hS => ?_
      refine sY hS (runs_load rfl pl3 (hM3.at rfl)) fun _ hS => ?_
      by_cases hTs : ((T : Nat) : Int) = steps
      · skip
        refine sY hS (runs_eql (r := true) rfl rfl (by simpa using hTs)) fun _ hS => ?_
        refine sY hS (runs_move rfl) fun _ hS => ?_
        refine sN hS fun _ hS => ?_
        refine sN hS fun _ hS => ?_
        refine sY hS (runs_pick rfl rfl) fun _ hS => ?_
        refine sI hS (runs_pick rfl rfl) fun _ hS => ?_
        refine sI hS (runs_assign rfl) fun _ hS => ?_
        exact nil_ok (qx_ret (ret1 (t := 4) (by kernel_rfl) hS rfl ⟨_, rfl, rfl, hB⟩))
      refine sY hS (runs_eql (r := false) rfl rfl (by simpa using hTs)) fun _ hS => ?_
      refine sY hS (runs_move rfl) fun _ hS => ?_
      refine sY hS (runs_move rfl) fun _ hS => ?_
      refine seq_yes hS (by decide) rfl (by decide) rfl (runs_call (args := [lv]) goes15 rfl (quiet_any (stL n es (kindL tg.data.toList) src steps T) lv w21 hLv)) (fun v23 w23 a1 hp hS => ?_)
      have hqT : quietL (stL n es (kindL tg.data.toList) src steps T) = true := hend.resolve_right (by omega)
      rw [hqT] at hp
      obtain ⟨rfl, hB23⟩ := hp
      have hB := hB.trans (hB23.mono hB.size)
      have hM1 := hM1.below hB23 hM1.lt
      have hM3 := hM3.below hB23 hM3.lt
      have hE := hEb.kept hB
      have hV := hV.kept hB23
      have hX := hX.kept hB23
      have hLv := hLv.kept hB23
      refine sY hS (runs_pick rfl rfl) fun _ hS => ?_
      refine sI hS (runs_pick rfl rfl) fun _ hS => ?_
      refine sI hS (runs_assign rfl) fun _ hS => ?_
      exact nil_ok (qx_ret (ret1 (t := 4) (by kernel_rfl) hS rfl ⟨_, rfl, rfl, hB⟩))
    · skip
      obtain ⟨XL, hXL⟩ : ∃ l : List Int, [] = l := ⟨_, rfl⟩
      obtain ⟨NB1, NB2, EB, hNB⟩ : ∃ a b c, nextL n es (kindL tg.data.toList) src steps ((T : Nat) : Int) (stL n es (kindL tg.data.toList) src steps T) = (a, b, c) := ⟨_, _, _, rfl⟩
      rw [hXL, hNB] at hW
      rw [hNB] at hbad
      refine reg_guard (fun w' => Below w5.heap.size w5 w') [.inl (gv n (.slice Ag es.length cg)), .inr (fun v w' => ∃ y, v = gv n y ∧ Edges w' y es), .inl (.agg (jc tg src steps).toArray), .inr (fun v w' => ∃ (x0 : Value), v = .tuple #[x0, .int .i64 0] ∧ Verts w' x0 (stL n es (kindL tg.data.toList) src steps 0)), .inr (fun v w' => ∃ (x0 : Value), v = .tuple #[x0, .int .i64 0] ∧ Verts w' x0 (stL n es (kindL tg.data.toList) src steps 0)), .inr (fun v w' => Verts w' v (stL n es (kindL tg.data.toList) src steps 0)), .inl (.int .i64 0), .inr (fun v w' => Verts w' v (stL n es (kindL tg.data.toList) src steps 0)), .inl (.int .i64 0)] 9 0 mixed rfl (by kernel_rfl) hS (Below.refl _ _) (fun _ h => h.drew) ?_
      refine hs_is rfl (fun w' hw => runs_loadRow rfl (hM1.below hw hM1.lt) Try.underlying24 rfl (by rw [sz24]; rfl)) ?_
      refine hs_pr rfl (fun _ _ _ h hb => by obtain ⟨y, h1, h2⟩ := h; exact ⟨y, h1, h2.kept hb⟩) (fun w' hw hq => (runs_call (args := [gv n (.slice Ag es.length cg)]) goes13 rfl (own_any n es (by omega) _ w' (hE.kept hw))).mono (by rintro u w3 ⟨hb, y, h1, h2⟩; exact ⟨⟨y, h1, h2.edges⟩, hw.trans (hb.mono hw.size), hb⟩)) (fun u1 => ?_)
      refine hs_is rfl (fun w' hw => runs_loadRow rfl (hM3.below hw hM3.lt) Try.underlying26 rfl (by rw [sz26]; rfl)) ?_
      refine hs_pr rfl (fun _ _ _ h hb => by obtain ⟨x0, he, h0⟩ := h; exact ⟨x0, he, h0.kept hb⟩) (fun w' hw hq => (by obtain ⟨y, rfl, hy⟩ := hq (1, _) List.mem_cons_self (by kernel_rfl); exact (runs_call (args := [gv n y, .agg (jc tg src steps).toArray]) goes12 rfl (start_is w' hy rfl (if_pos hj) (if_pos hj))).mono (by rintro v w5 ⟨x0, rfl, h0, hb⟩; exact ⟨⟨x0, rfl, h0⟩, hw.trans (hb.mono hw.size), hb⟩))) (fun vc1 => ?_)
      refine hs_pr rfl (fun _ _ _ h hb => by obtain ⟨x0, he, h0⟩ := h; exact ⟨x0, he, h0.kept hb⟩) (fun w' hw hq => (by have h := hq (3, _) List.mem_cons_self (by kernel_rfl); exact (runs_move rfl).mono (by rintro v w5 ⟨rfl, rfl⟩; exact ⟨h, hw, Below.refl _ _⟩))) (fun vc2 => ?_)
      refine hs_pr rfl (fun _ _ _ h hb => h.kept hb) (fun w' hw hq => (by obtain ⟨x0, rfl, h0⟩ := hq (4, _) List.mem_cons_self (by kernel_rfl); exact (runs_extract rfl rfl).mono (by rintro v w5 ⟨rfl, rfl⟩; exact ⟨h0, hw, Below.refl _ _⟩))) (fun ve0 => ?_)
      refine hs_val rfl (fun w' hw hq => (by obtain ⟨x0, rfl, h0⟩ := hq (4, _) (List.mem_cons_of_mem _ List.mem_cons_self) (by kernel_rfl); exact (runs_extract rfl rfl).mono (by rintro v w5 ⟨rfl, rfl⟩; exact ⟨rfl, hw, Below.refl _ _⟩))) ?_
      refine hs_pr rfl (fun _ _ _ h hb => h.kept hb) (fun w' hw hq => (by have h := hq (5, _) List.mem_cons_self (by kernel_rfl); exact (runs_assign rfl).mono (by rintro v w5 ⟨rfl, rfl⟩; exact ⟨h, hw, Below.refl _ _⟩))) (fun va0 => ?_)
      refine hs_is rfl (fun w' hw => runs_assign rfl) ?_
      refine (fun a25 w25 hS hB25 hq => ?_)




      have hV := (hq (7, _) List.mem_cons_self)
      obtain ⟨AV, cV, hsV, -, hcV, -⟩ := id hV
      subst hsV
      clear hq
      have hB := hB.trans (hB25.mono hB.size)
      have hM1 := hM1.below hB25 hM1.lt
      have hM3 := hM3.below hB25 hM3.lt
      have hE := hEb.kept hB
      refine wpAnyH_done (by kernel_rfl) ?_ _
      refine qx_seq (reg_guard (fun w' => Below w25.heap.size w25 w') [.inl (gv n (.slice Ag es.length cg)), .inr (fun v w' => ∃ y, v = gv n y ∧ Edges w' y es), .inl (.agg (jc tg src steps).toArray), .inr (fun v w' => ∃ (x0 : Value), v = .tuple #[x0, .int .i64 ((T : Nat) : Int), .int .i64 EB] ∧ Nums w' x0 XL), .inr (fun v w' => ∃ (x0 : Value), v = .tuple #[x0, .int .i64 ((T : Nat) : Int), .int .i64 EB] ∧ Nums w' x0 XL), .inr (fun v w' => Nums w' v XL), .inl (.int .i64 ((T : Nat) : Int)), .inl (.int .i64 EB), .inr (fun v w' => Nums w' v XL), .inl (.int .i64 ((T : Nat) : Int)), .inl (.int .i64 EB)] 11 0 mixed rfl (by kernel_rfl) hS (Below.refl _ _) (fun _ h => h.drew) ?_)
      refine hs_is rfl (fun w' hw => runs_loadRow rfl (hM1.below hw hM1.lt) Try.underlying24 rfl (by rw [sz24]; rfl)) ?_
      refine hs_pr rfl (fun _ _ _ h hb => by obtain ⟨y, h1, h2⟩ := h; exact ⟨y, h1, h2.kept hb⟩) (fun w' hw hq => (runs_call (args := [gv n (.slice Ag es.length cg)]) goes13 rfl (own_any n es (by omega) _ w' (hE.kept hw))).mono (by rintro u w3 ⟨hb, y, h1, h2⟩; exact ⟨⟨y, h1, h2.edges⟩, hw.trans (hb.mono hw.size), hb⟩)) (fun u1 => ?_)
      refine hs_is rfl (fun w' hw => runs_loadRow rfl (hM3.below hw hM3.lt) Try.underlying26 rfl (by rw [sz26]; rfl)) ?_
      refine hs_pr rfl (fun _ _ _ h hb => by obtain ⟨x0, he, h0⟩ := h; exact ⟨x0, he, h0.kept hb⟩) (fun w' hw hq => (by obtain ⟨y, rfl, hy⟩ := hq (1, _) List.mem_cons_self (by kernel_rfl); exact (runs_call (args := [gv n y, .agg (jc tg src steps).toArray]) goes14 rfl (whole_is (by omega) w' hy rfl hW)).mono (by rintro v w5 ⟨x0, rfl, h0, hb⟩; exact ⟨⟨x0, rfl, h0⟩, hw.trans (hb.mono hw.size), hb⟩))) (fun vc1 => ?_)
      refine hs_pr rfl (fun _ _ _ h hb => by obtain ⟨x0, he, h0⟩ := h; exact ⟨x0, he, h0.kept hb⟩) (fun w' hw hq => (by have h := hq (3, _) List.mem_cons_self (by kernel_rfl); exact (runs_move rfl).mono (by rintro v w5 ⟨rfl, rfl⟩; exact ⟨h, hw, Below.refl _ _⟩))) (fun vc2 => ?_)
      refine hs_pr rfl (fun _ _ _ h hb => h.kept hb) (fun w' hw hq => (by obtain ⟨x0, rfl, h0⟩ := hq (4, _) List.mem_cons_self (by kernel_rfl); exact (runs_extract rfl rfl).mono (by rintro v w5 ⟨rfl, rfl⟩; exact ⟨h0, hw, Below.refl _ _⟩))) (fun ve0 => ?_)
      refine hs_val rfl (fun w' hw hq => (by obtain ⟨x0, rfl, h0⟩ := hq (4, _) (List.mem_cons_of_mem _ List.mem_cons_self) (by kernel_rfl); exact (runs_extract rfl rfl).mono (by rintro v w5 ⟨rfl, rfl⟩; exact ⟨rfl, hw, Below.refl _ _⟩))) ?_
      refine hs_val rfl (fun w' hw hq => (by obtain ⟨x0, rfl, h0⟩ := hq (4, _) (List.mem_cons_of_mem _ List.mem_cons_self) (by kernel_rfl); exact (runs_extract rfl rfl).mono (by rintro v w5 ⟨rfl, rfl⟩; exact ⟨rfl, hw, Below.refl _ _⟩))) ?_
      refine hs_pr rfl (fun _ _ _ h hb => h.kept hb) (fun w' hw hq => (by have h := hq (5, _) List.mem_cons_self (by kernel_rfl); exact (runs_assign rfl).mono (by rintro v w5 ⟨rfl, rfl⟩; exact ⟨h, hw, Below.refl _ _⟩))) (fun va0 => ?_)
      refine hs_is rfl (fun w' hw => runs_assign rfl) ?_
      refine hs_is rfl (fun w' hw => runs_assign rfl) ?_
      refine (fun a27 w27 hS hB27 hq => ?_)




      have hX := (hq (8, _) List.mem_cons_self)
      obtain ⟨AX, cX, hsX, -, hcX, -⟩ := id hX
      subst hsX
      clear hq
      have hB := hB.trans (hB27.mono hB.size)
      have hM1 := hM1.below hB27 hM1.lt
      have hM3 := hM3.below hB27 hM3.lt
      have hE := hEb.kept hB
      have hV := hV.kept hB27
      refine wpAnyH_done (by kernel_rfl) ?_ _
      refine qx_seq (qx_seq (reg_seq ?_))
      refine sI hS (runs_move rfl) fun _ hS => ?_
      refine sI hS (runs_neq (r := false) rfl rfl rfl) fun _ hS => ?_
      refine nil_ok (wp_cond_false (hS.eval rfl) (wp_skip (qx_seq (qx_seq (reg_seq ?_)))))
      refine sI hS (runs_assign rfl) fun _ hS => ?_
      refine nil_ok (?_)
      have hBo1 := hB
      refine qx_for (fun mm a w' => ∃ (d : Nat) (lv : Value), d ≤ T ∧ mm = T - d ∧ Below w27.heap.size w27 w' ∧ Verts w' lv (stL n es (kindL tg.data.toList) src steps d) ∧ Sees 109 [(10, .int .i64 (d : Int)), (5, lv), (2, .pointer (some ⟨w.heap.size, 0, none⟩)), (3, .pointer (some ⟨w1.heap.size, 0, none⟩)), (7, .slice AX XL.length cX), (8, .int .i64 ((T : Nat) : Int)), (9, .int .i64 EB)] a) T ⟨0, .slice AV (stL n es (kindL tg.data.toList) src steps 0).length cV, by omega, by omega, Below.refl _ _, hV, hS.only _ ⟨rfl, rfl, rfl, rfl, rfl, rfl, rfl, trivial⟩⟩ ?_
      clear hS
      rintro mm a wl1 ⟨d, lv, hi1, rfl, hBl1, hLv, hS⟩
      have hM1 := hM1.below hBl1 hM1.lt
      have hM3 := hM3.below hBl1 hM3.lt
      have hE := hE.kept hBl1
      have hV := hV.kept hBl1
      have hX := hX.kept hBl1
      have hB := Below.refl wl1.heap.size wl1
      have hM1b1 := hM1
      have hM3b1 := hM3
      have hEb1 := hE
      have hVb1 := hV
      have hXb1 := hX
      refine reg_seq ?_
      refine sI hS (runs_move rfl) fun _ hS => ?_
      refine sI hS (runs_move rfl) fun _ hS => ?_
      by_cases hlt1 : d < T
      · skip
        refine sI hS (lssT rfl rfl (by omega)) fun _ hS => ?_
        refine nil_ok ⟨_, hS.eval rfl, fun h => by simp at h, fun _ => ?_⟩
        have hLvb1 := hLv
        refine qx_seq (qx_block (qx_seq (qx_seq (reg_seq ?_))))
        refine sI hS (runs_move rfl) fun _ hS => ?_
        refine seq_op hS (by decide) (runs_call (args := [lv]) goes15 rfl (quiet_any (stL n es (kindL tg.data.toList) src steps d) lv wl1 hLv)) (fun v29 w29 a1 hp hS => ?_)
        obtain ⟨rfl, hB29⟩ := hp
        rw [hnq d (by omega)] at hS
        have hB := hB.trans (hB29.mono hB.size)
        have hM1 := hM1b1.below hB hM1b1.lt
        have hM3 := hM3b1.below hB hM3b1.lt
        have hE := hEb1.kept hB
        have hV := hVb1.kept hB
        have hX := hXb1.kept hB
        have hLv := hLvb1.kept hB
        refine nil_ok (wp_cond_false (hS.eval rfl) (wp_skip (qx_seq (?_))))
        obtain ⟨NS, hNS⟩ : ∃ s, (nextL n es (kindL tg.data.toList) src steps ((d : Nat) : Int) (stL n es (kindL tg.data.toList) src steps d)).2.1 = s := ⟨_, rfl⟩
        have hNd : nextL n es (kindL tg.data.toList) src steps ((d : Nat) : Int) (stL n es (kindL tg.data.toList) src steps d) = ((stL n es (kindL tg.data.toList) src steps (d + 1)), NS, 0) := by rw [← hNS, ← hok.2 d (by omega)]; rfl
        refine reg_guard (fun w' => Below w29.heap.size w29 w') [.inl (gv n (.slice Ag es.length cg)), .inr (fun v w' => ∃ y, v = gv n y ∧ Edges w' y es), .inl (.agg (jc tg src steps).toArray), .inl (.int .i64 (d : Int)), .inl (lv), .inr (fun v w' => ∃ (x0 : Value) (x1 : Value), v = .tuple #[x0, x1, .int .i64 0] ∧ Verts w' x0 (stL n es (kindL tg.data.toList) src steps (d + 1)) ∧ Edges w' x1 NS), .inr (fun v w' => ∃ (x0 : Value) (x1 : Value), v = .tuple #[x0, x1, .int .i64 0] ∧ Verts w' x0 (stL n es (kindL tg.data.toList) src steps (d + 1)) ∧ Edges w' x1 NS), .inr (fun v w' => Verts w' v (stL n es (kindL tg.data.toList) src steps (d + 1))), .inr (fun v w' => Edges w' v NS), .inl (.int .i64 0), .inr (fun v w' => Verts w' v (stL n es (kindL tg.data.toList) src steps (d + 1))), .inr (fun v w' => Edges w' v NS), .inl (.int .i64 0)] 13 0 mixed rfl (by kernel_rfl) hS (Below.refl _ _) (fun _ h => h.drew) ?_
        refine hs_is rfl (fun w' hw => runs_loadRow rfl (hM1.below hw hM1.lt) Try.underlying24 rfl (by rw [sz24]; rfl)) ?_
        refine hs_pr rfl (fun _ _ _ h hb => by obtain ⟨y, h1, h2⟩ := h; exact ⟨y, h1, h2.kept hb⟩) (fun w' hw hq => (runs_call (args := [gv n (.slice Ag es.length cg)]) goes13 rfl (own_any n es (by omega) _ w' (hE.kept hw))).mono (by rintro u w3 ⟨hb, y, h1, h2⟩; exact ⟨⟨y, h1, h2.edges⟩, hw.trans (hb.mono hw.size), hb⟩)) (fun u1 => ?_)
        refine hs_is rfl (fun w' hw => runs_loadRow rfl (hM3.below hw hM3.lt) Try.underlying26 rfl (by rw [sz26]; rfl)) ?_
        refine hs_is rfl (fun w' hw => runs_move rfl) ?_
        refine hs_is rfl (fun w' hw => runs_move rfl) ?_
        refine hs_pr rfl (fun _ _ _ h hb => by obtain ⟨x0, x1, he, h0, h1⟩ := h; exact ⟨x0, x1, he, h0.kept hb, h1.kept hb⟩) (fun w' hw hq => (by obtain ⟨y, rfl, hy⟩ := hq (1, _) List.mem_cons_self (by kernel_rfl); exact (runs_call (args := [gv n y, .agg (jc tg src steps).toArray, .int .i64 (d : Int), lv]) goes16 rfl (next_is (by omega) w' hy (hLv.kept hw) rfl hNd)).mono (by rintro v w5 ⟨x0, x1, rfl, h0, h1, hb⟩; exact ⟨⟨x0, x1, rfl, h0, h1⟩, hw.trans (hb.mono hw.size), hb⟩))) (fun vc1 => ?_)
        refine hs_pr rfl (fun _ _ _ h hb => by obtain ⟨x0, x1, he, h0, h1⟩ := h; exact ⟨x0, x1, he, h0.kept hb, h1.kept hb⟩) (fun w' hw hq => (by have h := hq (5, _) List.mem_cons_self (by kernel_rfl); exact (runs_move rfl).mono (by rintro v w5 ⟨rfl, rfl⟩; exact ⟨h, hw, Below.refl _ _⟩))) (fun vc2 => ?_)
        refine hs_pr rfl (fun _ _ _ h hb => h.kept hb) (fun w' hw hq => (by obtain ⟨x0, x1, rfl, h0, h1⟩ := hq (6, _) List.mem_cons_self (by kernel_rfl); exact (runs_extract rfl rfl).mono (by rintro v w5 ⟨rfl, rfl⟩; exact ⟨h0, hw, Below.refl _ _⟩))) (fun ve0 => ?_)
        refine hs_pr rfl (fun _ _ _ h hb => h.kept hb) (fun w' hw hq => (by obtain ⟨x0, x1, rfl, h0, h1⟩ := hq (6, _) (List.mem_cons_of_mem _ List.mem_cons_self) (by kernel_rfl); exact (runs_extract rfl rfl).mono (by rintro v w5 ⟨rfl, rfl⟩; exact ⟨h1, hw, Below.refl _ _⟩))) (fun ve1 => ?_)
        refine hs_val rfl (fun w' hw hq => (by obtain ⟨x0, x1, rfl, h0, h1⟩ := hq (6, _) (List.mem_cons_of_mem _ (List.mem_cons_of_mem _ List.mem_cons_self)) (by kernel_rfl); exact (runs_extract rfl rfl).mono (by rintro v w5 ⟨rfl, rfl⟩; exact ⟨rfl, hw, Below.refl _ _⟩))) ?_
        refine hs_pr rfl (fun _ _ _ h hb => h.kept hb) (fun w' hw hq => (by have h := hq (7, _) (List.mem_cons_of_mem _ List.mem_cons_self) (by kernel_rfl); exact (runs_assign rfl).mono (by rintro v w5 ⟨rfl, rfl⟩; exact ⟨h, hw, Below.refl _ _⟩))) (fun va0 => ?_)
        refine hs_pr rfl (fun _ _ _ h hb => h.kept hb) (fun w' hw hq => (by have h := hq (8, _) (List.mem_cons_of_mem _ List.mem_cons_self) (by kernel_rfl); exact (runs_assign rfl).mono (by rintro v w5 ⟨rfl, rfl⟩; exact ⟨h, hw, Below.refl _ _⟩))) (fun va1 => ?_)
        refine hs_is rfl (fun w' hw => runs_assign rfl) ?_
        refine (fun a31 w31 hS hB31 hq => ?_)





        have hN := (hq (10, _) (List.mem_cons_of_mem _ List.mem_cons_self))
        obtain ⟨AN, cN, hsN, -, hcN, -⟩ := id hN
        subst hsN
        have hM := (hq (11, _) List.mem_cons_self)
        obtain ⟨AM, cM, hsM, -, hcM, -⟩ := id hM
        subst hsM
        clear hq
        have hB := hB.trans (hB31.mono hB.size)
        have hM1 := hM1b1.below hB hM1b1.lt
        have hM3 := hM3b1.below hB hM3b1.lt
        have hE := hEb1.kept hB
        have hV := hVb1.kept hB
        have hX := hXb1.kept hB
        have hLv := hLvb1.kept hB
        refine wpAnyH_done (by kernel_rfl) ?_ _
        refine qx_seq (qx_seq (reg_seq ?_))
        refine sI hS (runs_move rfl) fun _ hS => ?_
        refine sI hS (runs_neq (r := false) rfl rfl rfl) fun _ hS => ?_
        refine nil_ok (wp_cond_false (hS.eval rfl) (wp_skip (reg_seq ?_)))
        refine sI hS (runs_move rfl) fun _ hS => ?_
        refine sI hS (runs_assign rfl) fun _ hS => ?_
        refine nil_ok (reg_seq ?_)
        refine sI hS (runs_move rfl) fun _ hS => ?_
        refine sI hS (runs_add (r := ((d + 1 : Nat) : Int)) rfl rfl (by simp [IntKind.wrap, IntKind.bits, IntKind.signed]; omega)) fun _ hS => ?_
        refine sI hS (runs_assign rfl) fun _ hS => ?_
        exact nil_ok ⟨_, by omega, d + 1, _, by omega, rfl, hBl1.trans (hB.mono hBl1.size), hN, hS.only _ ⟨rfl, rfl, rfl, rfl, rfl, rfl, rfl, trivial⟩⟩
      refine sI hS (lssF rfl rfl (by omega)) fun _ hS => ?_
      obtain rfl : T = d := by omega
      refine nil_ok ⟨_, hS.eval rfl, fun _ => ?_, fun h => by simp at h⟩
      have hB := hBo1.trans ((hBl1.trans (hB.mono hBl1.size)).mono hBo1.size)
      refine qx_seq (qx_seq (reg_seq ?_))
      refine sI hS (runs_move rfl) fun _ hS => ?_
      refine sI hS (runs_neq (r := true) rfl rfl (by simpa using hbad)) fun _ hS => ?_
      refine nil_ok (wp_cond_true (hS.eval rfl) (qx_seq (reg_guard (fun w' => Below wl1.heap.size wl1 w') [.inl (gv n (.slice Ag es.length cg)), .inr (fun v w' => ∃ y, v = gv n y ∧ Edges w' y es), .inl (.agg (jc tg src steps).toArray), .inl (.int .i64 ((T : Nat) : Int)), .inl (lv), .inr (fun v w' => ∃ (x0 : Value) (x1 : Value), v = .tuple #[x0, x1, .int .i64 EB] ∧ Verts w' x0 NB1 ∧ Edges w' x1 NB2), .inr (fun v w' => ∃ (x0 : Value) (x1 : Value), v = .tuple #[x0, x1, .int .i64 EB] ∧ Verts w' x0 NB1 ∧ Edges w' x1 NB2), .inr (fun v w' => Verts w' v NB1), .inr (fun v w' => Edges w' v NB2), .inl (.int .i64 EB), .inr (fun v w' => Verts w' v NB1), .inr (fun v w' => Edges w' v NB2), .inl (.int .i64 EB)] 13 0 mixed rfl (by kernel_rfl) hS (Below.refl _ _) (fun _ h => h.drew) ?_)))
      refine hs_is rfl (fun w' hw => runs_loadRow rfl (hM1.below hw hM1.lt) Try.underlying24 rfl (by rw [sz24]; rfl)) ?_
      refine hs_pr rfl (fun _ _ _ h hb => by obtain ⟨y, h1, h2⟩ := h; exact ⟨y, h1, h2.kept hb⟩) (fun w' hw hq => (runs_call (args := [gv n (.slice Ag es.length cg)]) goes13 rfl (own_any n es (by omega) _ w' (hE.kept hw))).mono (by rintro u w3 ⟨hb, y, h1, h2⟩; exact ⟨⟨y, h1, h2.edges⟩, hw.trans (hb.mono hw.size), hb⟩)) (fun u1 => ?_)
      refine hs_is rfl (fun w' hw => runs_loadRow rfl (hM3.below hw hM3.lt) Try.underlying26 rfl (by rw [sz26]; rfl)) ?_
      refine hs_is rfl (fun w' hw => runs_move rfl) ?_
      refine hs_is rfl (fun w' hw => runs_move rfl) ?_
      refine hs_pr rfl (fun _ _ _ h hb => by obtain ⟨x0, x1, he, h0, h1⟩ := h; exact ⟨x0, x1, he, h0.kept hb, h1.kept hb⟩) (fun w' hw hq => (by obtain ⟨y, rfl, hy⟩ := hq (1, _) List.mem_cons_self (by kernel_rfl); exact (runs_call (args := [gv n y, .agg (jc tg src steps).toArray, .int .i64 (T : Int), lv]) goes16 rfl (next_is (by omega) w' hy (hLv.kept hw) rfl hNB)).mono (by rintro v w5 ⟨x0, x1, rfl, h0, h1, hb⟩; exact ⟨⟨x0, x1, rfl, h0, h1⟩, hw.trans (hb.mono hw.size), hb⟩))) (fun vc1 => ?_)
      refine hs_pr rfl (fun _ _ _ h hb => by obtain ⟨x0, x1, he, h0, h1⟩ := h; exact ⟨x0, x1, he, h0.kept hb, h1.kept hb⟩) (fun w' hw hq => (by have h := hq (5, _) List.mem_cons_self (by kernel_rfl); exact (runs_move rfl).mono (by rintro v w5 ⟨rfl, rfl⟩; exact ⟨h, hw, Below.refl _ _⟩))) (fun vc2 => ?_)
      refine hs_pr rfl (fun _ _ _ h hb => h.kept hb) (fun w' hw hq => (by obtain ⟨x0, x1, rfl, h0, h1⟩ := hq (6, _) List.mem_cons_self (by kernel_rfl); exact (runs_extract rfl rfl).mono (by rintro v w5 ⟨rfl, rfl⟩; exact ⟨h0, hw, Below.refl _ _⟩))) (fun ve0 => ?_)
      refine hs_pr rfl (fun _ _ _ h hb => h.kept hb) (fun w' hw hq => (by obtain ⟨x0, x1, rfl, h0, h1⟩ := hq (6, _) (List.mem_cons_of_mem _ List.mem_cons_self) (by kernel_rfl); exact (runs_extract rfl rfl).mono (by rintro v w5 ⟨rfl, rfl⟩; exact ⟨h1, hw, Below.refl _ _⟩))) (fun ve1 => ?_)
      refine hs_val rfl (fun w' hw hq => (by obtain ⟨x0, x1, rfl, h0, h1⟩ := hq (6, _) (List.mem_cons_of_mem _ (List.mem_cons_of_mem _ List.mem_cons_self)) (by kernel_rfl); exact (runs_extract rfl rfl).mono (by rintro v w5 ⟨rfl, rfl⟩; exact ⟨rfl, hw, Below.refl _ _⟩))) ?_
      refine hs_pr rfl (fun _ _ _ h hb => h.kept hb) (fun w' hw hq => (by have h := hq (7, _) (List.mem_cons_of_mem _ List.mem_cons_self) (by kernel_rfl); exact (runs_assign rfl).mono (by rintro v w5 ⟨rfl, rfl⟩; exact ⟨h, hw, Below.refl _ _⟩))) (fun va0 => ?_)
      refine hs_pr rfl (fun _ _ _ h hb => h.kept hb) (fun w' hw hq => (by have h := hq (8, _) (List.mem_cons_of_mem _ List.mem_cons_self) (by kernel_rfl); exact (runs_assign rfl).mono (by rintro v w5 ⟨rfl, rfl⟩; exact ⟨h, hw, Below.refl _ _⟩))) (fun va1 => ?_)
      refine hs_is rfl (fun w' hw => runs_assign rfl) ?_
      refine (fun a33 w33 hS hB33 hq => ?_)





      have hN := (hq (10, _) (List.mem_cons_of_mem _ List.mem_cons_self))
      obtain ⟨AN, cN, hsN, -, hcN, -⟩ := id hN
      subst hsN
      have hM := (hq (11, _) List.mem_cons_self)
      obtain ⟨AM, cM, hsM, -, hcM, -⟩ := id hM
      subst hsM
      clear hq
      have hB := hB.trans (hB33.mono hB.size)
      have hM1 := hM1.below hB33 hM1.lt
      have hM3 := hM3.below hB33 hM3.lt
      have hE := hEb.kept hB
      have hV := hV.kept hB33
      have hX := hX.kept hB33
      refine wpAnyH_done (by kernel_rfl) ?_ _
      refine qx_seq (reg_seq ?_)
      refine sI hS (runs_move rfl) fun _ hS => ?_
      refine sI hS (runs_len rfl undI64) fun _ hS => ?_
      refine sI hS (runs_eql (r := true) rfl rfl (by rw [← hXL]; rfl)) fun _ hS => ?_
      refine sI hS (runs_move rfl) fun _ hS => ?_
      refine sY hS (runs_move rfl) fun _ hS => ?_
      refine sY hS (runs_move rfl) fun _ hS => ?_
      refine sY hS (runs_eql (r := true) rfl rfl (by first | rfl | simp)) fun _ hS => ?_
      refine sI hS (runs_pick rfl rfl) fun _ hS => ?_
      refine sI hS (runs_assign rfl) fun _ hS => ?_
      exact nil_ok (qx_ret (ret1 (t := 4) (by kernel_rfl) hS rfl ⟨_, rfl, rfl, hB⟩))
  · skip
    obtain ⟨XL, hXL⟩ : ∃ l : List Int, [] = l := ⟨_, rfl⟩
    obtain ⟨L0, hL0⟩ : ∃ l : List Vx, [] = l := ⟨_, rfl⟩
    have hW : wholeL n es (kindL tg.data.toList) src steps = (XL, 0, 70) := by unfold wholeL; rw [if_neg hj, hXL]
    refine reg_guard (fun w' => Below w5.heap.size w5 w') [.inl (gv n (.slice Ag es.length cg)), .inr (fun v w' => ∃ y, v = gv n y ∧ Edges w' y es), .inl (.agg (jc tg src steps).toArray), .inr (fun v w' => ∃ (x0 : Value), v = .tuple #[x0, .int .i64 70] ∧ Verts w' x0 L0), .inr (fun v w' => ∃ (x0 : Value), v = .tuple #[x0, .int .i64 70] ∧ Verts w' x0 L0), .inr (fun v w' => Verts w' v L0), .inl (.int .i64 70), .inr (fun v w' => Verts w' v L0), .inl (.int .i64 70)] 9 0 mixed rfl (by kernel_rfl) hS (Below.refl _ _) (fun _ h => h.drew) ?_
    refine hs_is rfl (fun w' hw => runs_loadRow rfl (hM1.below hw hM1.lt) Try.underlying24 rfl (by rw [sz24]; rfl)) ?_
    refine hs_pr rfl (fun _ _ _ h hb => by obtain ⟨y, h1, h2⟩ := h; exact ⟨y, h1, h2.kept hb⟩) (fun w' hw hq => (runs_call (args := [gv n (.slice Ag es.length cg)]) goes13 rfl (own_any n es (by omega) _ w' (hE.kept hw))).mono (by rintro u w3 ⟨hb, y, h1, h2⟩; exact ⟨⟨y, h1, h2.edges⟩, hw.trans (hb.mono hw.size), hb⟩)) (fun u1 => ?_)
    refine hs_is rfl (fun w' hw => runs_loadRow rfl (hM3.below hw hM3.lt) Try.underlying26 rfl (by rw [sz26]; rfl)) ?_
    refine hs_pr rfl (fun _ _ _ h hb => by obtain ⟨x0, he, h0⟩ := h; exact ⟨x0, he, h0.kept hb⟩) (fun w' hw hq => (by obtain ⟨y, rfl, hy⟩ := hq (1, _) List.mem_cons_self (by kernel_rfl); exact (runs_call (args := [gv n y, .agg (jc tg src steps).toArray]) goes12 rfl (start_is w' hy rfl ((if_neg hj).trans hL0) (if_neg hj))).mono (by rintro v w5 ⟨x0, rfl, h0, hb⟩; exact ⟨⟨x0, rfl, h0⟩, hw.trans (hb.mono hw.size), hb⟩))) (fun vc1 => ?_)
    refine hs_pr rfl (fun _ _ _ h hb => by obtain ⟨x0, he, h0⟩ := h; exact ⟨x0, he, h0.kept hb⟩) (fun w' hw hq => (by have h := hq (3, _) List.mem_cons_self (by kernel_rfl); exact (runs_move rfl).mono (by rintro v w5 ⟨rfl, rfl⟩; exact ⟨h, hw, Below.refl _ _⟩))) (fun vc2 => ?_)
    refine hs_pr rfl (fun _ _ _ h hb => h.kept hb) (fun w' hw hq => (by obtain ⟨x0, rfl, h0⟩ := hq (4, _) List.mem_cons_self (by kernel_rfl); exact (runs_extract rfl rfl).mono (by rintro v w5 ⟨rfl, rfl⟩; exact ⟨h0, hw, Below.refl _ _⟩))) (fun ve0 => ?_)
    refine hs_val rfl (fun w' hw hq => (by obtain ⟨x0, rfl, h0⟩ := hq (4, _) (List.mem_cons_of_mem _ List.mem_cons_self) (by kernel_rfl); exact (runs_extract rfl rfl).mono (by rintro v w5 ⟨rfl, rfl⟩; exact ⟨rfl, hw, Below.refl _ _⟩))) ?_
    refine hs_pr rfl (fun _ _ _ h hb => h.kept hb) (fun w' hw hq => (by have h := hq (5, _) List.mem_cons_self (by kernel_rfl); exact (runs_assign rfl).mono (by rintro v w5 ⟨rfl, rfl⟩; exact ⟨h, hw, Below.refl _ _⟩))) (fun va0 => ?_)
    refine hs_is rfl (fun w' hw => runs_assign rfl) ?_
    refine (fun a35 w35 hS hB35 hq => ?_)




    have hV := (hq (7, _) List.mem_cons_self)
    obtain ⟨AV, cV, hsV, -, hcV, -⟩ := id hV
    subst hsV
    clear hq
    have hB := hB.trans (hB35.mono hB.size)
    have hM1 := hM1.below hB35 hM1.lt
    have hM3 := hM3.below hB35 hM3.lt
    have hE := hEb.kept hB
    refine wpAnyH_done (by kernel_rfl) ?_ _
    refine qx_seq (reg_guard (fun w' => Below w35.heap.size w35 w') [.inl (gv n (.slice Ag es.length cg)), .inr (fun v w' => ∃ y, v = gv n y ∧ Edges w' y es), .inl (.agg (jc tg src steps).toArray), .inr (fun v w' => ∃ (x0 : Value), v = .tuple #[x0, .int .i64 ((0 : Nat) : Int), .int .i64 70] ∧ Nums w' x0 XL), .inr (fun v w' => ∃ (x0 : Value), v = .tuple #[x0, .int .i64 ((0 : Nat) : Int), .int .i64 70] ∧ Nums w' x0 XL), .inr (fun v w' => Nums w' v XL), .inl (.int .i64 ((0 : Nat) : Int)), .inl (.int .i64 70), .inr (fun v w' => Nums w' v XL), .inl (.int .i64 ((0 : Nat) : Int)), .inl (.int .i64 70)] 11 0 mixed rfl (by kernel_rfl) hS (Below.refl _ _) (fun _ h => h.drew) ?_)
    refine hs_is rfl (fun w' hw => runs_loadRow rfl (hM1.below hw hM1.lt) Try.underlying24 rfl (by rw [sz24]; rfl)) ?_
    refine hs_pr rfl (fun _ _ _ h hb => by obtain ⟨y, h1, h2⟩ := h; exact ⟨y, h1, h2.kept hb⟩) (fun w' hw hq => (runs_call (args := [gv n (.slice Ag es.length cg)]) goes13 rfl (own_any n es (by omega) _ w' (hE.kept hw))).mono (by rintro u w3 ⟨hb, y, h1, h2⟩; exact ⟨⟨y, h1, h2.edges⟩, hw.trans (hb.mono hw.size), hb⟩)) (fun u1 => ?_)
    refine hs_is rfl (fun w' hw => runs_loadRow rfl (hM3.below hw hM3.lt) Try.underlying26 rfl (by rw [sz26]; rfl)) ?_
    refine hs_pr rfl (fun _ _ _ h hb => by obtain ⟨x0, he, h0⟩ := h; exact ⟨x0, he, h0.kept hb⟩) (fun w' hw hq => (by obtain ⟨y, rfl, hy⟩ := hq (1, _) List.mem_cons_self (by kernel_rfl); exact (runs_call (args := [gv n y, .agg (jc tg src steps).toArray]) goes14 rfl (whole_is (by omega) w' hy rfl hW)).mono (by rintro v w5 ⟨x0, rfl, h0, hb⟩; exact ⟨⟨x0, rfl, h0⟩, hw.trans (hb.mono hw.size), hb⟩))) (fun vc1 => ?_)
    refine hs_pr rfl (fun _ _ _ h hb => by obtain ⟨x0, he, h0⟩ := h; exact ⟨x0, he, h0.kept hb⟩) (fun w' hw hq => (by have h := hq (3, _) List.mem_cons_self (by kernel_rfl); exact (runs_move rfl).mono (by rintro v w5 ⟨rfl, rfl⟩; exact ⟨h, hw, Below.refl _ _⟩))) (fun vc2 => ?_)
    refine hs_pr rfl (fun _ _ _ h hb => h.kept hb) (fun w' hw hq => (by obtain ⟨x0, rfl, h0⟩ := hq (4, _) List.mem_cons_self (by kernel_rfl); exact (runs_extract rfl rfl).mono (by rintro v w5 ⟨rfl, rfl⟩; exact ⟨h0, hw, Below.refl _ _⟩))) (fun ve0 => ?_)
    refine hs_val rfl (fun w' hw hq => (by obtain ⟨x0, rfl, h0⟩ := hq (4, _) (List.mem_cons_of_mem _ List.mem_cons_self) (by kernel_rfl); exact (runs_extract rfl rfl).mono (by rintro v w5 ⟨rfl, rfl⟩; exact ⟨rfl, hw, Below.refl _ _⟩))) ?_
    refine hs_val rfl (fun w' hw hq => (by obtain ⟨x0, rfl, h0⟩ := hq (4, _) (List.mem_cons_of_mem _ List.mem_cons_self) (by kernel_rfl); exact (runs_extract rfl rfl).mono (by rintro v w5 ⟨rfl, rfl⟩; exact ⟨rfl, hw, Below.refl _ _⟩))) ?_
    refine hs_pr rfl (fun _ _ _ h hb => h.kept hb) (fun w' hw hq => (by have h := hq (5, _) List.mem_cons_self (by kernel_rfl); exact (runs_assign rfl).mono (by rintro v w5 ⟨rfl, rfl⟩; exact ⟨h, hw, Below.refl _ _⟩))) (fun va0 => ?_)
    refine hs_is rfl (fun w' hw => runs_assign rfl) ?_
    refine hs_is rfl (fun w' hw => runs_assign rfl) ?_
    refine (fun a37 w37 hS hB37 hq => ?_)




    have hX := (hq (8, _) List.mem_cons_self)
    obtain ⟨AX, cX, hsX, -, hcX, -⟩ := id hX
    subst hsX
    clear hq
    have hB := hB.trans (hB37.mono hB.size)
    refine wpAnyH_done (by kernel_rfl) ?_ _
    refine qx_seq (qx_seq (reg_seq ?_))
    refine sI hS (runs_move rfl) fun _ hS => ?_
    refine sI hS (runs_neq (r := true) rfl rfl rfl) fun _ hS => ?_
    refine nil_ok (wp_cond_true (hS.eval rfl) (qx_seq (reg_seq ?_)))
    refine sI hS (runs_move rfl) fun _ hS => ?_
    refine sI hS (runs_move rfl) fun _ hS => ?_
    refine sI hS (runs_eql (r := true) rfl rfl (by first | rfl | simp)) fun _ hS => ?_
    refine sI hS (runs_move rfl) fun _ hS => ?_
    refine sY hS (runs_move rfl) fun _ hS => ?_
    refine sY hS (runs_eql (r := true) rfl rfl (by first | rfl | simp)) fun _ hS => ?_
    refine sI hS (runs_pick rfl rfl) fun _ hS => ?_
    refine sI hS (runs_assign rfl) fun _ hS => ?_
    exact nil_ok (qx_ret (ret1 (t := 4) (by kernel_rfl) hS rfl ⟨_, rfl, rfl, hB⟩))
end Go.Proofs.Ytapcpmalgdhakaa
