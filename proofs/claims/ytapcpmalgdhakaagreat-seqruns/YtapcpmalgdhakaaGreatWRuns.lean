/- modillionlaw09.SeqRuns, walked. Conditions: none of our own. -/
import Derived.Test.YtapcpmalgdhakaaGreatVAwake
import Derived.Test.YtapcpmalgdhakaaGreatVRAll
namespace Go.Proofs.YtapcpmalgdhakaaGreat
open Go.RowKit
set_option maxRecDepth 100000

theorem rwhole_is {n : Int} {es : List E} (hsm : es.length ≤ 100) {v : Value} {tg : ByteArray} {src steps : Int} {x : List Int} {s : Nat} {e : Int} (w : World) (hE : Edges w v es) (h : wholeL n es (kindL tg.data.toList) src steps = (x, s, e)) :
    Ans 18 [gv n v, jv tg src steps] w (fun u w' => ∃ y, u = .tuple #[y, .int .i64 (s : Int), .int .i64 e] ∧ Nums w' y x ∧ Below w.heap.size w w') := by
  have h9 := rwhole_any n es hsm v tg src steps w hE
  rw [h] at h9
  exact h9
set_option maxHeartbeats 2000000 in
theorem runs9_any (n : Int) (es : List E) (v : Value) (tg : ByteArray) (src steps : Int) (w : World) (hE : Edges w v es) : Ans 4 [gv n v, jv tg src steps] w (fun u w' => u = .bool true ∧ Below w.heap.size w w') := by
  obtain ⟨Ag, cg, rfl, hg1, hg2, hgA⟩ := hE
  have hE : Edges w (.slice Ag es.length cg) es := ⟨Ag, cg, rfl, hg1, hg2, hgA⟩
  clear hgA
  refine calls_qx (args := [gv n (.slice Ag es.length cg), .agg (jc tg src steps).toArray]) 97 Tryz.func4 rfl (by kernel_rfl) (by simp) (fun a hS => ?_)
  have hB := Below.refl w.heap.size w
  have hEb := hE
  refine qx_seq (reg_seq ?_)
  refine seq_op hS (by decide) (runs_boxB (cs := [.int .i64 n, .slice Ag es.length cg]) rfl rfl) (fun v1 w1 a1 hp hS => ?_)
  obtain ⟨rfl, hM1, hB1⟩ := hp
  have hB := hB.trans (hB1.mono hB.size)
  have hE := hEb.kept hB
  refine seq_op hS (by decide) (runs_boxB (cs := jc tg src steps) rfl rfl) (fun v3 w3 a1 hp hS => ?_)
  obtain ⟨rfl, hM3, hB3⟩ := hp
  have hB := hB.trans (hB3.mono hB.size)
  have hM1 := hM1.below hB3 hM1.lt
  have hE := hEb.kept hB
  refine sI hS (runs_assign rfl) fun _ hS => ?_
  refine nil_ok (qx_seq (qx_seq (reg_seq ?_)))
  refine seq_op hS (by decide) (runs_call (args := []) goes5 rfl (awake_any w3)) (fun v5 w5 a1 hp hS => ?_)
  obtain ⟨rfl, hB5⟩ := hp
  have hB := hB.trans (hB5.mono hB.size)
  have hM1 := hM1.below hB5 hM1.lt
  have hM3 := hM3.below hB5 hM3.lt
  have hE := hEb.kept hB
  refine sI hS (runs_not (b := true) rfl) fun _ hS => ?_
  refine sI hS (runs_move rfl) fun _ hS => ?_
  refine sY hS (runs_fieldK fo24_1 rfl) fun _ hS => ?_
  refine sY hS (runs_load rfl pl22 (hM1.at rfl)) fun _ hS => ?_
  refine sY hS (runs_len rfl und22) fun _ hS => ?_
  by_cases h60 : ((es.length : Nat) : Int) > 60
  · skip
    refine sY hS (gtrT rfl rfl (by omega)) fun _ hS => ?_
    refine sI hS (runs_pick rfl rfl) fun _ hS => ?_
    refine sI hS (runs_move rfl) fun _ hS => ?_
    refine sN hS fun _ hS => ?_
    refine sN hS fun _ hS => ?_
    refine sN hS fun _ hS => ?_
    refine sI hS (runs_pick rfl rfl) fun _ hS => ?_
    refine nil_ok (wp_cond_true (hS.eval rfl) (qx_seq (reg_seq ?_)))
    refine seq_op hS (by decide) (runs_call (args := []) goes5 rfl (awake_any w5)) (fun v7 w7 a1 hp hS => ?_)
    obtain ⟨rfl, hB7⟩ := hp
    have hB := hB.trans (hB7.mono hB.size)
    have hM1 := hM1.below hB7 hM1.lt
    have hM3 := hM3.below hB7 hM3.lt
    have hE := hEb.kept hB
    refine sI hS (runs_assign rfl) fun _ hS => ?_
    exact nil_ok (qx_ret (ret1 (t := 4) (by kernel_rfl) hS rfl ⟨_, rfl, rfl, hB⟩))
  refine sY hS (gtrF rfl rfl (by omega)) fun _ hS => ?_
  refine sI hS (runs_pick rfl rfl) fun _ hS => ?_
  refine sI hS (runs_move rfl) fun _ hS => ?_
  refine sY hS (runs_fieldK fo26_2 rfl) fun _ hS => ?_
  refine sY hS (runs_load rfl pl3 (hM3.at rfl)) fun _ hS => ?_
  by_cases h20 : steps > 20
  · skip
    refine sY hS (gtrT rfl rfl (by omega)) fun _ hS => ?_
    refine sI hS (runs_pick rfl rfl) fun _ hS => ?_
    refine nil_ok (wp_cond_true (hS.eval rfl) (qx_seq (reg_seq ?_)))
    refine seq_op hS (by decide) (runs_call (args := []) goes5 rfl (awake_any w5)) (fun v9 w9 a1 hp hS => ?_)
    obtain ⟨rfl, hB9⟩ := hp
    have hB := hB.trans (hB9.mono hB.size)
    have hM1 := hM1.below hB9 hM1.lt
    have hM3 := hM3.below hB9 hM3.lt
    have hE := hEb.kept hB
    refine sI hS (runs_assign rfl) fun _ hS => ?_
    exact nil_ok (qx_ret (ret1 (t := 4) (by kernel_rfl) hS rfl ⟨_, rfl, rfl, hB⟩))
  refine sY hS (gtrF rfl rfl (by omega)) fun _ hS => ?_
  refine sI hS (runs_pick rfl rfl) fun _ hS => ?_
  refine nil_ok (wp_cond_false (hS.eval rfl) (wp_skip (qx_seq (?_))))
  by_cases hj : jobB n es (kindL tg.data.toList) src steps = true
  · skip
    obtain ⟨XL, XN, XE, hW⟩ : ∃ a b c, wholeL n es (kindL tg.data.toList) src steps = (a, b, c) := ⟨_, _, _, rfl⟩
    obtain ⟨SL, hSL⟩ : ∃ l, (startL n (kindL tg.data.toList) src) = l := ⟨_, rfl⟩
    have hn1 := (job_n hj).1
    have hn64 := (job_n hj).2
    refine reg_guard (fun w' => Below w5.heap.size w5 w') [.inl (gv n (.slice Ag es.length cg)), .inr (fun v w' => ∃ y, v = gv n y ∧ Edges w' y es), .inl (.agg (jc tg src steps).toArray), .inr (fun v w' => ∃ (x0 : Value), v = .tuple #[x0, .int .i64 0] ∧ Verts w' x0 SL), .inr (fun v w' => ∃ (x0 : Value), v = .tuple #[x0, .int .i64 0] ∧ Verts w' x0 SL), .inr (fun v w' => Verts w' v SL), .inl (.int .i64 0), .inr (fun v w' => Verts w' v SL), .inl (.int .i64 0)] 9 0 mixed rfl (by kernel_rfl) hS (Below.refl _ _) (fun _ h => h.drew) ?_
    refine hs_is rfl (fun w' hw => runs_loadRow rfl (hM1.below hw hM1.lt) Tryz.underlying24 rfl (by rw [sz24]; rfl)) ?_
    refine hs_pr rfl (fun _ _ _ h hb => by obtain ⟨y, h1, h2⟩ := h; exact ⟨y, h1, h2.kept hb⟩) (fun w' hw hq => (runs_call (args := [gv n (.slice Ag es.length cg)]) goes7 rfl (own_any n es (by omega) _ w' (hE.kept hw))).mono (by rintro u w3 ⟨hb, y, h1, h2⟩; exact ⟨⟨y, h1, h2.edges⟩, hw.trans (hb.mono hw.size), hb⟩)) (fun u1 => ?_)
    refine hs_is rfl (fun w' hw => runs_loadRow rfl (hM3.below hw hM3.lt) Tryz.underlying26 rfl (by rw [sz26]; rfl)) ?_
    refine hs_pr rfl (fun _ _ _ h hb => by obtain ⟨x0, he, h0⟩ := h; exact ⟨x0, he, h0.kept hb⟩) (fun w' hw hq => (by obtain ⟨y, rfl, hy⟩ := hq (1, _) List.mem_cons_self (by kernel_rfl); exact (runs_call (args := [gv n y, .agg (jc tg src steps).toArray]) goes16 rfl (start_is w' hy rfl ((if_pos hj).trans hSL) (if_pos hj))).mono (by rintro v w5 ⟨x0, rfl, h0, hb⟩; exact ⟨⟨x0, rfl, h0⟩, hw.trans (hb.mono hw.size), hb⟩))) (fun vc1 => ?_)
    refine hs_pr rfl (fun _ _ _ h hb => by obtain ⟨x0, he, h0⟩ := h; exact ⟨x0, he, h0.kept hb⟩) (fun w' hw hq => (by have h := hq (3, _) List.mem_cons_self (by kernel_rfl); exact (runs_move rfl).mono (by rintro v w5 ⟨rfl, rfl⟩; exact ⟨h, hw, Below.refl _ _⟩))) (fun vc2 => ?_)
    refine hs_pr rfl (fun _ _ _ h hb => h.kept hb) (fun w' hw hq => (by obtain ⟨x0, rfl, h0⟩ := hq (4, _) List.mem_cons_self (by kernel_rfl); exact (runs_extract rfl rfl).mono (by rintro v w5 ⟨rfl, rfl⟩; exact ⟨h0, hw, Below.refl _ _⟩))) (fun ve0 => ?_)
    refine hs_val rfl (fun w' hw hq => (by obtain ⟨x0, rfl, h0⟩ := hq (4, _) (List.mem_cons_of_mem _ List.mem_cons_self) (by kernel_rfl); exact (runs_extract rfl rfl).mono (by rintro v w5 ⟨rfl, rfl⟩; exact ⟨rfl, hw, Below.refl _ _⟩))) ?_
    refine hs_pr rfl (fun _ _ _ h hb => h.kept hb) (fun w' hw hq => (by have h := hq (5, _) List.mem_cons_self (by kernel_rfl); exact (runs_assign rfl).mono (by rintro v w5 ⟨rfl, rfl⟩; exact ⟨h, hw, Below.refl _ _⟩))) (fun va0 => ?_)
    refine hs_is rfl (fun w' hw => runs_assign rfl) ?_
    refine (fun a11 w11 hS hB11 hq => ?_)




    have hV := (hq (7, _) List.mem_cons_self)
    obtain ⟨AV, cV, hsV, -, hcV, -⟩ := id hV
    subst hsV
    clear hq
    have hB := hB.trans (hB11.mono hB.size)
    have hM1 := hM1.below hB11 hM1.lt
    have hM3 := hM3.below hB11 hM3.lt
    have hE := hEb.kept hB
    refine wpAnyH_done (by kernel_rfl) ?_ _
    refine qx_seq (reg_guard (fun w' => Below w11.heap.size w11 w') [.inl (gv n (.slice Ag es.length cg)), .inr (fun v w' => ∃ y, v = gv n y ∧ Edges w' y es), .inl (.agg (jc tg src steps).toArray), .inr (fun v w' => ∃ (x0 : Value), v = .tuple #[x0, .int .i64 ((XN : Nat) : Int), .int .i64 XE] ∧ Nums w' x0 XL), .inr (fun v w' => ∃ (x0 : Value), v = .tuple #[x0, .int .i64 ((XN : Nat) : Int), .int .i64 XE] ∧ Nums w' x0 XL), .inr (fun v w' => Nums w' v XL), .inl (.int .i64 ((XN : Nat) : Int)), .inl (.int .i64 XE), .inr (fun v w' => Nums w' v XL), .inl (.int .i64 ((XN : Nat) : Int)), .inl (.int .i64 XE)] 11 0 mixed rfl (by kernel_rfl) hS (Below.refl _ _) (fun _ h => h.drew) ?_)
    refine hs_is rfl (fun w' hw => runs_loadRow rfl (hM1.below hw hM1.lt) Tryz.underlying24 rfl (by rw [sz24]; rfl)) ?_
    refine hs_pr rfl (fun _ _ _ h hb => by obtain ⟨y, h1, h2⟩ := h; exact ⟨y, h1, h2.kept hb⟩) (fun w' hw hq => (runs_call (args := [gv n (.slice Ag es.length cg)]) goes7 rfl (own_any n es (by omega) _ w' (hE.kept hw))).mono (by rintro u w3 ⟨hb, y, h1, h2⟩; exact ⟨⟨y, h1, h2.edges⟩, hw.trans (hb.mono hw.size), hb⟩)) (fun u1 => ?_)
    refine hs_is rfl (fun w' hw => runs_loadRow rfl (hM3.below hw hM3.lt) Tryz.underlying26 rfl (by rw [sz26]; rfl)) ?_
    refine hs_pr rfl (fun _ _ _ h hb => by obtain ⟨x0, he, h0⟩ := h; exact ⟨x0, he, h0.kept hb⟩) (fun w' hw hq => (by obtain ⟨y, rfl, hy⟩ := hq (1, _) List.mem_cons_self (by kernel_rfl); exact (runs_call (args := [gv n y, .agg (jc tg src steps).toArray]) goes17 rfl (whole_is (by omega) w' hy rfl hW)).mono (by rintro v w5 ⟨x0, rfl, h0, hb⟩; exact ⟨⟨x0, rfl, h0⟩, hw.trans (hb.mono hw.size), hb⟩))) (fun vc1 => ?_)
    refine hs_pr rfl (fun _ _ _ h hb => by obtain ⟨x0, he, h0⟩ := h; exact ⟨x0, he, h0.kept hb⟩) (fun w' hw hq => (by have h := hq (3, _) List.mem_cons_self (by kernel_rfl); exact (runs_move rfl).mono (by rintro v w5 ⟨rfl, rfl⟩; exact ⟨h, hw, Below.refl _ _⟩))) (fun vc2 => ?_)
    refine hs_pr rfl (fun _ _ _ h hb => h.kept hb) (fun w' hw hq => (by obtain ⟨x0, rfl, h0⟩ := hq (4, _) List.mem_cons_self (by kernel_rfl); exact (runs_extract rfl rfl).mono (by rintro v w5 ⟨rfl, rfl⟩; exact ⟨h0, hw, Below.refl _ _⟩))) (fun ve0 => ?_)
    refine hs_val rfl (fun w' hw hq => (by obtain ⟨x0, rfl, h0⟩ := hq (4, _) (List.mem_cons_of_mem _ List.mem_cons_self) (by kernel_rfl); exact (runs_extract rfl rfl).mono (by rintro v w5 ⟨rfl, rfl⟩; exact ⟨rfl, hw, Below.refl _ _⟩))) ?_
    refine hs_val rfl (fun w' hw hq => (by obtain ⟨x0, rfl, h0⟩ := hq (4, _) (List.mem_cons_of_mem _ List.mem_cons_self) (by kernel_rfl); exact (runs_extract rfl rfl).mono (by rintro v w5 ⟨rfl, rfl⟩; exact ⟨rfl, hw, Below.refl _ _⟩))) ?_
    refine hs_pr rfl (fun _ _ _ h hb => h.kept hb) (fun w' hw hq => (by have h := hq (5, _) List.mem_cons_self (by kernel_rfl); exact (runs_assign rfl).mono (by rintro v w5 ⟨rfl, rfl⟩; exact ⟨h, hw, Below.refl _ _⟩))) (fun va0 => ?_)
    refine hs_is rfl (fun w' hw => runs_assign rfl) ?_
    refine hs_is rfl (fun w' hw => runs_assign rfl) ?_
    refine (fun a13 w13 hS hB13 hq => ?_)




    have hX := (hq (8, _) List.mem_cons_self)
    obtain ⟨AX, cX, hsX, -, hcX, -⟩ := id hX
    subst hsX
    clear hq
    have hB := hB.trans (hB13.mono hB.size)
    have hM1 := hM1.below hB13 hM1.lt
    have hM3 := hM3.below hB13 hM3.lt
    have hE := hEb.kept hB
    have hV := hV.kept hB13
    refine wpAnyH_done (by kernel_rfl) ?_ _
    refine qx_seq (reg_seq ?_)
    refine sI hS (runs_loadRow rfl hM1 Tryz.underlying24 rfl (by rw [sz24]; rfl)) fun _ hS => ?_
    refine sI hS (runs_loadRow rfl hM3 Tryz.underlying26 rfl (by rw [sz26]; rfl)) fun _ hS => ?_
    refine seq_op hS (by decide) (runs_call (args := [gv n (.slice Ag es.length cg), .agg (jc tg src steps).toArray]) goes18 rfl (rwhole_is (by omega) w13 hE hW)) (fun v15 w15 a1 hp hS => ?_)
    obtain ⟨y5, rfl, hY5, hB15⟩ := hp
    have hB := hB.trans (hB15.mono hB.size)
    have hM1 := hM1.below hB15 hM1.lt
    have hM3 := hM3.below hB15 hM3.lt
    have hE := hEb.kept hB
    have hV := hV.kept hB15
    have hX := hX.kept hB15
    refine sI hS (runs_move rfl) fun _ hS => ?_
    refine sI hS (runs_extract rfl rfl) fun _ hS => ?_
    refine sI hS (runs_extract rfl rfl) fun _ hS => ?_
    refine sI hS (runs_extract rfl rfl) fun _ hS => ?_
    refine sI hS (runs_assign rfl) fun _ hS => ?_
    refine sI hS (runs_assign rfl) fun _ hS => ?_
    refine sI hS (runs_assign rfl) fun _ hS => ?_
    refine nil_ok (qx_seq (qx_seq (reg_seq ?_)))
    refine sI hS (runs_loadRow rfl hM1 Tryz.underlying24 rfl (by rw [sz24]; rfl)) fun _ hS => ?_
    refine sI hS (runs_loadRow rfl hM3 Tryz.underlying26 rfl (by rw [sz26]; rfl)) fun _ hS => ?_
    refine seq_op hS (by decide) (runs_call (args := [gv n (.slice Ag es.length cg), .agg (jc tg src steps).toArray]) goes19 rfl (right_any n es _ tg src steps w15 hE)) (fun v17 w17 a1 hp hS => ?_)
    obtain ⟨rfl, hB17⟩ := hp
    rw [hj] at hS
    have hB := hB.trans (hB17.mono hB.size)
    have hM1 := hM1.below hB17 hM1.lt
    have hM3 := hM3.below hB17 hM3.lt
    have hE := hEb.kept hB
    have hV := hV.kept hB17
    have hX := hX.kept hB17
    have hY5 := hY5.kept hB17
    refine sI hS (runs_not (b := true) rfl) fun _ hS => ?_
    refine nil_ok (wp_cond_false (hS.eval rfl) (wp_skip (qx_seq (reg_seq ?_))))
    refine sI hS (runs_move rfl) fun _ hS => ?_
    refine sI hS (runs_eql (r := true) rfl rfl (by first | rfl | simp)) fun _ hS => ?_
    refine sI hS (runs_move rfl) fun _ hS => ?_
    refine sY hS (runs_move rfl) fun _ hS => ?_
    refine sY hS (runs_loadRow rfl hM1 Tryz.underlying24 rfl (by rw [sz24]; rfl)) fun _ hS => ?_
    refine sY hS (runs_loadRow rfl hM3 Tryz.underlying26 rfl (by rw [sz26]; rfl)) fun _ hS => ?_
    refine seq_yes hS (by decide) rfl (by decide) rfl (runs_call (args := [gv n (.slice Ag es.length cg), .agg (jc tg src steps).toArray]) goes20 rfl (rstart_any n (by omega) hn64 _ tg (job_iff.1 hj).2.1 src steps w17)) (fun v19 w19 a1 hp hS => ?_)
    obtain ⟨hown8, hB19⟩ := hp
    have hS8 := verts_own hown8 rfl
    rw [hSL] at hS8
    have hB := hB.trans (hB19.mono hB.size)
    have hM1 := hM1.below hB19 hM1.lt
    have hM3 := hM3.below hB19 hM3.lt
    have hE := hEb.kept hB
    have hV := hV.kept hB19
    have hX := hX.kept hB19
    have hY5 := hY5.kept hB19
    refine seq_yes hS (by decide) rfl (by decide) rfl (runs_call (args := [.slice AV SL.length cV, v19]) goes9 rfl (vsame_any SL SL _ _ w19 hV hS8)) (fun v21 w21 a1 hp hS => ?_)
    obtain ⟨rfl, hB21⟩ := hp
    have hB := hB.trans (hB21.mono hB.size)
    have hM1 := hM1.below hB21 hM1.lt
    have hM3 := hM3.below hB21 hM3.lt
    have hE := hEb.kept hB
    have hV := hV.kept hB21
    have hX := hX.kept hB21
    have hY5 := hY5.kept hB21
    rw [show decide (SL = SL) = true by simp] at hS
    refine sI hS (runs_pick rfl rfl) fun _ hS => ?_
    refine sI hS (runs_move rfl) fun _ hS => ?_
    refine sY hS (runs_move rfl) fun _ hS => ?_
    refine sY hS (runs_move rfl) fun _ hS => ?_
    refine seq_yes hS (by decide) rfl (by decide) rfl (runs_call (args := [.slice AX XL.length cX, y5]) goes13 rfl (row_any XL XL _ _ w21 hX hY5)) (fun v23 w23 a1 hp hS => ?_)
    obtain ⟨rfl, hB23⟩ := hp
    have hB := hB.trans (hB23.mono hB.size)
    have hM1 := hM1.below hB23 hM1.lt
    have hM3 := hM3.below hB23 hM3.lt
    have hE := hEb.kept hB
    have hV := hV.kept hB23
    have hX := hX.kept hB23
    have hY5 := hY5.kept hB23
    rw [show decide (XL = XL) = true by simp] at hS
    refine sI hS (runs_pick rfl rfl) fun _ hS => ?_
    refine sI hS (runs_move rfl) fun _ hS => ?_
    refine sY hS (runs_move rfl) fun _ hS => ?_
    refine sY hS (runs_move rfl) fun _ hS => ?_
    refine sY hS (runs_eql (r := true) rfl rfl (by first | rfl | simp)) fun _ hS => ?_
    refine sI hS (runs_pick rfl rfl) fun _ hS => ?_
    refine sI hS (runs_move rfl) fun _ hS => ?_
    refine sY hS (runs_move rfl) fun _ hS => ?_
    refine sY hS (runs_move rfl) fun _ hS => ?_
    refine sY hS (runs_eql (r := true) rfl rfl (by first | rfl | simp)) fun _ hS => ?_
    refine sI hS (runs_pick rfl rfl) fun _ hS => ?_
    refine sI hS (runs_assign rfl) fun _ hS => ?_
    exact nil_ok (qx_ret (ret1 (t := 4) (by kernel_rfl) hS rfl ⟨_, rfl, rfl, hB⟩))
  · skip
    obtain ⟨XL, hXL⟩ : ∃ l : List Int, [] = l := ⟨_, rfl⟩
    obtain ⟨SL, hSL⟩ : ∃ l : List Vx, [] = l := ⟨_, rfl⟩
    have hW : wholeL n es (kindL tg.data.toList) src steps = (XL, 0, 70) := by unfold wholeL; rw [if_neg hj, hXL]
    refine reg_guard (fun w' => Below w5.heap.size w5 w') [.inl (gv n (.slice Ag es.length cg)), .inr (fun v w' => ∃ y, v = gv n y ∧ Edges w' y es), .inl (.agg (jc tg src steps).toArray), .inr (fun v w' => ∃ (x0 : Value), v = .tuple #[x0, .int .i64 70] ∧ Verts w' x0 SL), .inr (fun v w' => ∃ (x0 : Value), v = .tuple #[x0, .int .i64 70] ∧ Verts w' x0 SL), .inr (fun v w' => Verts w' v SL), .inl (.int .i64 70), .inr (fun v w' => Verts w' v SL), .inl (.int .i64 70)] 9 0 mixed rfl (by kernel_rfl) hS (Below.refl _ _) (fun _ h => h.drew) ?_
    refine hs_is rfl (fun w' hw => runs_loadRow rfl (hM1.below hw hM1.lt) Tryz.underlying24 rfl (by rw [sz24]; rfl)) ?_
    refine hs_pr rfl (fun _ _ _ h hb => by obtain ⟨y, h1, h2⟩ := h; exact ⟨y, h1, h2.kept hb⟩) (fun w' hw hq => (runs_call (args := [gv n (.slice Ag es.length cg)]) goes7 rfl (own_any n es (by omega) _ w' (hE.kept hw))).mono (by rintro u w3 ⟨hb, y, h1, h2⟩; exact ⟨⟨y, h1, h2.edges⟩, hw.trans (hb.mono hw.size), hb⟩)) (fun u1 => ?_)
    refine hs_is rfl (fun w' hw => runs_loadRow rfl (hM3.below hw hM3.lt) Tryz.underlying26 rfl (by rw [sz26]; rfl)) ?_
    refine hs_pr rfl (fun _ _ _ h hb => by obtain ⟨x0, he, h0⟩ := h; exact ⟨x0, he, h0.kept hb⟩) (fun w' hw hq => (by obtain ⟨y, rfl, hy⟩ := hq (1, _) List.mem_cons_self (by kernel_rfl); exact (runs_call (args := [gv n y, .agg (jc tg src steps).toArray]) goes16 rfl (start_is w' hy rfl ((if_neg hj).trans hSL) (if_neg hj))).mono (by rintro v w5 ⟨x0, rfl, h0, hb⟩; exact ⟨⟨x0, rfl, h0⟩, hw.trans (hb.mono hw.size), hb⟩))) (fun vc1 => ?_)
    refine hs_pr rfl (fun _ _ _ h hb => by obtain ⟨x0, he, h0⟩ := h; exact ⟨x0, he, h0.kept hb⟩) (fun w' hw hq => (by have h := hq (3, _) List.mem_cons_self (by kernel_rfl); exact (runs_move rfl).mono (by rintro v w5 ⟨rfl, rfl⟩; exact ⟨h, hw, Below.refl _ _⟩))) (fun vc2 => ?_)
    refine hs_pr rfl (fun _ _ _ h hb => h.kept hb) (fun w' hw hq => (by obtain ⟨x0, rfl, h0⟩ := hq (4, _) List.mem_cons_self (by kernel_rfl); exact (runs_extract rfl rfl).mono (by rintro v w5 ⟨rfl, rfl⟩; exact ⟨h0, hw, Below.refl _ _⟩))) (fun ve0 => ?_)
    refine hs_val rfl (fun w' hw hq => (by obtain ⟨x0, rfl, h0⟩ := hq (4, _) (List.mem_cons_of_mem _ List.mem_cons_self) (by kernel_rfl); exact (runs_extract rfl rfl).mono (by rintro v w5 ⟨rfl, rfl⟩; exact ⟨rfl, hw, Below.refl _ _⟩))) ?_
    refine hs_pr rfl (fun _ _ _ h hb => h.kept hb) (fun w' hw hq => (by have h := hq (5, _) List.mem_cons_self (by kernel_rfl); exact (runs_assign rfl).mono (by rintro v w5 ⟨rfl, rfl⟩; exact ⟨h, hw, Below.refl _ _⟩))) (fun va0 => ?_)
    refine hs_is rfl (fun w' hw => runs_assign rfl) ?_
    refine (fun a25 w25 hS hB25 hq => ?_)




    have hV := (hq (7, _) List.mem_cons_self)
    obtain ⟨AV, cV, hsV, -, hcV, -⟩ := id hV
    subst hsV
    clear hq
    have hB := hB.trans (hB25.mono hB.size)
    have hM1 := hM1.below hB25 hM1.lt
    have hM3 := hM3.below hB25 hM3.lt
    have hE := hEb.kept hB
    refine wpAnyH_done (by kernel_rfl) ?_ _
    refine qx_seq (reg_guard (fun w' => Below w25.heap.size w25 w') [.inl (gv n (.slice Ag es.length cg)), .inr (fun v w' => ∃ y, v = gv n y ∧ Edges w' y es), .inl (.agg (jc tg src steps).toArray), .inr (fun v w' => ∃ (x0 : Value), v = .tuple #[x0, .int .i64 ((0 : Nat) : Int), .int .i64 70] ∧ Nums w' x0 XL), .inr (fun v w' => ∃ (x0 : Value), v = .tuple #[x0, .int .i64 ((0 : Nat) : Int), .int .i64 70] ∧ Nums w' x0 XL), .inr (fun v w' => Nums w' v XL), .inl (.int .i64 ((0 : Nat) : Int)), .inl (.int .i64 70), .inr (fun v w' => Nums w' v XL), .inl (.int .i64 ((0 : Nat) : Int)), .inl (.int .i64 70)] 11 0 mixed rfl (by kernel_rfl) hS (Below.refl _ _) (fun _ h => h.drew) ?_)
    refine hs_is rfl (fun w' hw => runs_loadRow rfl (hM1.below hw hM1.lt) Tryz.underlying24 rfl (by rw [sz24]; rfl)) ?_
    refine hs_pr rfl (fun _ _ _ h hb => by obtain ⟨y, h1, h2⟩ := h; exact ⟨y, h1, h2.kept hb⟩) (fun w' hw hq => (runs_call (args := [gv n (.slice Ag es.length cg)]) goes7 rfl (own_any n es (by omega) _ w' (hE.kept hw))).mono (by rintro u w3 ⟨hb, y, h1, h2⟩; exact ⟨⟨y, h1, h2.edges⟩, hw.trans (hb.mono hw.size), hb⟩)) (fun u1 => ?_)
    refine hs_is rfl (fun w' hw => runs_loadRow rfl (hM3.below hw hM3.lt) Tryz.underlying26 rfl (by rw [sz26]; rfl)) ?_
    refine hs_pr rfl (fun _ _ _ h hb => by obtain ⟨x0, he, h0⟩ := h; exact ⟨x0, he, h0.kept hb⟩) (fun w' hw hq => (by obtain ⟨y, rfl, hy⟩ := hq (1, _) List.mem_cons_self (by kernel_rfl); exact (runs_call (args := [gv n y, .agg (jc tg src steps).toArray]) goes17 rfl (whole_is (by omega) w' hy rfl hW)).mono (by rintro v w5 ⟨x0, rfl, h0, hb⟩; exact ⟨⟨x0, rfl, h0⟩, hw.trans (hb.mono hw.size), hb⟩))) (fun vc1 => ?_)
    refine hs_pr rfl (fun _ _ _ h hb => by obtain ⟨x0, he, h0⟩ := h; exact ⟨x0, he, h0.kept hb⟩) (fun w' hw hq => (by have h := hq (3, _) List.mem_cons_self (by kernel_rfl); exact (runs_move rfl).mono (by rintro v w5 ⟨rfl, rfl⟩; exact ⟨h, hw, Below.refl _ _⟩))) (fun vc2 => ?_)
    refine hs_pr rfl (fun _ _ _ h hb => h.kept hb) (fun w' hw hq => (by obtain ⟨x0, rfl, h0⟩ := hq (4, _) List.mem_cons_self (by kernel_rfl); exact (runs_extract rfl rfl).mono (by rintro v w5 ⟨rfl, rfl⟩; exact ⟨h0, hw, Below.refl _ _⟩))) (fun ve0 => ?_)
    refine hs_val rfl (fun w' hw hq => (by obtain ⟨x0, rfl, h0⟩ := hq (4, _) (List.mem_cons_of_mem _ List.mem_cons_self) (by kernel_rfl); exact (runs_extract rfl rfl).mono (by rintro v w5 ⟨rfl, rfl⟩; exact ⟨rfl, hw, Below.refl _ _⟩))) ?_
    refine hs_val rfl (fun w' hw hq => (by obtain ⟨x0, rfl, h0⟩ := hq (4, _) (List.mem_cons_of_mem _ List.mem_cons_self) (by kernel_rfl); exact (runs_extract rfl rfl).mono (by rintro v w5 ⟨rfl, rfl⟩; exact ⟨rfl, hw, Below.refl _ _⟩))) ?_
    refine hs_pr rfl (fun _ _ _ h hb => h.kept hb) (fun w' hw hq => (by have h := hq (5, _) List.mem_cons_self (by kernel_rfl); exact (runs_assign rfl).mono (by rintro v w5 ⟨rfl, rfl⟩; exact ⟨h, hw, Below.refl _ _⟩))) (fun va0 => ?_)
    refine hs_is rfl (fun w' hw => runs_assign rfl) ?_
    refine hs_is rfl (fun w' hw => runs_assign rfl) ?_
    refine (fun a27 w27 hS hB27 hq => ?_)




    have hX := (hq (8, _) List.mem_cons_self)
    obtain ⟨AX, cX, hsX, -, hcX, -⟩ := id hX
    subst hsX
    clear hq
    have hB := hB.trans (hB27.mono hB.size)
    have hM1 := hM1.below hB27 hM1.lt
    have hM3 := hM3.below hB27 hM3.lt
    have hE := hEb.kept hB
    refine wpAnyH_done (by kernel_rfl) ?_ _
    refine qx_seq (reg_seq ?_)
    refine sI hS (runs_loadRow rfl hM1 Tryz.underlying24 rfl (by rw [sz24]; rfl)) fun _ hS => ?_
    refine sI hS (runs_loadRow rfl hM3 Tryz.underlying26 rfl (by rw [sz26]; rfl)) fun _ hS => ?_
    refine seq_op hS (by decide) (runs_call (args := [gv n (.slice Ag es.length cg), .agg (jc tg src steps).toArray]) goes18 rfl (rwhole_is (by omega) w27 hE hW)) (fun v29 w29 a1 hp hS => ?_)
    obtain ⟨y5, rfl, hY5, hB29⟩ := hp
    have hB := hB.trans (hB29.mono hB.size)
    have hM1 := hM1.below hB29 hM1.lt
    have hM3 := hM3.below hB29 hM3.lt
    have hE := hEb.kept hB
    refine sI hS (runs_move rfl) fun _ hS => ?_
    refine sI hS (runs_extract rfl rfl) fun _ hS => ?_
    refine sI hS (runs_extract rfl rfl) fun _ hS => ?_
    refine sI hS (runs_extract rfl rfl) fun _ hS => ?_
    refine sI hS (runs_assign rfl) fun _ hS => ?_
    refine sI hS (runs_assign rfl) fun _ hS => ?_
    refine sI hS (runs_assign rfl) fun _ hS => ?_
    refine nil_ok (qx_seq (qx_seq (reg_seq ?_)))
    refine sI hS (runs_loadRow rfl hM1 Tryz.underlying24 rfl (by rw [sz24]; rfl)) fun _ hS => ?_
    refine sI hS (runs_loadRow rfl hM3 Tryz.underlying26 rfl (by rw [sz26]; rfl)) fun _ hS => ?_
    refine seq_op hS (by decide) (runs_call (args := [gv n (.slice Ag es.length cg), .agg (jc tg src steps).toArray]) goes19 rfl (right_any n es _ tg src steps w29 hE)) (fun v31 w31 a1 hp hS => ?_)
    obtain ⟨rfl, hB31⟩ := hp
    rw [Bool.eq_false_iff.2 hj] at hS
    have hB := hB.trans (hB31.mono hB.size)
    refine sI hS (runs_not (b := false) rfl) fun _ hS => ?_
    refine nil_ok (wp_cond_true (hS.eval rfl) (qx_seq (reg_seq ?_)))
    refine sI hS (runs_move rfl) fun _ hS => ?_
    refine sI hS (runs_len rfl undVx) fun _ hS => ?_
    refine sI hS (runs_eql (r := true) rfl rfl (by rw [← hSL]; rfl)) fun _ hS => ?_
    refine sI hS (runs_move rfl) fun _ hS => ?_
    refine sY hS (runs_move rfl) fun _ hS => ?_
    refine sY hS (runs_eql (r := true) rfl rfl (by first | rfl | simp)) fun _ hS => ?_
    refine sI hS (runs_pick rfl rfl) fun _ hS => ?_
    refine sI hS (runs_move rfl) fun _ hS => ?_
    refine sY hS (runs_move rfl) fun _ hS => ?_
    refine sY hS (runs_len rfl undI64) fun _ hS => ?_
    refine sY hS (runs_eql (r := true) rfl rfl (by rw [← hXL]; rfl)) fun _ hS => ?_
    refine sI hS (runs_pick rfl rfl) fun _ hS => ?_
    refine sI hS (runs_move rfl) fun _ hS => ?_
    refine sY hS (runs_move rfl) fun _ hS => ?_
    refine sY hS (runs_eql (r := true) rfl rfl (by first | rfl | simp)) fun _ hS => ?_
    refine sI hS (runs_pick rfl rfl) fun _ hS => ?_
    refine sI hS (runs_move rfl) fun _ hS => ?_
    refine sY hS (runs_move rfl) fun _ hS => ?_
    refine sY hS (runs_eql (r := true) rfl rfl (by first | rfl | simp)) fun _ hS => ?_
    refine sI hS (runs_pick rfl rfl) fun _ hS => ?_
    refine sI hS (runs_assign rfl) fun _ hS => ?_
    exact nil_ok (qx_ret (ret1 (t := 4) (by kernel_rfl) hS rfl ⟨_, rfl, rfl, hB⟩))
end Go.Proofs.YtapcpmalgdhakaaGreat
