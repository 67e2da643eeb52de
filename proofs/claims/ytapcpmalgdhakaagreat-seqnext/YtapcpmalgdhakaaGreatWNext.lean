/- modillionlaw09.SeqNext, walked. Conditions: none of our own. -/
import Derived.Test.YtapcpmalgdhakaaGreatVAwake
import Derived.Test.YtapcpmalgdhakaaGreatVRAll
namespace Go.Proofs.YtapcpmalgdhakaaGreat
open Go.RowKit
set_option maxRecDepth 100000

theorem runs_eqBool9 {L : List (Nat × Value)} {w : World} {ty t' : TypeId} {x y : Operand} {a b r : Bool} (hx : vals L x = some (.bool a)) (hy : vals L y = some (.bool b)) (hr : (a == b) = r) : Runs Tryz.prog (.binOp .eql 4 x y t') ty L w (Is (.bool r) w) :=
  runs_bin hx hy rfl (by rw [run_eql_bool w 4 a b (by kernel_rfl), hr])
theorem rnext_is {n : Int} {es : List E} (hsm : es.length ≤ 100) {v : Value} {tg : ByteArray} {src steps at_ : Int} {l : List Vx} {lv : Value} {l' : List Vx} {s : List E} {e : Int} (w : World) (hE : Edges w v es) (hV : Verts w lv l) (h : nextL n es (kindL tg.data.toList) src steps at_ l = (l', s, e)) :
    Ans 8 [gv n v, jv tg src steps, .int .i64 at_, lv] w (fun u w' => ∃ x y, u = .tuple #[x, y, .int .i64 e] ∧ Verts w' x l' ∧ Edges w' y s ∧ Below w.heap.size w w') := by
  have h9 := rnext_any n es hsm v tg src steps at_ l lv w hE hV
  rw [h] at h9
  exact h9
set_option maxHeartbeats 2000000 in
theorem next9_any (n : Int) (es : List E) (v : Value) (tg : ByteArray) (src steps at_ : Int) (l : List Vx) (lv : Value) (w : World) (hE : Edges w v es) (hV : Verts w lv l) : Ans 3 [gv n v, jv tg src steps, .int .i64 at_, lv] w (fun u w' => u = .bool true ∧ Below w.heap.size w w') := by
  obtain ⟨Ag, cg, rfl, hg1, hg2, hgA⟩ := hE
  have hE : Edges w (.slice Ag es.length cg) es := ⟨Ag, cg, rfl, hg1, hg2, hgA⟩
  clear hgA
  obtain ⟨Al, cl, rfl, hl1, hl2, -⟩ := id hV
  refine calls_qx (args := [gv n (.slice Ag es.length cg), .agg (jc tg src steps).toArray, .int .i64 at_, .slice Al l.length cl]) 81 Tryz.func3 rfl (by kernel_rfl) (by simp) (fun a hS => ?_)
  have hB := Below.refl w.heap.size w
  have hEb := hE
  have hVb := hV
  refine qx_seq (reg_seq ?_)
  refine seq_op hS (by decide) (runs_boxB (cs := [.int .i64 n, .slice Ag es.length cg]) rfl rfl) (fun v1 w1 a1 hp hS => ?_)
  obtain ⟨rfl, hM1, hB1⟩ := hp
  have hB := hB.trans (hB1.mono hB.size)
  have hE := hEb.kept hB
  have hV := hVb.kept hB
  refine seq_op hS (by decide) (runs_boxB (cs := jc tg src steps) rfl rfl) (fun v3 w3 a1 hp hS => ?_)
  obtain ⟨rfl, hM3, hB3⟩ := hp
  have hB := hB.trans (hB3.mono hB.size)
  have hM1 := hM1.below hB3 hM1.lt
  have hE := hEb.kept hB
  have hV := hVb.kept hB
  refine sI hS (runs_assign rfl) fun _ hS => ?_
  refine nil_ok (qx_seq (qx_seq (reg_seq ?_)))
  refine seq_op hS (by decide) (runs_call (args := []) goes5 rfl (awake_any w3)) (fun v5 w5 a1 hp hS => ?_)
  obtain ⟨rfl, hB5⟩ := hp
  have hB := hB.trans (hB5.mono hB.size)
  have hM1 := hM1.below hB5 hM1.lt
  have hM3 := hM3.below hB5 hM3.lt
  have hE := hEb.kept hB
  have hV := hVb.kept hB
  refine sI hS (runs_not (b := true) rfl) fun _ hS => ?_
  refine sI hS (runs_move rfl) fun _ hS => ?_
  refine sY hS (runs_fieldK fo24_1 rfl) fun _ hS => ?_
  refine sY hS (runs_load rfl pl22 (hM1.at rfl)) fun _ hS => ?_
  refine sY hS (runs_len rfl und22) fun _ hS => ?_
  by_cases h60 : ((es.length : Nat) : Int) > 60
  · skip
    refine sY hS (gtrT rfl rfl (by omega)) fun _ hS => ?_
    refine sI hS (runs_pick rfl rfl) fun _ hS => ?_
    refine sI hS (runs_move rfl) fun _ hS => ?_
    refine sN hS fun _ hS => ?_
    refine sN hS fun _ hS => ?_
    refine sN hS fun _ hS => ?_
    refine sI hS (runs_pick rfl rfl) fun _ hS => ?_
    refine nil_ok (wp_cond_true (hS.eval rfl) (qx_seq (reg_seq ?_)))
    refine seq_op hS (by decide) (runs_call (args := []) goes5 rfl (awake_any w5)) (fun v7 w7 a1 hp hS => ?_)
    obtain ⟨rfl, hB7⟩ := hp
    have hB := hB.trans (hB7.mono hB.size)
    have hM1 := hM1.below hB7 hM1.lt
    have hM3 := hM3.below hB7 hM3.lt
    have hE := hEb.kept hB
    have hV := hVb.kept hB
    refine sI hS (runs_assign rfl) fun _ hS => ?_
    exact nil_ok (qx_ret (ret1 (t := 8) (by kernel_rfl) hS rfl ⟨_, rfl, rfl, hB⟩))
  refine sY hS (gtrF rfl rfl (by omega)) fun _ hS => ?_
  refine sI hS (runs_pick rfl rfl) fun _ hS => ?_
  refine sI hS (runs_move rfl) fun _ hS => ?_
  refine sY hS (runs_move rfl) fun _ hS => ?_
  refine sY hS (runs_len rfl undVx) fun _ hS => ?_
  by_cases h70 : ((l.length : Nat) : Int) > 70
  · skip
    refine sY hS (gtrT rfl rfl (by omega)) fun _ hS => ?_
    refine sI hS (runs_pick rfl rfl) fun _ hS => ?_
    refine nil_ok (wp_cond_true (hS.eval rfl) (qx_seq (reg_seq ?_)))
    refine seq_op hS (by decide) (runs_call (args := []) goes5 rfl (awake_any w5)) (fun v9 w9 a1 hp hS => ?_)
    obtain ⟨rfl, hB9⟩ := hp
    have hB := hB.trans (hB9.mono hB.size)
    have hM1 := hM1.below hB9 hM1.lt
    have hM3 := hM3.below hB9 hM3.lt
    have hE := hEb.kept hB
    have hV := hVb.kept hB
    refine sI hS (runs_assign rfl) fun _ hS => ?_
    exact nil_ok (qx_ret (ret1 (t := 8) (by kernel_rfl) hS rfl ⟨_, rfl, rfl, hB⟩))
  refine sY hS (gtrF rfl rfl (by omega)) fun _ hS => ?_
  refine sI hS (runs_pick rfl rfl) fun _ hS => ?_
  refine nil_ok (wp_cond_false (hS.eval rfl) (wp_skip (qx_seq (?_))))
  obtain ⟨NL, NS, NE, hNx⟩ : ∃ a b c, nextL n es (kindL tg.data.toList) src steps at_ l = (a, b, c) := ⟨_, _, _, rfl⟩
  have hBw := hB.size
  refine reg_guard (fun w' => Below w5.heap.size w5 w') [.inl (gv n (.slice Ag es.length cg)), .inr (fun v w' => ∃ y, v = gv n y ∧ Edges w' y es), .inl (.agg (jc tg src steps).toArray), .inl (.int .i64 at_), .inr (fun v w' => ∃ g, v = .slice (some ⟨g, 0, none⟩) 0 0 ∧ w'.ownsRow w.heap.size 50 5 v 0 []), .inl (.slice Al l.length cl), .inr (fun v w' => Verts w' v l), .inr (fun v w' => ∃ (x0 : Value) (x1 : Value), v = .tuple #[x0, x1, .int .i64 NE] ∧ Verts w' x0 NL ∧ Edges w' x1 NS), .inr (fun v w' => ∃ (x0 : Value) (x1 : Value), v = .tuple #[x0, x1, .int .i64 NE] ∧ Verts w' x0 NL ∧ Edges w' x1 NS), .inr (fun v w' => Verts w' v NL), .inr (fun v w' => Edges w' v NS), .inl (.int .i64 NE), .inr (fun v w' => Verts w' v NL), .inr (fun v w' => Edges w' v NS), .inl (.int .i64 NE)] 15 0 mixed rfl (by kernel_rfl) hS (Below.refl _ _) (fun _ h => h.drew) ?_
  refine hs_is rfl (fun w' hw => runs_loadRow rfl (hM1.below hw hM1.lt) Tryz.underlying24 rfl (by rw [sz24]; rfl)) ?_
  refine hs_pr rfl (fun _ _ _ h hb => by obtain ⟨y, h1, h2⟩ := h; exact ⟨y, h1, h2.kept hb⟩) (fun w' hw hq => (runs_call (args := [gv n (.slice Ag es.length cg)]) goes7 rfl (own_any n es (by omega) _ w' (hE.kept hw))).mono (by rintro u w3 ⟨hb, y, h1, h2⟩; exact ⟨⟨y, h1, h2.edges⟩, hw.trans (hb.mono hw.size), hb⟩)) (fun u1 => ?_)
  refine hs_is rfl (fun w' hw => runs_loadRow rfl (hM3.below hw hM3.lt) Tryz.underlying26 rfl (by rw [sz26]; rfl)) ?_
  refine hs_is rfl (fun w' hw => runs_move rfl) ?_
  refine hs_pr rfl (fun _ _ _ h hb => by obtain ⟨g, h1, h2⟩ := h; exact ⟨g, h1, owns_kept h2 hb⟩) (fun w' hw hq => (none_ownV (B := w.heap.size) (Nat.le_trans hBw hw.size)).mono (by rintro v w3 ⟨h1, h3⟩; exact ⟨h1, hw.trans (h3.mono hw.size), h3⟩)) (fun u4 => ?_)
  refine hs_is rfl (fun w' hw => runs_move rfl) ?_
  refine hs_pr rfl (fun _ _ _ h hb => h.kept hb) (fun w' hw hq => (by obtain ⟨g, rfl, h0⟩ := hq (4, _) List.mem_cons_self (by kernel_rfl); exact (copy_ownV (hV.kept hw) (by omega) (Nat.le_trans hBw hw.size) rfl h0 rfl).mono (by rintro u w3 ⟨h1, h2, h3⟩; exact ⟨verts_own h2 rfl, hw.trans (h3.mono hw.size), h3⟩))) (fun u6 => ?_)
  refine hs_pr rfl (fun _ _ _ h hb => by obtain ⟨x0, x1, he, h0, h1⟩ := h; exact ⟨x0, x1, he, h0.kept hb, h1.kept hb⟩) (fun w' hw hq => (by obtain ⟨y, rfl, hy⟩ := hq (1, _) (List.mem_cons_of_mem _ (List.mem_cons_of_mem _ List.mem_cons_self)) (by kernel_rfl); have hl := hq (6, _) List.mem_cons_self (by kernel_rfl); exact (runs_call (args := [gv n y, .agg (jc tg src steps).toArray, .int .i64 at_, u6]) goes6 rfl (next_is (by omega) w' hy hl rfl hNx)).mono (by rintro v w5 ⟨x0, x1, rfl, h0, h1, hb⟩; exact ⟨⟨x0, x1, rfl, h0, h1⟩, hw.trans (hb.mono hw.size), hb⟩))) (fun vc1 => ?_)
  refine hs_pr rfl (fun _ _ _ h hb => by obtain ⟨x0, x1, he, h0, h1⟩ := h; exact ⟨x0, x1, he, h0.kept hb, h1.kept hb⟩) (fun w' hw hq => (by have h := hq (7, _) List.mem_cons_self (by kernel_rfl); exact (runs_move rfl).mono (by rintro v w5 ⟨rfl, rfl⟩; exact ⟨h, hw, Below.refl _ _⟩))) (fun vc2 => ?_)
  refine hs_pr rfl (fun _ _ _ h hb => h.kept hb) (fun w' hw hq => (by obtain ⟨x0, x1, rfl, h0, h1⟩ := hq (8, _) List.mem_cons_self (by kernel_rfl); exact (runs_extract rfl rfl).mono (by rintro v w5 ⟨rfl, rfl⟩; exact ⟨h0, hw, Below.refl _ _⟩))) (fun ve0 => ?_)
  refine hs_pr rfl (fun _ _ _ h hb => h.kept hb) (fun w' hw hq => (by obtain ⟨x0, x1, rfl, h0, h1⟩ := hq (8, _) (List.mem_cons_of_mem _ List.mem_cons_self) (by kernel_rfl); exact (runs_extract rfl rfl).mono (by rintro v w5 ⟨rfl, rfl⟩; exact ⟨h1, hw, Below.refl _ _⟩))) (fun ve1 => ?_)
  refine hs_val rfl (fun w' hw hq => (by obtain ⟨x0, x1, rfl, h0, h1⟩ := hq (8, _) (List.mem_cons_of_mem _ (List.mem_cons_of_mem _ List.mem_cons_self)) (by kernel_rfl); exact (runs_extract rfl rfl).mono (by rintro v w5 ⟨rfl, rfl⟩; exact ⟨rfl, hw, Below.refl _ _⟩))) ?_
  refine hs_pr rfl (fun _ _ _ h hb => h.kept hb) (fun w' hw hq => (by have h := hq (9, _) (List.mem_cons_of_mem _ List.mem_cons_self) (by kernel_rfl); exact (runs_assign rfl).mono (by rintro v w5 ⟨rfl, rfl⟩; exact ⟨h, hw, Below.refl _ _⟩))) (fun va0 => ?_)
  refine hs_pr rfl (fun _ _ _ h hb => h.kept hb) (fun w' hw hq => (by have h := hq (10, _) (List.mem_cons_of_mem _ List.mem_cons_self) (by kernel_rfl); exact (runs_assign rfl).mono (by rintro v w5 ⟨rfl, rfl⟩; exact ⟨h, hw, Below.refl _ _⟩))) (fun va1 => ?_)
  refine hs_is rfl (fun w' hw => runs_assign rfl) ?_
  refine (fun a11 w11 hS hB11 hq => ?_)







  have hN := (hq (12, _) (List.mem_cons_of_mem _ List.mem_cons_self))
  obtain ⟨AN, cN, hsN, -, hcN, -⟩ := id hN
  subst hsN
  have hM := (hq (13, _) List.mem_cons_self)
  obtain ⟨AM, cM, hsM, -, hcM, -⟩ := id hM
  subst hsM
  clear hq
  have hB := hB.trans (hB11.mono hB.size)
  have hM1 := hM1.below hB11 hM1.lt
  have hM3 := hM3.below hB11 hM3.lt
  have hE := hEb.kept hB
  have hV := hVb.kept hB
  refine wpAnyH_done (by kernel_rfl) ?_ _
  refine qx_seq (reg_seq ?_)
  refine sI hS (runs_loadRow rfl hM1 Tryz.underlying24 rfl (by rw [sz24]; rfl)) fun _ hS => ?_
  refine sI hS (runs_loadRow rfl hM3 Tryz.underlying26 rfl (by rw [sz26]; rfl)) fun _ hS => ?_
  refine sI hS (runs_move rfl) fun _ hS => ?_
  refine sI hS (runs_move rfl) fun _ hS => ?_
  refine seq_op hS (by decide) (runs_call (args := [gv n (.slice Ag es.length cg), .agg (jc tg src steps).toArray, .int .i64 at_, .slice Al l.length cl]) goes8 rfl (rnext_is (by omega) w11 hE hV hNx)) (fun v13 w13 a1 hp hS => ?_)
  obtain ⟨x4, y4, rfl, hP, hQ9, hB13⟩ := hp
  have hB := hB.trans (hB13.mono hB.size)
  have hV := hVb.kept hB
  have hN := hN.kept hB13
  have hM := hM.kept hB13
  refine sI hS (runs_move rfl) fun _ hS => ?_
  refine sI hS (runs_extract rfl rfl) fun _ hS => ?_
  refine sI hS (runs_extract rfl rfl) fun _ hS => ?_
  refine sI hS (runs_extract rfl rfl) fun _ hS => ?_
  refine sI hS (runs_assign rfl) fun _ hS => ?_
  refine sI hS (runs_assign rfl) fun _ hS => ?_
  refine sI hS (runs_assign rfl) fun _ hS => ?_
  refine nil_ok (qx_seq (reg_seq ?_))
  refine sI hS (runs_move rfl) fun _ hS => ?_
  refine sI hS (runs_move rfl) fun _ hS => ?_
  refine seq_op hS (by decide) (runs_call (args := [.slice AN NL.length cN, x4]) goes9 rfl (vsame_any NL NL _ _ w13 hN hP)) (fun v15 w15 a1 hp hS => ?_)
  obtain ⟨rfl, hB15⟩ := hp
  have hB := hB.trans (hB15.mono hB.size)
  have hV := hVb.kept hB
  have hM := hM.kept hB15
  have hQ9 := hQ9.kept hB15
  rw [show decide (NL = NL) = true by simp] at hS
  refine sI hS (runs_move rfl) fun _ hS => ?_
  refine sY hS (runs_move rfl) fun _ hS => ?_
  refine sY hS (runs_move rfl) fun _ hS => ?_
  refine seq_yes hS (by decide) rfl (by decide) rfl (runs_call (args := [.slice AM NS.length cM, y4]) goes10 rfl (msame_any NS NS _ _ w15 hM hQ9)) (fun v17 w17 a1 hp hS => ?_)
  obtain ⟨rfl, hB17⟩ := hp
  have hB := hB.trans (hB17.mono hB.size)
  have hV := hVb.kept hB
  rw [show decide (NS = NS) = true by simp] at hS
  refine sI hS (runs_pick rfl rfl) fun _ hS => ?_
  refine sI hS (runs_move rfl) fun _ hS => ?_
  refine sY hS (runs_move rfl) fun _ hS => ?_
  refine sY hS (runs_move rfl) fun _ hS => ?_
  refine sY hS (runs_eql (r := true) rfl rfl (by first | rfl | simp)) fun _ hS => ?_
  refine sI hS (runs_pick rfl rfl) fun _ hS => ?_
  refine sI hS (runs_move rfl) fun _ hS => ?_
  refine seq_yes hS (by decide) rfl (by decide) rfl (none_ownV (B := w.heap.size) hB.size) (fun v19 w19 a1 hp hS => ?_)
  obtain ⟨⟨ga, rfl, h0a⟩, hB19⟩ := hp
  have hOa := h0a
  have hB := hB.trans (hB19.mono hB.size)
  have hV := hVb.kept hB
  refine sY hS (runs_move rfl) fun _ hS => ?_
  refine seq_yes hS (by decide) rfl (by decide) rfl (copy_ownV (B := w.heap.size) hV (by omega) hB.size rfl hOa rfl) (fun v21 w21 a1 hp hS => ?_)
  obtain ⟨-, hCa, hB21⟩ := hp
  have hWa := verts_own hCa rfl
  have hB := hB.trans (hB21.mono hB.size)
  have hV := hVb.kept hB
  refine seq_yes hS (by decide) rfl (by decide) rfl (runs_call (args := [v21]) goes11 rfl (quiet_any l _ w21 hWa)) (fun v23 w23 a1 hp hS => ?_)
  obtain ⟨rfl, hB23⟩ := hp
  have hB := hB.trans (hB23.mono hB.size)
  have hV := hVb.kept hB
  refine sY hS (runs_move rfl) fun _ hS => ?_
  refine seq_yes hS (by decide) rfl (by decide) rfl (runs_call (args := [.slice Al l.length cl]) goes12 rfl (rquiet_any l _ w23 hV)) (fun v25 w25 a1 hp hS => ?_)
  obtain ⟨rfl, hB25⟩ := hp
  have hB := hB.trans (hB25.mono hB.size)
  have hV := hVb.kept hB
  refine sY hS (runs_eqBool9 (r := true) rfl rfl (by simp)) fun _ hS => ?_
  refine sI hS (runs_pick rfl rfl) fun _ hS => ?_
  refine sI hS (runs_move rfl) fun _ hS => ?_
  refine seq_yes hS (by decide) rfl (by decide) rfl (none_ownV (B := w.heap.size) hB.size) (fun v27 w27 a1 hp hS => ?_)
  obtain ⟨⟨gb, rfl, h0b⟩, hB27⟩ := hp
  have hOb := h0b
  have hB := hB.trans (hB27.mono hB.size)
  have hV := hVb.kept hB
  refine sY hS (runs_move rfl) fun _ hS => ?_
  refine seq_yes hS (by decide) rfl (by decide) rfl (copy_ownV (B := w.heap.size) hV (by omega) hB.size rfl hOb rfl) (fun v29 w29 a1 hp hS => ?_)
  obtain ⟨-, hCb, hB29⟩ := hp
  have hWb := verts_own hCb rfl
  have hB := hB.trans (hB29.mono hB.size)
  have hV := hVb.kept hB
  refine seq_yes hS (by decide) rfl (by decide) rfl (runs_call (args := [v29]) goes14 rfl (values_any l _ w29 hWb (by omega))) (fun v31 w31 a1 hp hS => ?_)
  obtain ⟨hownp, hB31⟩ := hp
  have hRp := nums_own hownp rfl
  have hB := hB.trans (hB31.mono hB.size)
  have hV := hVb.kept hB
  refine sY hS (runs_move rfl) fun _ hS => ?_
  refine seq_yes hS (by decide) rfl (by decide) rfl (runs_call (args := [.slice Al l.length cl]) goes15 rfl (rvalues_any l _ w31 hV (by omega))) (fun v33 w33 a1 hp hS => ?_)
  obtain ⟨hownq, hB33⟩ := hp
  have hRq := nums_own hownq rfl
  have hB := hB.trans (hB33.mono hB.size)
  have hRp := hRp.kept hB33
  refine seq_yes hS (by decide) rfl (by decide) rfl (runs_call (args := [v31, v33]) goes13 rfl (row_any (valuesL l) (valuesL l) _ _ w33 hRp hRq)) (fun v35 w35 a1 hp hS => ?_)
  obtain ⟨rfl, hB35⟩ := hp
  have hB := hB.trans (hB35.mono hB.size)
  rw [show decide (valuesL l = valuesL l) = true by simp] at hS
  refine sI hS (runs_pick rfl rfl) fun _ hS => ?_
  refine sI hS (runs_assign rfl) fun _ hS => ?_
  exact nil_ok (qx_ret (ret1 (t := 8) (by kernel_rfl) hS rfl ⟨_, rfl, rfl, hB⟩))
end Go.Proofs.YtapcpmalgdhakaaGreat
