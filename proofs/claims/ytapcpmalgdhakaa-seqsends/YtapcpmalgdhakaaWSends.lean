/- modillionlaw09.SeqSends, walked. Conditions: none of our own. -/
import Derived.Test.YtapcpmalgdhakaaVAwake
import Derived.Test.YtapcpmalgdhakaaNAll
namespace Go.Proofs.Ytapcpmalgdhakaa
open Go.RowKit
set_option maxRecDepth 100000

theorem runs_neBool {L : List (Nat × Value)} {w : World} {ty t' : TypeId} {x y : Operand} {a b r : Bool} (hx : vals L x = some (.bool a)) (hy : vals L y = some (.bool b)) (hr : (!(a == b)) = r) : Runs Try.prog (.binOp .neq 4 x y t') ty L w (Is (.bool r) w) :=
  runs_bin hx hy rfl (by rw [run_neq_bool w 4 a b (by kernel_rfl), hr])
theorem anyM_take {l : List E} {i : Nat} {m : E} (p : E → Bool) (h : l[i]? = some m) : (l.take (i + 1)).any p = ((l.take i).any p || p m) := by
  rw [List.take_add_one, h, Option.toList_some, List.any_append]; simp
set_option maxHeartbeats 2000000 in
theorem sends9_any (n : Int) (es : List E) (v : Value) (tg : ByteArray) (src steps at_ : Int) (l : List Vx) (lv : Value) (w : World) (hE : Edges w v es) (hV : Verts w lv l) : Ans 6 [gv n v, jv tg src steps, .int .i64 at_, lv] w (fun u w' => u = .bool true ∧ Below w.heap.size w w') := by
  obtain ⟨Ag, cg, rfl, hg1, hg2, hgA⟩ := hE
  have hE : Edges w (.slice Ag es.length cg) es := ⟨Ag, cg, rfl, hg1, hg2, hgA⟩
  clear hgA
  obtain ⟨Al, cl, rfl, hl1, hl2, -⟩ := id hV
  refine calls_qx (args := [gv n (.slice Ag es.length cg), .agg (jc tg src steps).toArray, .int .i64 at_, .slice Al l.length cl]) 106 Try.func6 rfl (by kernel_rfl) (by simp) (fun a hS => ?_)
  have hB := Below.refl w.heap.size w
  have hEb := hE
  have hVb := hV
  refine qx_seq (reg_seq ?_)
  refine seq_op hS (by decide) (runs_boxB (cs := [.int .i64 n, .slice Ag es.length cg]) rfl rfl) (fun v1 w1 a1 hp hS => ?_)
  obtain ⟨rfl, hM1, hB1⟩ := hp
  have hB := hB.trans (hB1.mono hB.size)
  have hE := hEb.kept hB
  have hV := hVb.kept hB
  refine seq_op hS (by decide) (runs_boxB (cs := jc tg src steps) rfl rfl) (fun v3 w3 a1 hp hS => ?_)
  obtain ⟨rfl, hM3, hB3⟩ := hp
  have hB := hB.trans (hB3.mono hB.size)
  have hM1 := hM1.below hB3 hM1.lt
  have hE := hEb.kept hB
  have hV := hVb.kept hB
  refine sI hS (runs_assign rfl) fun _ hS => ?_
  refine nil_ok (qx_seq (qx_seq (reg_seq ?_)))
  refine seq_op hS (by decide) (runs_call (args := []) goes11 rfl (awake_any w3)) (fun v5 w5 a1 hp hS => ?_)
  obtain ⟨rfl, hB5⟩ := hp
  have hB := hB.trans (hB5.mono hB.size)
  have hM1 := hM1.below hB5 hM1.lt
  have hM3 := hM3.below hB5 hM3.lt
  have hE := hEb.kept hB
  have hV := hVb.kept hB
  refine sI hS (runs_not (b := true) rfl) fun _ hS => ?_
  refine sI hS (runs_move rfl) fun _ hS => ?_
  refine sY hS (runs_fieldK fo24_1 rfl) fun _ hS => ?_
  refine sY hS (runs_load rfl pl22 (hM1.at rfl)) fun _ hS => ?_
  refine sY hS (runs_len rfl und22) fun _ hS => ?_
  by_cases h60 : ((es.length : Nat) : Int) > 60
  · skip
    refine sY hS (gtrT rfl rfl (by omega)) fun _ hS => ?_
    refine sI hS (runs_pick rfl rfl) fun _ hS => ?_
    refine sI hS (runs_move rfl) fun _ hS => ?_
    refine sN hS fun _ hS => ?_
    refine sN hS fun _ hS => ?_
    refine sN hS fun _ hS => ?_
    refine sI hS (runs_pick rfl rfl) fun _ hS => ?_
    refine nil_ok (wp_cond_true (hS.eval rfl) (qx_seq (reg_seq ?_)))
    refine seq_op hS (by decide) (runs_call (args := []) goes11 rfl (awake_any w5)) (fun v7 w7 a1 hp hS => ?_)
    obtain ⟨rfl, hB7⟩ := hp
    have hB := hB.trans (hB7.mono hB.size)
    have hM1 := hM1.below hB7 hM1.lt
    have hM3 := hM3.below hB7 hM3.lt
    have hE := hEb.kept hB
    have hV := hVb.kept hB
    refine sI hS (runs_assign rfl) fun _ hS => ?_
    exact nil_ok (qx_ret (ret1 (t := 8) (by kernel_rfl) hS rfl ⟨_, rfl, rfl, hB⟩))
  refine sY hS (gtrF rfl rfl (by omega)) fun _ hS => ?_
  refine sI hS (runs_pick rfl rfl) fun _ hS => ?_
  refine sI hS (runs_move rfl) fun _ hS => ?_
  refine sY hS (runs_move rfl) fun _ hS => ?_
  refine sY hS (runs_len rfl undVx) fun _ hS => ?_
  by_cases h70 : ((l.length : Nat) : Int) > 70
  · skip
    refine sY hS (gtrT rfl rfl (by omega)) fun _ hS => ?_
    refine sI hS (runs_pick rfl rfl) fun _ hS => ?_
    refine nil_ok (wp_cond_true (hS.eval rfl) (qx_seq (reg_seq ?_)))
    refine seq_op hS (by decide) (runs_call (args := []) goes11 rfl (awake_any w5)) (fun v9 w9 a1 hp hS => ?_)
    obtain ⟨rfl, hB9⟩ := hp
    have hB := hB.trans (hB9.mono hB.size)
    have hM1 := hM1.below hB9 hM1.lt
    have hM3 := hM3.below hB9 hM3.lt
    have hE := hEb.kept hB
    have hV := hVb.kept hB
    refine sI hS (runs_assign rfl) fun _ hS => ?_
    exact nil_ok (qx_ret (ret1 (t := 8) (by kernel_rfl) hS rfl ⟨_, rfl, rfl, hB⟩))
  refine sY hS (gtrF rfl rfl (by omega)) fun _ hS => ?_
  refine sI hS (runs_pick rfl rfl) fun _ hS => ?_
  refine nil_ok (wp_cond_false (hS.eval rfl) (wp_skip (qx_seq (?_))))
  obtain ⟨NL, NS, NE, hNx⟩ : ∃ a b c, nextL n es (kindL tg.data.toList) src steps at_ l = (a, b, c) := ⟨_, _, _, rfl⟩
  have hBw := hB.size
  refine reg_guard (fun w' => Below w5.heap.size w5 w') [.inl (gv n (.slice Ag es.length cg)), .inr (fun v w' => ∃ y, v = gv n y ∧ Edges w' y es), .inl (.agg (jc tg src steps).toArray), .inl (.int .i64 at_), .inr (fun v w' => ∃ g, v = .slice (some ⟨g, 0, none⟩) 0 0 ∧ w'.ownsRow w.heap.size 50 5 v 0 []), .inl (.slice Al l.length cl), .inr (fun v w' => Verts w' v l), .inr (fun v w' => ∃ (x0 : Value) (x1 : Value), v = .tuple #[x0, x1, .int .i64 NE] ∧ Verts w' x0 NL ∧ Edges w' x1 NS), .inr (fun v w' => ∃ (x0 : Value) (x1 : Value), v = .tuple #[x0, x1, .int .i64 NE] ∧ Verts w' x0 NL ∧ Edges w' x1 NS), .inr (fun v w' => Verts w' v NL), .inr (fun v w' => Edges w' v NS), .inl (.int .i64 NE), .inr (fun v w' => Verts w' v NL), .inr (fun v w' => Edges w' v NS), .inl (.int .i64 NE)] 15 0 mixed rfl (by kernel_rfl) hS (Below.refl _ _) (fun _ h => h.drew) ?_
  refine hs_is rfl (fun w' hw => runs_loadRow rfl (hM1.below hw hM1.lt) Try.underlying24 rfl (by rw [sz24]; rfl)) ?_
  refine hs_pr rfl (fun _ _ _ h hb => by obtain ⟨y, h1, h2⟩ := h; exact ⟨y, h1, h2.kept hb⟩) (fun w' hw hq => (runs_call (args := [gv n (.slice Ag es.length cg)]) goes13 rfl (own_any n es (by omega) _ w' (hE.kept hw))).mono (by rintro u w3 ⟨hb, y, h1, h2⟩; exact ⟨⟨y, h1, h2.edges⟩, hw.trans (hb.mono hw.size), hb⟩)) (fun u1 => ?_)
  refine hs_is rfl (fun w' hw => runs_loadRow rfl (hM3.below hw hM3.lt) Try.underlying26 rfl (by rw [sz26]; rfl)) ?_
  refine hs_is rfl (fun w' hw => runs_move rfl) ?_
  refine hs_pr rfl (fun _ _ _ h hb => by obtain ⟨g, h1, h2⟩ := h; exact ⟨g, h1, owns_kept h2 hb⟩) (fun w' hw hq => (none_ownV (B := w.heap.size) (Nat.le_trans hBw hw.size)).mono (by rintro v w3 ⟨h1, h3⟩; exact ⟨h1, hw.trans (h3.mono hw.size), h3⟩)) (fun u4 => ?_)
  refine hs_is rfl (fun w' hw => runs_move rfl) ?_
  refine hs_pr rfl (fun _ _ _ h hb => h.kept hb) (fun w' hw hq => (by obtain ⟨g, rfl, h0⟩ := hq (4, _) List.mem_cons_self (by kernel_rfl); exact (copy_ownV (hV.kept hw) (by omega) (Nat.le_trans hBw hw.size) rfl h0 rfl).mono (by rintro u w3 ⟨h1, h2, h3⟩; exact ⟨verts_own h2 rfl, hw.trans (h3.mono hw.size), h3⟩))) (fun u6 => ?_)
  refine hs_pr rfl (fun _ _ _ h hb => by obtain ⟨x0, x1, he, h0, h1⟩ := h; exact ⟨x0, x1, he, h0.kept hb, h1.kept hb⟩) (fun w' hw hq => (by obtain ⟨y, rfl, hy⟩ := hq (1, _) (List.mem_cons_of_mem _ (List.mem_cons_of_mem _ List.mem_cons_self)) (by kernel_rfl); have hl := hq (6, _) List.mem_cons_self (by kernel_rfl); exact (runs_call (args := [gv n y, .agg (jc tg src steps).toArray, .int .i64 at_, u6]) goes16 rfl (next_is (by omega) w' hy hl rfl hNx)).mono (by rintro v w5 ⟨x0, x1, rfl, h0, h1, hb⟩; exact ⟨⟨x0, x1, rfl, h0, h1⟩, hw.trans (hb.mono hw.size), hb⟩))) (fun vc1 => ?_)
  refine hs_pr rfl (fun _ _ _ h hb => by obtain ⟨x0, x1, he, h0, h1⟩ := h; exact ⟨x0, x1, he, h0.kept hb, h1.kept hb⟩) (fun w' hw hq => (by have h := hq (7, _) List.mem_cons_self (by kernel_rfl); exact (runs_move rfl).mono (by rintro v w5 ⟨rfl, rfl⟩; exact ⟨h, hw, Below.refl _ _⟩))) (fun vc2 => ?_)
  refine hs_pr rfl (fun _ _ _ h hb => h.kept hb) (fun w' hw hq => (by obtain ⟨x0, x1, rfl, h0, h1⟩ := hq (8, _) List.mem_cons_self (by kernel_rfl); exact (runs_extract rfl rfl).mono (by rintro v w5 ⟨rfl, rfl⟩; exact ⟨h0, hw, Below.refl _ _⟩))) (fun ve0 => ?_)
  refine hs_pr rfl (fun _ _ _ h hb => h.kept hb) (fun w' hw hq => (by obtain ⟨x0, x1, rfl, h0, h1⟩ := hq (8, _) (List.mem_cons_of_mem _ List.mem_cons_self) (by kernel_rfl); exact (runs_extract rfl rfl).mono (by rintro v w5 ⟨rfl, rfl⟩; exact ⟨h1, hw, Below.refl _ _⟩))) (fun ve1 => ?_)
  refine hs_val rfl (fun w' hw hq => (by obtain ⟨x0, x1, rfl, h0, h1⟩ := hq (8, _) (List.mem_cons_of_mem _ (List.mem_cons_of_mem _ List.mem_cons_self)) (by kernel_rfl); exact (runs_extract rfl rfl).mono (by rintro v w5 ⟨rfl, rfl⟩; exact ⟨rfl, hw, Below.refl _ _⟩))) ?_
  refine hs_pr rfl (fun _ _ _ h hb => h.kept hb) (fun w' hw hq => (by have h := hq (9, _) (List.mem_cons_of_mem _ List.mem_cons_self) (by kernel_rfl); exact (runs_assign rfl).mono (by rintro v w5 ⟨rfl, rfl⟩; exact ⟨h, hw, Below.refl _ _⟩))) (fun va0 => ?_)
  refine hs_pr rfl (fun _ _ _ h hb => h.kept hb) (fun w' hw hq => (by have h := hq (10, _) (List.mem_cons_of_mem _ List.mem_cons_self) (by kernel_rfl); exact (runs_assign rfl).mono (by rintro v w5 ⟨rfl, rfl⟩; exact ⟨h, hw, Below.refl _ _⟩))) (fun va1 => ?_)
  refine hs_is rfl (fun w' hw => runs_assign rfl) ?_
  refine (fun a11 w11 hS hB11 hq => ?_)







  have hN := (hq (12, _) (List.mem_cons_of_mem _ List.mem_cons_self))
  obtain ⟨AN, cN, hsN, -, hcN, -⟩ := id hN
  subst hsN
  have hM := (hq (13, _) List.mem_cons_self)
  obtain ⟨AM, cM, hsM, -, hcM, -⟩ := id hM
  subst hsM
  clear hq
  have hB := hB.trans (hB11.mono hB.size)
  have hM1 := hM1.below hB11 hM1.lt
  refine wpAnyH_done (by kernel_rfl) ?_ _
  refine qx_seq (qx_seq (reg_seq ?_))
  refine sI hS (runs_move rfl) fun _ hS => ?_
  by_cases he : NE ≠ 0
  · skip
    refine sI hS (runs_neq (r := true) rfl rfl (by simpa using he)) fun _ hS => ?_
    refine nil_ok (wp_cond_true (hS.eval rfl) (qx_seq (?_)))
    have hbd := next_bad (n := n) (es := es) (k := (kindL tg.data.toList)) (src := src) (steps := steps) (at_ := at_) (l := l) (by rw [hNx]; exact he)
    rw [hNx] at hbd
    obtain ⟨hb1, hb2⟩ := hbd
    refine reg_seq ?_
    refine sI hS (runs_move rfl) fun _ hS => ?_
    refine sI hS (runs_len rfl undVx) fun _ hS => ?_
    refine sI hS (runs_eql (r := true) rfl rfl (by rw [show NL = [] from hb1]; rfl)) fun _ hS => ?_
    refine sI hS (runs_move rfl) fun _ hS => ?_
    refine sY hS (runs_move rfl) fun _ hS => ?_
    refine sY hS (runs_len rfl und32) fun _ hS => ?_
    refine sY hS (runs_eql (r := true) rfl rfl (by rw [show NS = [] from hb2]; rfl)) fun _ hS => ?_
    refine sI hS (runs_pick rfl rfl) fun _ hS => ?_
    refine sI hS (runs_assign rfl) fun _ hS => ?_
    exact nil_ok (qx_ret (ret1 (t := 8) (by kernel_rfl) hS rfl ⟨_, rfl, rfl, hB⟩))
  refine sI hS (runs_neq (r := false) rfl rfl (by simpa using he)) fun _ hS => ?_
  refine nil_ok (wp_cond_false (hS.eval rfl) (wp_skip (qx_seq (qx_seq (?_)))))
  have he0 : (nextL n es (kindL tg.data.toList) src steps at_ l).2.2 = 0 := by rw [hNx]; exact Classical.not_not.1 he
  have hln := next_length he0
  rw [hNx] at hln
  replace hln : NL.length = l.length := hln
  obtain ⟨_, _, _, hM1, hM2, -⟩ := id hM
  unfold maxLen at hM2
  refine reg_seq ?_
  refine sI hS (runs_assign rfl) fun _ hS => ?_
  refine nil_ok (?_)
  have hBo1 := hB
  refine qx_for (fun mm a w' => ∃ (q : Nat), q ≤ NL.length ∧ mm = NL.length - q ∧ Below w11.heap.size w11 w' ∧ Sees 106 [(12, .int .i64 (q : Int)), (10, .slice AM NS.length cM), (9, .slice AN NL.length cN), (3, .slice Al l.length cl)] a) NL.length ⟨0, by omega, by omega, Below.refl _ _, hS.only _ ⟨rfl, rfl, rfl, rfl, trivial⟩⟩ ?_
  clear hS
  rintro mm a wl1 ⟨q, hi1, rfl, hBl1, hS⟩
  have hN := hN.kept hBl1
  have hM := hM.kept hBl1
  have hB := Below.refl wl1.heap.size wl1
  refine reg_seq ?_
  refine sI hS (runs_move rfl) fun _ hS => ?_
  refine sI hS (runs_move rfl) fun _ hS => ?_
  refine sI hS (runs_len rfl undVx) fun _ hS => ?_
  by_cases hlt1 : q < NL.length
  · skip
    refine sI hS (lssT rfl rfl (by omega)) fun _ hS => ?_
    refine nil_ok ⟨_, hS.eval rfl, fun h => by simp at h, fun _ => ?_⟩
    have hns := next_sends he0 (v := q) (by omega)
    rw [hNx] at hns
    obtain ⟨x, hx, hid, hhas, hinn⟩ := hns
    replace hx : NL[q]? = some x := hx
    replace hhas : x.has = true ↔ ∃ m ∈ NS, m.2.1 = (q : Int) := hhas
    refine qx_seq (qx_block (qx_seq (reg_seq ?_)))
    refine sI hS (runs_assign rfl) fun _ hS => ?_
    refine nil_ok (qx_seq (qx_seq (reg_seq ?_)))
    refine sI hS (runs_assign rfl) fun _ hS => ?_
    refine nil_ok (?_)
    have hBo2 := hB
    refine qx_for (fun mm a w' => ∃ (i : Nat) (bb : Bool), i ≤ NS.length ∧ mm = NS.length - i ∧ Below wl1.heap.size wl1 w' ∧ bb = (NS.take i).any (fun m => m.2.1 == (q : Int)) ∧ Sees 106 [(14, .int .i64 (i : Int)), (13, .bool bb), (12, .int .i64 (q : Int)), (10, .slice AM NS.length cM), (9, .slice AN NL.length cN), (3, .slice Al l.length cl)] a) NS.length ⟨0, false, by omega, by omega, Below.refl _ _, by simp, hS.only _ ⟨rfl, rfl, rfl, rfl, rfl, rfl, trivial⟩⟩ ?_
    clear hS
    rintro mm a wl2 ⟨i, bb, hi2, rfl, hBl2, hF, hS⟩
    have hN := hN.kept hBl2
    have hM := hM.kept hBl2
    have hB := Below.refl wl2.heap.size wl2
    refine reg_seq ?_
    refine sI hS (runs_move rfl) fun _ hS => ?_
    refine sI hS (runs_move rfl) fun _ hS => ?_
    refine sI hS (runs_len rfl und32) fun _ hS => ?_
    by_cases hlt2 : i < NS.length
    · skip
      refine sI hS (lssT rfl rfl (by omega)) fun _ hS => ?_
      refine nil_ok ⟨_, hS.eval rfl, fun h => by simp at h, fun _ => ?_⟩
      obtain ⟨m, hm⟩ : ∃ m, NS[i]? = some m := ⟨NS[i], by simp [hlt2]⟩
      obtain ⟨b, o, hAe, hbw, hr⟩ := edges_row hM (by omega)
      have hre := edges_at hr hm
      refine qx_seq (qx_block (?_))
      cases hbb : bb with
      | true =>
        rw [hbb] at hS hF
        refine reg_seq ?_
        refine sI hS (runs_move rfl) fun _ hS => ?_
        refine sI hS (runs_move rfl) fun _ hS => ?_
        refine sN hS fun _ hS => ?_
        refine sN hS fun _ hS => ?_
        refine sN hS fun _ hS => ?_
        refine sN hS fun _ hS => ?_
        refine sN hS fun _ hS => ?_
        refine sN hS fun _ hS => ?_
        refine sN hS fun _ hS => ?_
        refine sI hS (runs_pick rfl rfl) fun _ hS => ?_
        refine sI hS (runs_assign rfl) fun _ hS => ?_
        refine nil_ok (reg_seq ?_)
        refine sI hS (runs_move rfl) fun _ hS => ?_
        refine sI hS (runs_add (r := ((i + 1 : Nat) : Int)) rfl rfl (by simp [IntKind.wrap, IntKind.bits, IntKind.signed]; omega)) fun _ hS => ?_
        refine sI hS (runs_assign rfl) fun _ hS => ?_
        exact nil_ok ⟨_, by omega, i + 1, true, by omega, rfl, hBl2.trans (hB.mono hBl2.size), by rw [anyM_take _ hm, ← hF]; rfl, hS.only _ ⟨rfl, rfl, rfl, rfl, rfl, rfl, trivial⟩⟩
      | false =>
        rw [hbb] at hS hF
        refine reg_seq ?_
        refine sI hS (runs_move rfl) fun _ hS => ?_
        refine sI hS (runs_move rfl) fun _ hS => ?_
        refine sY hS (runs_move rfl) fun _ hS => ?_
        refine sY hS (runs_move rfl) fun _ hS => ?_
        refine sY hS (runs_indexAddrG (j := i) (by rw [← hAe]; rfl) rfl und32 sz48 rfl hlt2) fun _ hS => ?_
        refine sY hS (runs_fieldK fo48_1 rfl) fun _ hS => ?_
        refine sY hS (runs_load rfl pl3 (hre 1 _ rfl)) fun _ hS => ?_
        refine sY hS (runs_move rfl) fun _ hS => ?_
        by_cases hmq : m.2.1 = (q : Int)
        · skip
          refine sY hS (runs_eql (r := true) rfl rfl (by simpa using hmq)) fun _ hS => ?_
          refine sI hS (runs_pick rfl rfl) fun _ hS => ?_
          refine sI hS (runs_assign rfl) fun _ hS => ?_
          refine nil_ok (reg_seq ?_)
          refine sI hS (runs_move rfl) fun _ hS => ?_
          refine sI hS (runs_add (r := ((i + 1 : Nat) : Int)) rfl rfl (by simp [IntKind.wrap, IntKind.bits, IntKind.signed]; omega)) fun _ hS => ?_
          refine sI hS (runs_assign rfl) fun _ hS => ?_
          exact nil_ok ⟨_, by omega, i + 1, true, by omega, rfl, hBl2.trans (hB.mono hBl2.size), by rw [anyM_take _ hm, ← hF]; simp [hmq], hS.only _ ⟨rfl, rfl, rfl, rfl, rfl, rfl, trivial⟩⟩
        refine sY hS (runs_eql (r := false) rfl rfl (by simpa using hmq)) fun _ hS => ?_
        refine sI hS (runs_pick rfl rfl) fun _ hS => ?_
        refine sI hS (runs_assign rfl) fun _ hS => ?_
        refine nil_ok (reg_seq ?_)
        refine sI hS (runs_move rfl) fun _ hS => ?_
        refine sI hS (runs_add (r := ((i + 1 : Nat) : Int)) rfl rfl (by simp [IntKind.wrap, IntKind.bits, IntKind.signed]; omega)) fun _ hS => ?_
        refine sI hS (runs_assign rfl) fun _ hS => ?_
        exact nil_ok ⟨_, by omega, i + 1, false, by omega, rfl, hBl2.trans (hB.mono hBl2.size), by rw [anyM_take _ hm, ← hF]; simp [hmq], hS.only _ ⟨rfl, rfl, rfl, rfl, rfl, rfl, trivial⟩⟩
    refine sI hS (lssF rfl rfl (by omega)) fun _ hS => ?_
    obtain rfl : i = NS.length := by omega
    refine nil_ok ⟨_, hS.eval rfl, fun _ => ?_, fun h => by simp at h⟩
    have hB := hBo2.trans ((hBl2.trans (hB.mono hBl2.size)).mono hBo2.size)
    rw [List.take_length] at hF
    refine qx_seq (?_)
    have hbx : x.has = bb := by rw [Bool.eq_iff_iff, hhas, hF, List.any_eq_true]; simp
    obtain ⟨b, o, hAe, hbw, hr⟩ := verts_row hN (by omega)
    have hrx := verts_at hr hx
    cases hbb : bb with
    | true =>
      rw [hbb] at hS hbx
      refine reg_seq ?_
      refine sI hS (runs_move rfl) fun _ hS => ?_
      refine sI hS (runs_move rfl) fun _ hS => ?_
      refine sI hS (runs_indexAddrG (j := q) (by rw [← hAe]; rfl) rfl undVx sz28 rfl hlt1) fun _ hS => ?_
      refine sI hS (runs_fieldK fo28_0 rfl) fun _ hS => ?_
      refine sI hS (runs_load rfl pl3 (hrx 0 _ rfl)) fun _ hS => ?_
      refine sI hS (runs_move rfl) fun _ hS => ?_
      refine sI hS (runs_neq (r := false) rfl rfl (by simp [hid])) fun _ hS => ?_
      refine sI hS (runs_move rfl) fun _ hS => ?_
      refine sY hS (runs_move rfl) fun _ hS => ?_
      refine sY hS (runs_move rfl) fun _ hS => ?_
      refine sY hS (runs_indexAddrG (j := q) (by rw [← hAe]; rfl) rfl undVx sz28 rfl hlt1) fun _ hS => ?_
      refine sY hS (runs_fieldK fo28_3 rfl) fun _ hS => ?_
      refine sY hS (runs_load rfl pl4 (hrx 3 _ rfl)) fun _ hS => ?_
      refine sY hS (runs_move rfl) fun _ hS => ?_
      refine sY hS (runs_neBool (r := false) rfl rfl (by rw [hbx]; rfl)) fun _ hS => ?_
      refine sI hS (runs_pick rfl rfl) fun _ hS => ?_
      refine sI hS (runs_move rfl) fun _ hS => ?_
      refine sY hS (runs_move rfl) fun _ hS => ?_
      refine sY hS (runs_not (b := true) rfl) fun _ hS => ?_
      refine sY hS (runs_move rfl) fun _ hS => ?_
      refine sN hS fun _ hS => ?_
      refine sN hS fun _ hS => ?_
      refine sN hS fun _ hS => ?_
      refine sN hS fun _ hS => ?_
      refine sN hS fun _ hS => ?_
      refine sN hS fun _ hS => ?_
      refine sY hS (runs_pick rfl rfl) fun _ hS => ?_
      refine sI hS (runs_pick rfl rfl) fun _ hS => ?_
      refine nil_ok (wp_cond_false (hS.eval rfl) (wp_skip (reg_seq ?_)))
      refine sI hS (runs_move rfl) fun _ hS => ?_
      refine sI hS (runs_add (r := ((q + 1 : Nat) : Int)) rfl rfl (by simp [IntKind.wrap, IntKind.bits, IntKind.signed]; omega)) fun _ hS => ?_
      refine sI hS (runs_assign rfl) fun _ hS => ?_
      exact nil_ok ⟨_, by omega, q + 1, by omega, rfl, hBl1.trans (hB.mono hBl1.size), hS.only _ ⟨rfl, rfl, rfl, rfl, trivial⟩⟩
    | false =>
      rw [hbb] at hS hbx
      have hin0 := hinn hbx
      refine reg_seq ?_
      refine sI hS (runs_move rfl) fun _ hS => ?_
      refine sI hS (runs_move rfl) fun _ hS => ?_
      refine sI hS (runs_indexAddrG (j := q) (by rw [← hAe]; rfl) rfl undVx sz28 rfl hlt1) fun _ hS => ?_
      refine sI hS (runs_fieldK fo28_0 rfl) fun _ hS => ?_
      refine sI hS (runs_load rfl pl3 (hrx 0 _ rfl)) fun _ hS => ?_
      refine sI hS (runs_move rfl) fun _ hS => ?_
      refine sI hS (runs_neq (r := false) rfl rfl (by simp [hid])) fun _ hS => ?_
      refine sI hS (runs_move rfl) fun _ hS => ?_
      refine sY hS (runs_move rfl) fun _ hS => ?_
      refine sY hS (runs_move rfl) fun _ hS => ?_
      refine sY hS (runs_indexAddrG (j := q) (by rw [← hAe]; rfl) rfl undVx sz28 rfl hlt1) fun _ hS => ?_
      refine sY hS (runs_fieldK fo28_3 rfl) fun _ hS => ?_
      refine sY hS (runs_load rfl pl4 (hrx 3 _ rfl)) fun _ hS => ?_
      refine sY hS (runs_move rfl) fun _ hS => ?_
      refine sY hS (runs_neBool (r := false) rfl rfl (by rw [hbx]; rfl)) fun _ hS => ?_
      refine sI hS (runs_pick rfl rfl) fun _ hS => ?_
      refine sI hS (runs_move rfl) fun _ hS => ?_
      refine sY hS (runs_move rfl) fun _ hS => ?_
      refine sY hS (runs_not (b := false) rfl) fun _ hS => ?_
      refine sY hS (runs_move rfl) fun _ hS => ?_
      refine sY hS (runs_move rfl) fun _ hS => ?_
      refine sY hS (runs_move rfl) fun _ hS => ?_
      refine sY hS (runs_indexAddrG (j := q) (by rw [← hAe]; rfl) rfl undVx sz28 rfl hlt1) fun _ hS => ?_
      refine sY hS (runs_fieldK fo28_4 rfl) fun _ hS => ?_
      refine sY hS (runs_load rfl pl2 (hrx 4 _ rfl)) fun _ hS => ?_
      refine sY hS (runs_neq (r := false) rfl rfl (by rw [hin0]; rfl)) fun _ hS => ?_
      refine sY hS (runs_pick rfl rfl) fun _ hS => ?_
      refine sI hS (runs_pick rfl rfl) fun _ hS => ?_
      refine nil_ok (wp_cond_false (hS.eval rfl) (wp_skip (reg_seq ?_)))
      refine sI hS (runs_move rfl) fun _ hS => ?_
      refine sI hS (runs_add (r := ((q + 1 : Nat) : Int)) rfl rfl (by simp [IntKind.wrap, IntKind.bits, IntKind.signed]; omega)) fun _ hS => ?_
      refine sI hS (runs_assign rfl) fun _ hS => ?_
      exact nil_ok ⟨_, by omega, q + 1, by omega, rfl, hBl1.trans (hB.mono hBl1.size), hS.only _ ⟨rfl, rfl, rfl, rfl, trivial⟩⟩
  refine sI hS (lssF rfl rfl (by omega)) fun _ hS => ?_
  obtain rfl : q = NL.length := by omega
  refine nil_ok ⟨_, hS.eval rfl, fun _ => ?_, fun h => by simp at h⟩
  have hB := hBo1.trans ((hBl1.trans (hB.mono hBl1.size)).mono hBo1.size)
  refine qx_seq (reg_seq ?_)
  refine sI hS (runs_move rfl) fun _ hS => ?_
  refine sI hS (runs_len rfl undVx) fun _ hS => ?_
  refine sI hS (runs_move rfl) fun _ hS => ?_
  refine sI hS (runs_len rfl undVx) fun _ hS => ?_
  refine sI hS (runs_eql (r := true) rfl rfl (by rw [hln]; simp)) fun _ hS => ?_
  refine sI hS (runs_assign rfl) fun _ hS => ?_
  exact nil_ok (qx_ret (ret1 (t := 8) (by kernel_rfl) hS rfl ⟨_, rfl, rfl, hB⟩))
end Go.Proofs.Ytapcpmalgdhakaa
