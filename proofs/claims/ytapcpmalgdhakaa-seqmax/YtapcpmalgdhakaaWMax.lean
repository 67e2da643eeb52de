/- modillionlaw09.SeqMax, walked. Conditions: none of our own. -/
import Derived.Test.YtapcpmalgdhakaaNFacts
namespace Go.Proofs.Ytapcpmalgdhakaa
open Go.RowKit
set_option maxRecDepth 100000

theorem max_kind9 : kindL (⟨#[109, 97, 120]⟩ : ByteArray).data.toList = 1 := by decide
theorem anyV_take {l : List Vx} {i : Nat} {m : Vx} (p : Vx → Bool) (h : l[i]? = some m) : (l.take (i + 1)).any p = ((l.take i).any p || p m) := by
  rw [List.take_add_one, h, Option.toList_some, List.any_append]; simp
set_option maxHeartbeats 2000000 in
theorem max9_any (n : Int) (es : List E) (v : Value) (w : World) (hE : Edges w v es) : Ans 9 [gv n v] w (fun u w' => u = .bool true ∧ Below w.heap.size w w') := by
  obtain ⟨Ag, cg, rfl, hg1, hg2, hgA⟩ := hE
  have hE : Edges w (.slice Ag es.length cg) es := ⟨Ag, cg, rfl, hg1, hg2, hgA⟩
  clear hgA
  refine calls_qx (args := [gv n (.slice Ag es.length cg)]) 117 Try.func9 rfl (by kernel_rfl) (by simp) (fun a hS => ?_)
  have hB := Below.refl w.heap.size w
  have hEb := hE
  refine qx_seq (reg_seq ?_)
  refine seq_op hS (by decide) (runs_boxB (cs := [.int .i64 n, .slice Ag es.length cg]) rfl rfl) (fun v1 w1 a1 hp hS => ?_)
  obtain ⟨rfl, hM1, hB1⟩ := hp
  have hB := hB.trans (hB1.mono hB.size)
  have hE := hEb.kept hB
  refine sI hS (runs_assign rfl) fun _ hS => ?_
  refine nil_ok (qx_seq (qx_seq (reg_seq ?_)))
  refine seq_op hS (by decide) (runs_call (args := []) goes11 rfl (awake_any w1)) (fun v3 w3 a1 hp hS => ?_)
  obtain ⟨rfl, hB3⟩ := hp
  have hB := hB.trans (hB3.mono hB.size)
  have hM1 := hM1.below hB3 hM1.lt
  have hE := hEb.kept hB
  refine sI hS (runs_not (b := true) rfl) fun _ hS => ?_
  refine sI hS (runs_move rfl) fun _ hS => ?_
  refine sY hS (runs_fieldK fo24_1 rfl) fun _ hS => ?_
  refine sY hS (runs_load rfl pl22 (hM1.at rfl)) fun _ hS => ?_
  refine sY hS (runs_len rfl und22) fun _ hS => ?_
  by_cases h60 : ((es.length : Nat) : Int) > 60
  · skip
    refine sY hS (gtrT rfl rfl (by omega)) fun _ hS => ?_
    refine sI hS (runs_pick rfl rfl) fun _ hS => ?_
    refine sI hS (runs_move rfl) fun _ hS => ?_
    refine sN hS fun _ hS => ?_
    refine sN hS fun _ hS => ?_
    refine sN hS fun _ hS => ?_
    refine sI hS (runs_pick rfl rfl) fun _ hS => ?_
    refine nil_ok (wp_cond_true (hS.eval rfl) (qx_seq (reg_seq ?_)))
    refine seq_op hS (by decide) (runs_call (args := []) goes11 rfl (awake_any w3)) (fun v5 w5 a1 hp hS => ?_)
    obtain ⟨rfl, hB5⟩ := hp
    have hB := hB.trans (hB5.mono hB.size)
    have hM1 := hM1.below hB5 hM1.lt
    have hE := hEb.kept hB
    refine sI hS (runs_assign rfl) fun _ hS => ?_
    exact nil_ok (qx_ret (ret1 (t := 2) (by kernel_rfl) hS rfl ⟨_, rfl, rfl, hB⟩))
  refine sY hS (gtrF rfl rfl (by omega)) fun _ hS => ?_
  refine sI hS (runs_pick rfl rfl) fun _ hS => ?_
  refine sI hS (runs_move rfl) fun _ hS => ?_
  refine sY hS (runs_fieldK fo24_0 rfl) fun _ hS => ?_
  refine sY hS (runs_load rfl pl3 (hM1.at rfl)) fun _ hS => ?_
  by_cases h12 : n > 12
  · skip
    refine sY hS (gtrT rfl rfl (by omega)) fun _ hS => ?_
    refine sI hS (runs_pick rfl rfl) fun _ hS => ?_
    refine nil_ok (wp_cond_true (hS.eval rfl) (qx_seq (reg_seq ?_)))
    refine seq_op hS (by decide) (runs_call (args := []) goes11 rfl (awake_any w3)) (fun v7 w7 a1 hp hS => ?_)
    obtain ⟨rfl, hB7⟩ := hp
    have hB := hB.trans (hB7.mono hB.size)
    have hM1 := hM1.below hB7 hM1.lt
    have hE := hEb.kept hB
    refine sI hS (runs_assign rfl) fun _ hS => ?_
    exact nil_ok (qx_ret (ret1 (t := 2) (by kernel_rfl) hS rfl ⟨_, rfl, rfl, hB⟩))
  refine sY hS (gtrF rfl rfl (by omega)) fun _ hS => ?_
  refine sI hS (runs_pick rfl rfl) fun _ hS => ?_
  refine nil_ok (wp_cond_false (hS.eval rfl) (wp_skip (qx_seq (reg_seq ?_))))
  refine sI hS (runs_buildK (pv := [(0, .string ⟨#[109, 97, 120]⟩), (2, .int .i64 20)]) (cells := #[.string ⟨#[109, 97, 120]⟩, .int .i64 0, .int .i64 20]) rfl (by kernel_rfl)) fun _ hS => ?_
  refine seq_op hS (by decide) (runs_allocB (cs := [.string ByteArray.empty, .int .i64 0, .int .i64 0]) zo26 rfl) (fun v9 w9 a1 hp hS => ?_)
  obtain ⟨rfl, hM9, hB9⟩ := hp
  have hLhM9 : w.heap.size ≤ w3.heap.size := hB.size
  have hB := hB.trans (hB9.mono hB.size)
  have hM1 := hM1.below hB9 hM1.lt
  have hE := hEb.kept hB
  refine seq_none hS (runs_storeB (cs := [.string ⟨#[109, 97, 120]⟩, .int .i64 0, .int .i64 20]) rfl rfl hM9 rfl rfl sz26) (fun v11 w11 a1 hp hS => ?_)
  have hQ11 := hM9
  obtain ⟨hM9, hU11⟩ := hp
  have hB := But.new hB hU11 (fun i e => by rw [e]; exact hLhM9) (Nat.le_refl _)
  have hM1 := hM1.but hU11 (has_ne hM1 hQ11 (by decide))
  have hE := hEb.kept hB
  refine nil_ok (qx_seq (?_))
  obtain ⟨XL, XN, XE, hW⟩ : ∃ a b c, wholeL n es 1 0 20 = (a, b, c) := ⟨_, _, _, rfl⟩
  obtain ⟨SL, hSL⟩ : ∃ l, (if jobB n es 1 0 20 = true then startL n 1 0 else []) = l := ⟨_, rfl⟩
  obtain ⟨SE, hSE⟩ : ∃ e : Int, (if jobB n es 1 0 20 = true then 0 else 70) = e := ⟨_, rfl⟩
  refine reg_guard (fun w' => Below w11.heap.size w11 w') [.inl (gv n (.slice Ag es.length cg)), .inr (fun v w' => ∃ y, v = gv n y ∧ Edges w' y es), .inl (.agg #[.string ⟨#[109, 97, 120]⟩, .int .i64 0, .int .i64 20]), .inr (fun v w' => ∃ (x0 : Value), v = .tuple #[x0, .int .i64 SE] ∧ Verts w' x0 SL), .inr (fun v w' => ∃ (x0 : Value), v = .tuple #[x0, .int .i64 SE] ∧ Verts w' x0 SL), .inr (fun v w' => Verts w' v SL), .inl (.int .i64 SE), .inr (fun v w' => Verts w' v SL), .inl (.int .i64 SE)] 9 0 mixed rfl (by kernel_rfl) hS (Below.refl _ _) (fun _ h => h.drew) ?_
  refine hs_is rfl (fun w' hw => runs_loadRow rfl (hM1.below hw hM1.lt) Try.underlying24 rfl (by rw [sz24]; rfl)) ?_
  refine hs_pr rfl (fun _ _ _ h hb => by obtain ⟨y, h1, h2⟩ := h; exact ⟨y, h1, h2.kept hb⟩) (fun w' hw hq => (runs_call (args := [gv n (.slice Ag es.length cg)]) goes13 rfl (own_any n es (by omega) _ w' (hE.kept hw))).mono (by rintro u w3 ⟨hb, y, h1, h2⟩; exact ⟨⟨y, h1, h2.edges⟩, hw.trans (hb.mono hw.size), hb⟩)) (fun u1 => ?_)
  refine hs_is rfl (fun w' hw => runs_loadRow rfl (hM9.below hw hM9.lt) Try.underlying26 rfl (by rw [sz26]; rfl)) ?_
  refine hs_pr rfl (fun _ _ _ h hb => by obtain ⟨x0, he, h0⟩ := h; exact ⟨x0, he, h0.kept hb⟩) (fun w' hw hq => (by obtain ⟨y, rfl, hy⟩ := hq (1, _) List.mem_cons_self (by kernel_rfl); exact (runs_call (args := [gv n y, .agg #[.string ⟨#[109, 97, 120]⟩, .int .i64 0, .int .i64 20]]) goes12 rfl (start_is w' hy max_kind9 hSL hSE)).mono (by rintro v w5 ⟨x0, rfl, h0, hb⟩; exact ⟨⟨x0, rfl, h0⟩, hw.trans (hb.mono hw.size), hb⟩))) (fun vc1 => ?_)
  refine hs_pr rfl (fun _ _ _ h hb => by obtain ⟨x0, he, h0⟩ := h; exact ⟨x0, he, h0.kept hb⟩) (fun w' hw hq => (by have h := hq (3, _) List.mem_cons_self (by kernel_rfl); exact (runs_move rfl).mono (by rintro v w5 ⟨rfl, rfl⟩; exact ⟨h, hw, Below.refl _ _⟩))) (fun vc2 => ?_)
  refine hs_pr rfl (fun _ _ _ h hb => h.kept hb) (fun w' hw hq => (by obtain ⟨x0, rfl, h0⟩ := hq (4, _) List.mem_cons_self (by kernel_rfl); exact (runs_extract rfl rfl).mono (by rintro v w5 ⟨rfl, rfl⟩; exact ⟨h0, hw, Below.refl _ _⟩))) (fun ve0 => ?_)
  refine hs_val rfl (fun w' hw hq => (by obtain ⟨x0, rfl, h0⟩ := hq (4, _) (List.mem_cons_of_mem _ List.mem_cons_self) (by kernel_rfl); exact (runs_extract rfl rfl).mono (by rintro v w5 ⟨rfl, rfl⟩; exact ⟨rfl, hw, Below.refl _ _⟩))) ?_
  refine hs_pr rfl (fun _ _ _ h hb => h.kept hb) (fun w' hw hq => (by have h := hq (5, _) List.mem_cons_self (by kernel_rfl); exact (runs_assign rfl).mono (by rintro v w5 ⟨rfl, rfl⟩; exact ⟨h, hw, Below.refl _ _⟩))) (fun va0 => ?_)
  refine hs_is rfl (fun w' hw => runs_assign rfl) ?_
  refine (fun a13 w13 hS hB13 hq => ?_)




  have hV := (hq (7, _) List.mem_cons_self)
  obtain ⟨AV, cV, hsV, -, hcV, -⟩ := id hV
  subst hsV
  clear hq
  have hB := hB.trans (hB13.mono hB.size)
  have hM1 := hM1.below hB13 hM1.lt
  have hM9 := hM9.below hB13 hM9.lt
  have hE := hEb.kept hB
  refine wpAnyH_done (by kernel_rfl) ?_ _
  refine qx_seq (reg_guard (fun w' => Below w13.heap.size w13 w') [.inl (gv n (.slice Ag es.length cg)), .inr (fun v w' => ∃ y, v = gv n y ∧ Edges w' y es), .inl (.agg #[.string ⟨#[109, 97, 120]⟩, .int .i64 0, .int .i64 20]), .inr (fun v w' => ∃ (x0 : Value), v = .tuple #[x0, .int .i64 ((XN : Nat) : Int), .int .i64 XE] ∧ Nums w' x0 XL), .inr (fun v w' => ∃ (x0 : Value), v = .tuple #[x0, .int .i64 ((XN : Nat) : Int), .int .i64 XE] ∧ Nums w' x0 XL), .inr (fun v w' => Nums w' v XL), .inl (.int .i64 ((XN : Nat) : Int)), .inl (.int .i64 XE), .inr (fun v w' => Nums w' v XL), .inl (.int .i64 ((XN : Nat) : Int)), .inl (.int .i64 XE)] 11 0 mixed rfl (by kernel_rfl) hS (Below.refl _ _) (fun _ h => h.drew) ?_)
  refine hs_is rfl (fun w' hw => runs_loadRow rfl (hM1.below hw hM1.lt) Try.underlying24 rfl (by rw [sz24]; rfl)) ?_
  refine hs_pr rfl (fun _ _ _ h hb => by obtain ⟨y, h1, h2⟩ := h; exact ⟨y, h1, h2.kept hb⟩) (fun w' hw hq => (runs_call (args := [gv n (.slice Ag es.length cg)]) goes13 rfl (own_any n es (by omega) _ w' (hE.kept hw))).mono (by rintro u w3 ⟨hb, y, h1, h2⟩; exact ⟨⟨y, h1, h2.edges⟩, hw.trans (hb.mono hw.size), hb⟩)) (fun u1 => ?_)
  refine hs_is rfl (fun w' hw => runs_loadRow rfl (hM9.below hw hM9.lt) Try.underlying26 rfl (by rw [sz26]; rfl)) ?_
  refine hs_pr rfl (fun _ _ _ h hb => by obtain ⟨x0, he, h0⟩ := h; exact ⟨x0, he, h0.kept hb⟩) (fun w' hw hq => (by obtain ⟨y, rfl, hy⟩ := hq (1, _) List.mem_cons_self (by kernel_rfl); exact (runs_call (args := [gv n y, .agg #[.string ⟨#[109, 97, 120]⟩, .int .i64 0, .int .i64 20]]) goes14 rfl (whole_is (by omega) w' hy max_kind9 hW)).mono (by rintro v w5 ⟨x0, rfl, h0, hb⟩; exact ⟨⟨x0, rfl, h0⟩, hw.trans (hb.mono hw.size), hb⟩))) (fun vc1 => ?_)
  refine hs_pr rfl (fun _ _ _ h hb => by obtain ⟨x0, he, h0⟩ := h; exact ⟨x0, he, h0.kept hb⟩) (fun w' hw hq => (by have h := hq (3, _) List.mem_cons_self (by kernel_rfl); exact (runs_move rfl).mono (by rintro v w5 ⟨rfl, rfl⟩; exact ⟨h, hw, Below.refl _ _⟩))) (fun vc2 => ?_)
  refine hs_pr rfl (fun _ _ _ h hb => h.kept hb) (fun w' hw hq => (by obtain ⟨x0, rfl, h0⟩ := hq (4, _) List.mem_cons_self (by kernel_rfl); exact (runs_extract rfl rfl).mono (by rintro v w5 ⟨rfl, rfl⟩; exact ⟨h0, hw, Below.refl _ _⟩))) (fun ve0 => ?_)
  refine hs_val rfl (fun w' hw hq => (by obtain ⟨x0, rfl, h0⟩ := hq (4, _) (List.mem_cons_of_mem _ List.mem_cons_self) (by kernel_rfl); exact (runs_extract rfl rfl).mono (by rintro v w5 ⟨rfl, rfl⟩; exact ⟨rfl, hw, Below.refl _ _⟩))) ?_
  refine hs_val rfl (fun w' hw hq => (by obtain ⟨x0, rfl, h0⟩ := hq (4, _) (List.mem_cons_of_mem _ List.mem_cons_self) (by kernel_rfl); exact (runs_extract rfl rfl).mono (by rintro v w5 ⟨rfl, rfl⟩; exact ⟨rfl, hw, Below.refl _ _⟩))) ?_
  refine hs_pr rfl (fun _ _ _ h hb => h.kept hb) (fun w' hw hq => (by have h := hq (5, _) List.mem_cons_self (by kernel_rfl); exact (runs_assign rfl).mono (by rintro v w5 ⟨rfl, rfl⟩; exact ⟨h, hw, Below.refl _ _⟩))) (fun va0 => ?_)
  refine hs_is rfl (fun w' hw => runs_assign rfl) ?_
  refine hs_is rfl (fun w' hw => runs_assign rfl) ?_
  refine (fun a15 w15 hS hB15 hq => ?_)




  have hX := (hq (8, _) List.mem_cons_self)
  obtain ⟨AX, cX, hsX, -, hcX, -⟩ := id hX
  subst hsX
  clear hq
  have hB := hB.trans (hB15.mono hB.size)
  have hM1 := hM1.below hB15 hM1.lt
  have hE := hEb.kept hB
  have hV := hV.kept hB15
  refine wpAnyH_done (by kernel_rfl) ?_ _
  refine qx_seq (qx_seq (reg_seq ?_))
  refine sI hS (runs_move rfl) fun _ hS => ?_
  by_cases hse : SE ≠ 0
  · skip
    refine sI hS (runs_neq (r := true) rfl rfl (by simpa using hse)) fun _ hS => ?_
    refine sI hS (runs_move rfl) fun _ hS => ?_
    refine sN hS fun _ hS => ?_
    refine sN hS fun _ hS => ?_
    refine sI hS (runs_pick rfl rfl) fun _ hS => ?_
    refine nil_ok (wp_cond_true (hS.eval rfl) (qx_seq (?_)))
    have he : XE ≠ 0 := by
      by_cases hj : jobB n es 1 0 20 = true
      · rw [if_pos hj] at hSE; exact absurd hSE.symm hse
      · have h : wholeL n es 1 0 20 = ([], 0, 70) := if_neg hj
        rw [hW] at h
        simp only [Prod.mk.injEq] at h
        omega
    have hXe : XL = [] := by have h := whole_bad (n := n) (es := es) (k := 1) (src := 0) (steps := 20) (by rw [hW]; exact he); rw [hW] at h; exact h
    refine reg_seq ?_
    refine sI hS (runs_move rfl) fun _ hS => ?_
    refine sI hS (runs_len rfl undI64) fun _ hS => ?_
    refine sI hS (runs_eql (r := true) rfl rfl (by rw [hXe]; rfl)) fun _ hS => ?_
    refine sI hS (runs_assign rfl) fun _ hS => ?_
    exact nil_ok (qx_ret (ret1 (t := 2) (by kernel_rfl) hS rfl ⟨_, rfl, rfl, hB⟩))
  refine sI hS (runs_neq (r := false) rfl rfl (by simpa using hse)) fun _ hS => ?_
  refine sI hS (runs_move rfl) fun _ hS => ?_
  refine sY hS (runs_move rfl) fun _ hS => ?_
  by_cases he : XE ≠ 0
  · skip
    refine sY hS (runs_neq (r := true) rfl rfl (by simpa using he)) fun _ hS => ?_
    refine sI hS (runs_pick rfl rfl) fun _ hS => ?_
    refine nil_ok (wp_cond_true (hS.eval rfl) (qx_seq (?_)))
    have hXe : XL = [] := by have h := whole_bad (n := n) (es := es) (k := 1) (src := 0) (steps := 20) (by rw [hW]; exact he); rw [hW] at h; exact h
    refine reg_seq ?_
    refine sI hS (runs_move rfl) fun _ hS => ?_
    refine sI hS (runs_len rfl undI64) fun _ hS => ?_
    refine sI hS (runs_eql (r := true) rfl rfl (by rw [hXe]; rfl)) fun _ hS => ?_
    refine sI hS (runs_assign rfl) fun _ hS => ?_
    exact nil_ok (qx_ret (ret1 (t := 2) (by kernel_rfl) hS rfl ⟨_, rfl, rfl, hB⟩))
  refine sY hS (runs_neq (r := false) rfl rfl (by simpa using he)) fun _ hS => ?_
  refine sI hS (runs_pick rfl rfl) fun _ hS => ?_
  refine nil_ok (wp_cond_false (hS.eval rfl) (wp_skip (qx_seq (qx_seq (?_)))))
  obtain rfl : XE = 0 := Classical.not_not.1 he
  obtain ⟨f, hn1, hXl, hXv, hfb, hed, hmx⟩ := max_facts (by omega) hW
  unfold maxLen at hcX hcV
  have hj : jobB n es 1 0 20 = true := whole_job (by rw [hW])
  rw [if_pos hj] at hSL
  have hSl : SL.length = n.toNat := by rw [← hSL]; exact start_length n 1 0
  have hSv : ∀ u, u < n.toNat → SL[u]? = some ⟨(u : Int), firstV 1 0 u, true, false, 0⟩ := fun u hu => by rw [← hSL]; exact start_get hu
  refine reg_seq ?_
  refine sI hS (runs_assign rfl) fun _ hS => ?_
  refine nil_ok (?_)
  have hBo1 := hB
  refine qx_for (fun mm a w' => ∃ (i : Nat), i ≤ es.length ∧ mm = es.length - i ∧ Below w15.heap.size w15 w' ∧ Sees 117 [(9, .int .i64 (i : Int)), (1, .pointer (some ⟨w.heap.size, 0, none⟩)), (4, .slice AV SL.length cV), (6, .slice AX XL.length cX)] a) es.length ⟨0, by omega, by omega, Below.refl _ _, hS.only _ ⟨rfl, rfl, rfl, rfl, trivial⟩⟩ ?_
  clear hS
  rintro mm a wl1 ⟨i, hi1, rfl, hBl1, hS⟩
  have hM1 := hM1.below hBl1 hM1.lt
  have hE := hE.kept hBl1
  have hV := hV.kept hBl1
  have hX := hX.kept hBl1
  have hB := Below.refl wl1.heap.size wl1
  have hVb1 := hV
  have hXb1 := hX
  refine reg_seq ?_
  refine sI hS (runs_move rfl) fun _ hS => ?_
  refine sI hS (runs_fieldK fo24_1 rfl) fun _ hS => ?_
  refine sI hS (runs_load rfl pl22 (hM1.at rfl)) fun _ hS => ?_
  refine sI hS (runs_len rfl und22) fun _ hS => ?_
  by_cases hlt1 : i < es.length
  · skip
    refine sI hS (lssT rfl rfl (by omega)) fun _ hS => ?_
    refine nil_ok ⟨_, hS.eval rfl, fun h => by simp at h, fun _ => ?_⟩
    obtain ⟨e, hei⟩ : ∃ e, es[i]? = some e := ⟨es[i], by simp [hlt1]⟩
    obtain ⟨a, b, c, rfl, hab, hbb, hc0, hc1, hst⟩ := hed e (List.mem_of_getElem? hei)
    obtain ⟨be, oe, hAge, hbwe, hre⟩ := edges_row hE (by omega)
    have hree := edges_at hre hei
    obtain ⟨bx, ox, hAxx, hbwx, hrx⟩ := nums_row hX (by omega)
    have hrnx := nums_at hrx (hXv a hab)
    have hrny := nums_at hrx (hXv b hbb)
    refine qx_seq (qx_block (qx_seq (reg_guard (fun w' => Below wl1.heap.size wl1 w') [.inl (.slice AX XL.length cX), .inl (.pointer (some ⟨w.heap.size, 0 + 1, none⟩)), .inl (.slice Ag es.length cg), .inl (.int .i64 (i : Int)), .inl (.pointer (some ⟨be, oe + i * 3, none⟩)), .inl (.pointer (some ⟨be, oe + i * 3 + 1, none⟩)), .inl (.int .i64 (b : Int)), .inl (.pointer (some ⟨bx, ox + b * 1, none⟩)), .inl (.int .i64 (f b)), .inl (.slice AX XL.length cX), .inl (.pointer (some ⟨w.heap.size, 0 + 1, none⟩)), .inl (.slice Ag es.length cg), .inl (.int .i64 (i : Int)), .inl (.pointer (some ⟨be, oe + i * 3, none⟩)), .inl (.pointer (some ⟨be, oe + i * 3 + 0, none⟩)), .inl (.int .i64 (a : Int)), .inl (.pointer (some ⟨bx, ox + a * 1, none⟩)), .inl (.int .i64 (f a)), .inl (.bool false)] 19 0 mixed rfl (by kernel_rfl) hS (Below.refl _ _) (fun _ h => h.drew) ?_)))
    refine hs_is rfl (fun w' hw => runs_move rfl) ?_
    refine hs_is rfl (fun w' hw => runs_fieldK fo24_1 rfl) ?_
    refine hs_is rfl (fun w' hw => runs_load rfl pl22 ((hM1.below hw hM1.lt).at rfl)) ?_
    refine hs_is rfl (fun w' hw => runs_move rfl) ?_
    refine hs_is rfl (fun w' hw => runs_indexAddrG (j := i) (by rw [← hAge]; rfl) rfl und22 siz45 rfl hlt1) ?_
    refine hs_is rfl (fun w' hw => runs_fieldK fo46_1 rfl) ?_
    refine hs_is rfl (fun w' hw => runs_load rfl pl3 ((range_below hree hw hbwe) 1 (.int .i64 (b : Int)) rfl)) ?_
    refine hs_is rfl (fun w' hw => runs_indexAddrG (j := b) (by rw [← hAxx]; rfl) rfl undI64 siz2 rfl (by omega)) ?_
    refine hs_is rfl (fun w' hw => runs_load rfl pl2 ((range_below hrny hw hbwx) 0 _ rfl)) ?_
    refine hs_is rfl (fun w' hw => runs_move rfl) ?_
    refine hs_is rfl (fun w' hw => runs_fieldK fo24_1 rfl) ?_
    refine hs_is rfl (fun w' hw => runs_load rfl pl22 ((hM1.below hw hM1.lt).at rfl)) ?_
    refine hs_is rfl (fun w' hw => runs_move rfl) ?_
    refine hs_is rfl (fun w' hw => runs_indexAddrG (j := i) (by rw [← hAge]; rfl) rfl und22 siz45 rfl hlt1) ?_
    refine hs_is rfl (fun w' hw => runs_fieldK fo46_0 rfl) ?_
    refine hs_is rfl (fun w' hw => runs_load rfl pl3 ((range_below hree hw hbwe) 0 (.int .i64 (a : Int)) rfl)) ?_
    refine hs_is rfl (fun w' hw => runs_indexAddrG (j := a) (by rw [← hAxx]; rfl) rfl undI64 siz2 rfl (by omega)) ?_
    refine hs_is rfl (fun w' hw => runs_load rfl pl2 ((range_below hrnx hw hbwx) 0 _ rfl)) ?_
    refine hs_is rfl (fun w' hw => runs_lss (r := false) rfl rfl (decide_eq_false (by omega))) ?_
    refine (fun a17 w17 hS hB17 hq => ?_)
    clear hq
    have hB := hB.trans (hB17.mono hB.size)
    have hV := hVb1.kept hB
    have hX := hXb1.kept hB
    refine wpAnyH_done (by kernel_rfl) ?_ _
    refine wp_cond_false (hS.eval rfl) (wp_skip (reg_seq ?_))
    refine sI hS (runs_move rfl) fun _ hS => ?_
    refine sI hS (runs_add (r := ((i + 1 : Nat) : Int)) rfl rfl (by simp [IntKind.wrap, IntKind.bits, IntKind.signed]; omega)) fun _ hS => ?_
    refine sI hS (runs_assign rfl) fun _ hS => ?_
    exact nil_ok ⟨_, by omega, i + 1, by omega, rfl, hBl1.trans (hB.mono hBl1.size), hS.only _ ⟨rfl, rfl, rfl, rfl, trivial⟩⟩
  refine sI hS (lssF rfl rfl (by omega)) fun _ hS => ?_
  obtain rfl : i = es.length := by omega
  refine nil_ok ⟨_, hS.eval rfl, fun _ => ?_, fun h => by simp at h⟩
  have hB := hBo1.trans ((hBl1.trans (hB.mono hBl1.size)).mono hBo1.size)
  refine qx_seq (qx_seq (reg_seq ?_))
  refine sI hS (runs_assign rfl) fun _ hS => ?_
  refine nil_ok (?_)
  have hBo1 := hB
  refine qx_for (fun mm a w' => ∃ (q : Nat), q ≤ XL.length ∧ mm = XL.length - q ∧ Below wl1.heap.size wl1 w' ∧ Sees 117 [(10, .int .i64 (q : Int)), (1, .pointer (some ⟨w.heap.size, 0, none⟩)), (4, .slice AV SL.length cV), (6, .slice AX XL.length cX)] a) XL.length ⟨0, by omega, by omega, Below.refl _ _, hS.only _ ⟨rfl, rfl, rfl, rfl, trivial⟩⟩ ?_
  clear hS
  rintro mm a wl1 ⟨q, hi1, rfl, hBl1, hS⟩
  have hV := hV.kept hBl1
  have hX := hX.kept hBl1
  have hB := Below.refl wl1.heap.size wl1
  refine reg_seq ?_
  refine sI hS (runs_move rfl) fun _ hS => ?_
  refine sI hS (runs_move rfl) fun _ hS => ?_
  refine sI hS (runs_len rfl undI64) fun _ hS => ?_
  by_cases hlt1 : q < XL.length
  · skip
    refine sI hS (lssT rfl rfl (by omega)) fun _ hS => ?_
    refine nil_ok ⟨_, hS.eval rfl, fun h => by simp at h, fun _ => ?_⟩
    have hqn : q < n.toNat := by omega
    refine qx_seq (qx_block (qx_seq (reg_seq ?_)))
    refine sI hS (runs_assign rfl) fun _ hS => ?_
    refine nil_ok (qx_seq (qx_seq (reg_seq ?_)))
    refine sI hS (runs_assign rfl) fun _ hS => ?_
    refine nil_ok (?_)
    have hBo2 := hB
    refine qx_for (fun mm a w' => ∃ (i : Nat) (bb : Bool), i ≤ SL.length ∧ mm = SL.length - i ∧ Below wl1.heap.size wl1 w' ∧ bb = (SL.take i).any (fun y : Vx => y.val == f q) ∧ Sees 117 [(12, .int .i64 (i : Int)), (11, .bool bb), (10, .int .i64 (q : Int)), (1, .pointer (some ⟨w.heap.size, 0, none⟩)), (4, .slice AV SL.length cV), (6, .slice AX XL.length cX)] a) SL.length ⟨0, _, by omega, by omega, Below.refl _ _, by simp, hS.only _ ⟨rfl, rfl, rfl, rfl, rfl, rfl, trivial⟩⟩ ?_
    clear hS
    rintro mm a wl2 ⟨i, bb, hi2, rfl, hBl2, hF, hS⟩
    have hV := hV.kept hBl2
    have hX := hX.kept hBl2
    have hB := Below.refl wl2.heap.size wl2
    have hVb2 := hV
    have hXb2 := hX
    refine reg_seq ?_
    refine sI hS (runs_move rfl) fun _ hS => ?_
    refine sI hS (runs_move rfl) fun _ hS => ?_
    refine sI hS (runs_len rfl undVx) fun _ hS => ?_
    by_cases hlt2 : i < SL.length
    · skip
      refine sI hS (lssT rfl rfl (by omega)) fun _ hS => ?_
      refine nil_ok ⟨_, hS.eval rfl, fun h => by simp at h, fun _ => ?_⟩
      obtain ⟨bv, ov, hAv, hbwv, hrv⟩ := verts_row hV (by omega)
      have hrvx := verts_at hrv (hSv i (by omega))
      obtain ⟨bx, ox, hAxx, hbwx, hrx⟩ := nums_row hX (by omega)
      have hrnx := nums_at hrx (hXv q hqn)
      refine qx_seq (qx_block (?_))
      cases hbb : bb with
      | true =>
        rw [hbb] at hS hF
        refine reg_guard (fun w' => Below wl2.heap.size wl2 w') [.inl (.bool true), .inl (.bool true), .inl undef, .inl undef, .inl undef, .inl undef, .inl undef, .inl undef, .inl undef, .inl undef, .inl undef, .inl undef, .inl (.bool true)] 13 1 mixed rfl (by kernel_rfl) hS (Below.refl _ _) (fun _ h => h.drew) ?_
        refine hs_is rfl (fun w' hw => runs_move rfl) ?_
        refine hs_is rfl (fun w' hw => runs_move rfl) ?_
        refine hs_no rfl rfl rfl ?_
        refine hs_no rfl rfl rfl ?_
        refine hs_no rfl rfl rfl ?_
        refine hs_no rfl rfl rfl ?_
        refine hs_no rfl rfl rfl ?_
        refine hs_no rfl rfl rfl ?_
        refine hs_no rfl rfl rfl ?_
        refine hs_no rfl rfl rfl ?_
        refine hs_no rfl rfl rfl ?_
        refine hs_no rfl rfl rfl ?_
        refine hs_is rfl (fun w' hw => runs_pick rfl rfl) ?_
        refine (fun a19 w19 hS hB19 hq => ?_)
        clear hq
        have hB := hB.trans (hB19.mono hB.size)
        have hV := hVb2.kept hB
        have hX := hXb2.kept hB
        refine tail_op 13 (by kernel_rfl) rfl hS (by decide) (runs_assign rfl) (fun v21 w21 a21 hp hS => ⟨trivial, ?_⟩)
        obtain ⟨rfl, rfl⟩ := hp
        refine wpAnyH_done (by kernel_rfl) ?_ _
        refine reg_seq ?_
        refine sI hS (runs_move rfl) fun _ hS => ?_
        refine sI hS (runs_add (r := ((i + 1 : Nat) : Int)) rfl rfl (by simp [IntKind.wrap, IntKind.bits, IntKind.signed]; omega)) fun _ hS => ?_
        refine sI hS (runs_assign rfl) fun _ hS => ?_
        exact nil_ok ⟨_, by omega, i + 1, true, by omega, rfl, hBl2.trans (hB.mono hBl2.size), by rw [anyV_take _ (hSv i (by omega)), ← hF]; rfl, hS.only _ ⟨rfl, rfl, rfl, rfl, rfl, rfl, trivial⟩⟩
      | false =>
        rw [hbb] at hS hF
        by_cases hfi : firstV 1 0 (i : Int) = f q
        · skip
          refine reg_guard (fun w' => Below wl2.heap.size wl2 w') [.inl (.bool false), .inl (.bool false), .inl (.slice AV SL.length cV), .inl (.int .i64 (i : Int)), .inl (.pointer (some ⟨bv, ov + i * 5, none⟩)), .inl (.pointer (some ⟨bv, ov + i * 5 + 1, none⟩)), .inl (.int .i64 (firstV 1 0 (i : Int))), .inl (.slice AX XL.length cX), .inl (.int .i64 (q : Int)), .inl (.pointer (some ⟨bx, ox + q * 1, none⟩)), .inl (.int .i64 (f q)), .inl (.bool true), .inl (.bool true)] 13 1 mixed rfl (by kernel_rfl) hS (Below.refl _ _) (fun _ h => h.drew) ?_
          refine hs_is rfl (fun w' hw => runs_move rfl) ?_
          refine hs_is rfl (fun w' hw => runs_move rfl) ?_
          refine hs_yis rfl rfl (fun w' hw => runs_move rfl) ?_
          refine hs_yis rfl rfl (fun w' hw => runs_move rfl) ?_
          refine hs_yis rfl rfl (fun w' hw => runs_indexAddrG (j := i) (by rw [← hAv]; rfl) rfl undVx sz28 rfl (by omega)) ?_
          refine hs_yis rfl rfl (fun w' hw => runs_fieldK fo28_1 rfl) ?_
          refine hs_yis rfl rfl (fun w' hw => runs_load rfl pl2 ((range_below hrvx hw hbwv) 1 _ rfl)) ?_
          refine hs_yis rfl rfl (fun w' hw => runs_move rfl) ?_
          refine hs_yis rfl rfl (fun w' hw => runs_move rfl) ?_
          refine hs_yis rfl rfl (fun w' hw => runs_indexAddrG (j := q) (by rw [← hAxx]; rfl) rfl undI64 siz2 rfl (by omega)) ?_
          refine hs_yis rfl rfl (fun w' hw => runs_load rfl pl2 ((range_below hrnx hw hbwx) 0 _ rfl)) ?_
          refine hs_yis rfl rfl (fun w' hw => runs_eql (r := true) rfl rfl (by simpa using hfi)) ?_
          refine hs_is rfl (fun w' hw => runs_pick rfl rfl) ?_
          refine (fun a22 w22 hS hB22 hq => ?_)
          clear hq
          have hB := hB.trans (hB22.mono hB.size)
          have hV := hVb2.kept hB
          have hX := hXb2.kept hB
          refine tail_op 13 (by kernel_rfl) rfl hS (by decide) (runs_assign rfl) (fun v24 w24 a24 hp hS => ⟨trivial, ?_⟩)
          obtain ⟨rfl, rfl⟩ := hp
          refine wpAnyH_done (by kernel_rfl) ?_ _
          refine reg_seq ?_
          refine sI hS (runs_move rfl) fun _ hS => ?_
          refine sI hS (runs_add (r := ((i + 1 : Nat) : Int)) rfl rfl (by simp [IntKind.wrap, IntKind.bits, IntKind.signed]; omega)) fun _ hS => ?_
          refine sI hS (runs_assign rfl) fun _ hS => ?_
          exact nil_ok ⟨_, by omega, i + 1, true, by omega, rfl, hBl2.trans (hB.mono hBl2.size), by rw [anyV_take _ (hSv i (by omega)), ← hF]; simp [hfi], hS.only _ ⟨rfl, rfl, rfl, rfl, rfl, rfl, trivial⟩⟩
        · skip
          refine reg_guard (fun w' => Below wl2.heap.size wl2 w') [.inl (.bool false), .inl (.bool false), .inl (.slice AV SL.length cV), .inl (.int .i64 (i : Int)), .inl (.pointer (some ⟨bv, ov + i * 5, none⟩)), .inl (.pointer (some ⟨bv, ov + i * 5 + 1, none⟩)), .inl (.int .i64 (firstV 1 0 (i : Int))), .inl (.slice AX XL.length cX), .inl (.int .i64 (q : Int)), .inl (.pointer (some ⟨bx, ox + q * 1, none⟩)), .inl (.int .i64 (f q)), .inl (.bool false), .inl (.bool false)] 13 1 mixed rfl (by kernel_rfl) hS (Below.refl _ _) (fun _ h => h.drew) ?_
          refine hs_is rfl (fun w' hw => runs_move rfl) ?_
          refine hs_is rfl (fun w' hw => runs_move rfl) ?_
          refine hs_yis rfl rfl (fun w' hw => runs_move rfl) ?_
          refine hs_yis rfl rfl (fun w' hw => runs_move rfl) ?_
          refine hs_yis rfl rfl (fun w' hw => runs_indexAddrG (j := i) (by rw [← hAv]; rfl) rfl undVx sz28 rfl (by omega)) ?_
          refine hs_yis rfl rfl (fun w' hw => runs_fieldK fo28_1 rfl) ?_
          refine hs_yis rfl rfl (fun w' hw => runs_load rfl pl2 ((range_below hrvx hw hbwv) 1 _ rfl)) ?_
          refine hs_yis rfl rfl (fun w' hw => runs_move rfl) ?_
          refine hs_yis rfl rfl (fun w' hw => runs_move rfl) ?_
          refine hs_yis rfl rfl (fun w' hw => runs_indexAddrG (j := q) (by rw [← hAxx]; rfl) rfl undI64 siz2 rfl (by omega)) ?_
          refine hs_yis rfl rfl (fun w' hw => runs_load rfl pl2 ((range_below hrnx hw hbwx) 0 _ rfl)) ?_
          refine hs_yis rfl rfl (fun w' hw => runs_eql (r := false) rfl rfl (by simpa using hfi)) ?_
          refine hs_is rfl (fun w' hw => runs_pick rfl rfl) ?_
          refine (fun a25 w25 hS hB25 hq => ?_)
          clear hq
          have hB := hB.trans (hB25.mono hB.size)
          have hV := hVb2.kept hB
          have hX := hXb2.kept hB
          refine tail_op 13 (by kernel_rfl) rfl hS (by decide) (runs_assign rfl) (fun v27 w27 a27 hp hS => ⟨trivial, ?_⟩)
          obtain ⟨rfl, rfl⟩ := hp
          refine wpAnyH_done (by kernel_rfl) ?_ _
          refine reg_seq ?_
          refine sI hS (runs_move rfl) fun _ hS => ?_
          refine sI hS (runs_add (r := ((i + 1 : Nat) : Int)) rfl rfl (by simp [IntKind.wrap, IntKind.bits, IntKind.signed]; omega)) fun _ hS => ?_
          refine sI hS (runs_assign rfl) fun _ hS => ?_
          exact nil_ok ⟨_, by omega, i + 1, false, by omega, rfl, hBl2.trans (hB.mono hBl2.size), by rw [anyV_take _ (hSv i (by omega)), ← hF]; simp [hfi], hS.only _ ⟨rfl, rfl, rfl, rfl, rfl, rfl, trivial⟩⟩
    refine sI hS (lssF rfl rfl (by omega)) fun _ hS => ?_
    obtain rfl : i = SL.length := by omega
    refine nil_ok ⟨_, hS.eval rfl, fun _ => ?_, fun h => by simp at h⟩
    have hB := hBo2.trans ((hBl2.trans (hB.mono hBl2.size)).mono hBo2.size)
    rw [List.take_length] at hF
    obtain rfl : bb = true := by
      rw [hF, List.any_eq_true]
      obtain ⟨⟨u, hu, hfu⟩, _⟩ := hmx q hqn
      exact ⟨_, List.mem_of_getElem? (hSv u hu), by simp [hfu]⟩
    refine qx_seq (?_)
    obtain ⟨bv, ov, hAv, hbwv, hrv⟩ := verts_row hV (by omega)
    have hrvx := verts_at hrv (hSv q hqn)
    obtain ⟨bx, ox, hAxx, hbwx, hrx⟩ := nums_row hX (by omega)
    have hrnx := nums_at hrx (hXv q hqn)
    have hge := (hmx q hqn).2
    refine reg_guard (fun w' => Below wl2.heap.size wl2 w') [.inl (.bool true), .inl (.bool false), .inl (.bool false), .inl (.slice AX XL.length cX), .inl (.int .i64 (q : Int)), .inl (.pointer (some ⟨bx, ox + q * 1, none⟩)), .inl (.int .i64 (f q)), .inl (.slice AV SL.length cV), .inl (.int .i64 (q : Int)), .inl (.pointer (some ⟨bv, ov + q * 5, none⟩)), .inl (.pointer (some ⟨bv, ov + q * 5 + 1, none⟩)), .inl (.int .i64 (firstV 1 0 (q : Int))), .inl (.bool false), .inl (.bool false)] 14 0 mixed rfl (by kernel_rfl) hS (Below.refl _ _) (fun _ h => h.drew) ?_
    refine hs_is rfl (fun w' hw => runs_move rfl) ?_
    refine hs_is rfl (fun w' hw => runs_not (b := true) rfl) ?_
    refine hs_is rfl (fun w' hw => runs_move rfl) ?_
    refine hs_yis rfl rfl (fun w' hw => runs_move rfl) ?_
    refine hs_yis rfl rfl (fun w' hw => runs_move rfl) ?_
    refine hs_yis rfl rfl (fun w' hw => runs_indexAddrG (j := q) (by rw [← hAxx]; rfl) rfl undI64 siz2 rfl (by omega)) ?_
    refine hs_yis rfl rfl (fun w' hw => runs_load rfl pl2 ((range_below hrnx hw hbwx) 0 _ rfl)) ?_
    refine hs_yis rfl rfl (fun w' hw => runs_move rfl) ?_
    refine hs_yis rfl rfl (fun w' hw => runs_move rfl) ?_
    refine hs_yis rfl rfl (fun w' hw => runs_indexAddrG (j := q) (by rw [← hAv]; rfl) rfl undVx sz28 rfl (by omega)) ?_
    refine hs_yis rfl rfl (fun w' hw => runs_fieldK fo28_1 rfl) ?_
    refine hs_yis rfl rfl (fun w' hw => runs_load rfl pl2 ((range_below hrvx hw hbwv) 1 _ rfl)) ?_
    refine hs_yis rfl rfl (fun w' hw => runs_lss (r := false) rfl rfl (decide_eq_false (by omega))) ?_
    refine hs_is rfl (fun w' hw => runs_pick rfl rfl) ?_
    refine (fun a28 w28 hS hB28 hq => ?_)
    clear hq
    have hB := hB.trans (hB28.mono hB.size)
    refine wpAnyH_done (by kernel_rfl) ?_ _
    refine wp_cond_false (hS.eval rfl) (wp_skip (reg_seq ?_))
    refine sI hS (runs_move rfl) fun _ hS => ?_
    refine sI hS (runs_add (r := ((q + 1 : Nat) : Int)) rfl rfl (by simp [IntKind.wrap, IntKind.bits, IntKind.signed]; omega)) fun _ hS => ?_
    refine sI hS (runs_assign rfl) fun _ hS => ?_
    exact nil_ok ⟨_, by omega, q + 1, by omega, rfl, hBl1.trans (hB.mono hBl1.size), hS.only _ ⟨rfl, rfl, rfl, rfl, trivial⟩⟩
  refine sI hS (lssF rfl rfl (by omega)) fun _ hS => ?_
  obtain rfl : q = XL.length := by omega
  refine nil_ok ⟨_, hS.eval rfl, fun _ => ?_, fun h => by simp at h⟩
  have hB := hBo1.trans ((hBl1.trans (hB.mono hBl1.size)).mono hBo1.size)
  refine qx_seq (reg_seq ?_)
  refine sI hS (runs_assign rfl) fun _ hS => ?_
  exact nil_ok (qx_ret (ret1 (t := 2) (by kernel_rfl) hS rfl ⟨_, rfl, rfl, hB⟩))
end Go.Proofs.Ytapcpmalgdhakaa
