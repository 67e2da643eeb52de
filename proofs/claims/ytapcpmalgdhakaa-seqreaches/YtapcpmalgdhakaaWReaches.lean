/- modillionlaw09.SeqReaches, walked. Conditions: none of our own. -/
import Derived.Test.YtapcpmalgdhakaaNFacts
namespace Go.Proofs.Ytapcpmalgdhakaa
open Go.RowKit
set_option maxRecDepth 100000

theorem bfs_kind9 : kindL (⟨#[98, 102, 115]⟩ : ByteArray).data.toList = 4 := by decide
theorem anyE_take {l : List E} {i : Nat} {m : E} (p : E → Bool) (h : l[i]? = some m) : (l.take (i + 1)).any p = ((l.take i).any p || p m) := by
  rw [List.take_add_one, h, Option.toList_some, List.any_append]; simp
set_option maxHeartbeats 2000000 in
theorem reaches9_any (n : Int) (es : List E) (v : Value) (src : Int) (w : World) (hE : Edges w v es) : Ans 5 [gv n v, .int .i64 src] w (fun u w' => u = .bool true ∧ Below w.heap.size w w') := by
  obtain ⟨Ag, cg, rfl, hg1, hg2, hgA⟩ := hE
  have hE : Edges w (.slice Ag es.length cg) es := ⟨Ag, cg, rfl, hg1, hg2, hgA⟩
  clear hgA
  refine calls_qx (args := [gv n (.slice Ag es.length cg), .int .i64 src]) 146 Try.func5 rfl (by kernel_rfl) (by simp) (fun a hS => ?_)
  have hB := Below.refl w.heap.size w
  have hEb := hE
  refine qx_seq (reg_seq ?_)
  refine seq_op hS (by decide) (runs_boxB (cs := [.int .i64 n, .slice Ag es.length cg]) rfl rfl) (fun v1 w1 a1 hp hS => ?_)
  obtain ⟨rfl, hM1, hB1⟩ := hp
  have hB := hB.trans (hB1.mono hB.size)
  have hE := hEb.kept hB
  refine sI hS (runs_assign rfl) fun _ hS => ?_
  refine nil_ok (qx_seq (qx_seq (reg_seq ?_)))
  refine seq_op hS (by decide) (runs_call (args := []) goes11 rfl (awake_any w1)) (fun v3 w3 a1 hp hS => ?_)
  obtain ⟨rfl, hB3⟩ := hp
  have hB := hB.trans (hB3.mono hB.size)
  have hM1 := hM1.below hB3 hM1.lt
  have hE := hEb.kept hB
  refine sI hS (runs_not (b := true) rfl) fun _ hS => ?_
  refine sI hS (runs_move rfl) fun _ hS => ?_
  refine sY hS (runs_fieldK fo24_1 rfl) fun _ hS => ?_
  refine sY hS (runs_load rfl pl22 (hM1.at rfl)) fun _ hS => ?_
  refine sY hS (runs_len rfl und22) fun _ hS => ?_
  by_cases h60 : ((es.length : Nat) : Int) > 60
  · skip
    refine sY hS (gtrT rfl rfl (by omega)) fun _ hS => ?_
    refine sI hS (runs_pick rfl rfl) fun _ hS => ?_
    refine sI hS (runs_move rfl) fun _ hS => ?_
    refine sN hS fun _ hS => ?_
    refine sN hS fun _ hS => ?_
    refine sN hS fun _ hS => ?_
    refine sI hS (runs_pick rfl rfl) fun _ hS => ?_
    refine nil_ok (wp_cond_true (hS.eval rfl) (qx_seq (reg_seq ?_)))
    refine seq_op hS (by decide) (runs_call (args := []) goes11 rfl (awake_any w3)) (fun v5 w5 a1 hp hS => ?_)
    obtain ⟨rfl, hB5⟩ := hp
    have hB := hB.trans (hB5.mono hB.size)
    have hM1 := hM1.below hB5 hM1.lt
    have hE := hEb.kept hB
    refine sI hS (runs_assign rfl) fun _ hS => ?_
    exact nil_ok (qx_ret (ret1 (t := 4) (by kernel_rfl) hS rfl ⟨_, rfl, rfl, hB⟩))
  refine sY hS (gtrF rfl rfl (by omega)) fun _ hS => ?_
  refine sI hS (runs_pick rfl rfl) fun _ hS => ?_
  refine sI hS (runs_move rfl) fun _ hS => ?_
  refine sY hS (runs_fieldK fo24_0 rfl) fun _ hS => ?_
  refine sY hS (runs_load rfl pl3 (hM1.at rfl)) fun _ hS => ?_
  by_cases h12 : n > 12
  · skip
    refine sY hS (gtrT rfl rfl (by omega)) fun _ hS => ?_
    refine sI hS (runs_pick rfl rfl) fun _ hS => ?_
    refine nil_ok (wp_cond_true (hS.eval rfl) (qx_seq (reg_seq ?_)))
    refine seq_op hS (by decide) (runs_call (args := []) goes11 rfl (awake_any w3)) (fun v7 w7 a1 hp hS => ?_)
    obtain ⟨rfl, hB7⟩ := hp
    have hB := hB.trans (hB7.mono hB.size)
    have hM1 := hM1.below hB7 hM1.lt
    have hE := hEb.kept hB
    refine sI hS (runs_assign rfl) fun _ hS => ?_
    exact nil_ok (qx_ret (ret1 (t := 4) (by kernel_rfl) hS rfl ⟨_, rfl, rfl, hB⟩))
  refine sY hS (gtrF rfl rfl (by omega)) fun _ hS => ?_
  refine sI hS (runs_pick rfl rfl) fun _ hS => ?_
  refine nil_ok (wp_cond_false (hS.eval rfl) (wp_skip (qx_seq (reg_seq ?_))))
  refine sI hS (runs_move rfl) fun _ hS => ?_
  refine sI hS (runs_buildK (pv := [(0, .string ⟨#[98, 102, 115]⟩), (1, .int .i64 src), (2, .int .i64 20)]) (cells := #[.string ⟨#[98, 102, 115]⟩, .int .i64 src, .int .i64 20]) rfl (by kernel_rfl)) fun _ hS => ?_
  refine seq_op hS (by decide) (runs_allocB (cs := [.string ByteArray.empty, .int .i64 0, .int .i64 0]) zo26 rfl) (fun v9 w9 a1 hp hS => ?_)
  obtain ⟨rfl, hM9, hB9⟩ := hp
  have hLhM9 : w.heap.size ≤ w3.heap.size := hB.size
  have hB := hB.trans (hB9.mono hB.size)
  have hM1 := hM1.below hB9 hM1.lt
  have hE := hEb.kept hB
  refine seq_none hS (runs_storeB (cs := [.string ⟨#[98, 102, 115]⟩, .int .i64 src, .int .i64 20]) rfl rfl hM9 rfl rfl sz26) (fun v11 w11 a1 hp hS => ?_)
  have hQ11 := hM9
  obtain ⟨hM9, hU11⟩ := hp
  have hB := But.new hB hU11 (fun i e => by rw [e]; exact hLhM9) (Nat.le_refl _)
  have hM1 := hM1.but hU11 (has_ne hM1 hQ11 (by decide))
  have hE := hEb.kept hB
  refine nil_ok (qx_seq (?_))
  obtain ⟨XL, XN, XE, hW⟩ : ∃ a b c, wholeL n es 4 src 20 = (a, b, c) := ⟨_, _, _, rfl⟩
  refine reg_guard (fun w' => Below w11.heap.size w11 w') [.inl (gv n (.slice Ag es.length cg)), .inr (fun v w' => ∃ y, v = gv n y ∧ Edges w' y es), .inl (.agg #[.string ⟨#[98, 102, 115]⟩, .int .i64 src, .int .i64 20]), .inr (fun v w' => ∃ (x0 : Value), v = .tuple #[x0, .int .i64 ((XN : Nat) : Int), .int .i64 XE] ∧ Nums w' x0 XL), .inr (fun v w' => ∃ (x0 : Value), v = .tuple #[x0, .int .i64 ((XN : Nat) : Int), .int .i64 XE] ∧ Nums w' x0 XL), .inr (fun v w' => Nums w' v XL), .inl (.int .i64 ((XN : Nat) : Int)), .inl (.int .i64 XE), .inr (fun v w' => Nums w' v XL), .inl (.int .i64 ((XN : Nat) : Int)), .inl (.int .i64 XE)] 11 0 mixed rfl (by kernel_rfl) hS (Below.refl _ _) (fun _ h => h.drew) ?_
  refine hs_is rfl (fun w' hw => runs_loadRow rfl (hM1.below hw hM1.lt) Try.underlying24 rfl (by rw [sz24]; rfl)) ?_
  refine hs_pr rfl (fun _ _ _ h hb => by obtain ⟨y, h1, h2⟩ := h; exact ⟨y, h1, h2.kept hb⟩) (fun w' hw hq => (runs_call (args := [gv n (.slice Ag es.length cg)]) goes13 rfl (own_any n es (by omega) _ w' (hE.kept hw))).mono (by rintro u w3 ⟨hb, y, h1, h2⟩; exact ⟨⟨y, h1, h2.edges⟩, hw.trans (hb.mono hw.size), hb⟩)) (fun u1 => ?_)
  refine hs_is rfl (fun w' hw => runs_loadRow rfl (hM9.below hw hM9.lt) Try.underlying26 rfl (by rw [sz26]; rfl)) ?_
  refine hs_pr rfl (fun _ _ _ h hb => by obtain ⟨x0, he, h0⟩ := h; exact ⟨x0, he, h0.kept hb⟩) (fun w' hw hq => (by obtain ⟨y, rfl, hy⟩ := hq (1, _) List.mem_cons_self (by kernel_rfl); exact (runs_call (args := [gv n y, .agg #[.string ⟨#[98, 102, 115]⟩, .int .i64 src, .int .i64 20]]) goes14 rfl (whole_is (by omega) w' hy bfs_kind9 hW)).mono (by rintro v w5 ⟨x0, rfl, h0, hb⟩; exact ⟨⟨x0, rfl, h0⟩, hw.trans (hb.mono hw.size), hb⟩))) (fun vc1 => ?_)
  refine hs_pr rfl (fun _ _ _ h hb => by obtain ⟨x0, he, h0⟩ := h; exact ⟨x0, he, h0.kept hb⟩) (fun w' hw hq => (by have h := hq (3, _) List.mem_cons_self (by kernel_rfl); exact (runs_move rfl).mono (by rintro v w5 ⟨rfl, rfl⟩; exact ⟨h, hw, Below.refl _ _⟩))) (fun vc2 => ?_)
  refine hs_pr rfl (fun _ _ _ h hb => h.kept hb) (fun w' hw hq => (by obtain ⟨x0, rfl, h0⟩ := hq (4, _) List.mem_cons_self (by kernel_rfl); exact (runs_extract rfl rfl).mono (by rintro v w5 ⟨rfl, rfl⟩; exact ⟨h0, hw, Below.refl _ _⟩))) (fun ve0 => ?_)
  refine hs_val rfl (fun w' hw hq => (by obtain ⟨x0, rfl, h0⟩ := hq (4, _) (List.mem_cons_of_mem _ List.mem_cons_self) (by kernel_rfl); exact (runs_extract rfl rfl).mono (by rintro v w5 ⟨rfl, rfl⟩; exact ⟨rfl, hw, Below.refl _ _⟩))) ?_
  refine hs_val rfl (fun w' hw hq => (by obtain ⟨x0, rfl, h0⟩ := hq (4, _) (List.mem_cons_of_mem _ List.mem_cons_self) (by kernel_rfl); exact (runs_extract rfl rfl).mono (by rintro v w5 ⟨rfl, rfl⟩; exact ⟨rfl, hw, Below.refl _ _⟩))) ?_
  refine hs_pr rfl (fun _ _ _ h hb => h.kept hb) (fun w' hw hq => (by have h := hq (5, _) List.mem_cons_self (by kernel_rfl); exact (runs_assign rfl).mono (by rintro v w5 ⟨rfl, rfl⟩; exact ⟨h, hw, Below.refl _ _⟩))) (fun va0 => ?_)
  refine hs_is rfl (fun w' hw => runs_assign rfl) ?_
  refine hs_is rfl (fun w' hw => runs_assign rfl) ?_
  refine (fun a13 w13 hS hB13 hq => ?_)




  have hX := (hq (8, _) List.mem_cons_self)
  obtain ⟨AX, cX, hsX, -, hcX, -⟩ := id hX
  subst hsX
  clear hq
  have hB := hB.trans (hB13.mono hB.size)
  have hM1 := hM1.below hB13 hM1.lt
  have hE := hEb.kept hB
  refine wpAnyH_done (by kernel_rfl) ?_ _
  refine qx_seq (qx_seq (reg_seq ?_))
  refine sI hS (runs_move rfl) fun _ hS => ?_
  by_cases he : XE ≠ 0
  · skip
    refine sI hS (runs_neq (r := true) rfl rfl (by simpa using he)) fun _ hS => ?_
    refine nil_ok (wp_cond_true (hS.eval rfl) (qx_seq (?_)))
    have hXe : XL = [] := by have h := whole_bad (n := n) (es := es) (k := 4) (src := src) (steps := 20) (by rw [hW]; exact he); rw [hW] at h; exact h
    refine reg_seq ?_
    refine sI hS (runs_move rfl) fun _ hS => ?_
    refine sI hS (runs_len rfl undI64) fun _ hS => ?_
    refine sI hS (runs_eql (r := true) rfl rfl (by rw [hXe]; rfl)) fun _ hS => ?_
    refine sI hS (runs_assign rfl) fun _ hS => ?_
    exact nil_ok (qx_ret (ret1 (t := 4) (by kernel_rfl) hS rfl ⟨_, rfl, rfl, hB⟩))
  refine sI hS (runs_neq (r := false) rfl rfl (by simpa using he)) fun _ hS => ?_
  refine nil_ok (wp_cond_false (hS.eval rfl) (wp_skip (qx_seq (qx_seq (?_)))))
  obtain rfl : XE = 0 := Classical.not_not.1 he
  obtain ⟨f, hn1, hXl, hXv, hfb, hed, hbe, hzr, hs0, hsn, hfs⟩ := reach_facts (by omega) hW
  unfold maxLen at hcX
  refine reg_seq ?_
  refine sI hS (runs_assign rfl) fun _ hS => ?_
  refine nil_ok (?_)
  have hBo1 := hB
  refine qx_for (fun mm a w' => ∃ (i : Nat), i ≤ es.length ∧ mm = es.length - i ∧ Below w13.heap.size w13 w' ∧ Sees 146 [(9, .int .i64 (i : Int)), (1, .int .i64 src), (2, .pointer (some ⟨w.heap.size, 0, none⟩)), (6, .slice AX XL.length cX)] a) es.length ⟨0, by omega, by omega, Below.refl _ _, hS.only _ ⟨rfl, rfl, rfl, rfl, trivial⟩⟩ ?_
  clear hS
  rintro mm a wl1 ⟨i, hi1, rfl, hBl1, hS⟩
  have hM1 := hM1.below hBl1 hM1.lt
  have hE := hE.kept hBl1
  have hX := hX.kept hBl1
  have hB := Below.refl wl1.heap.size wl1
  have hM1b1 := hM1
  have hEb1 := hE
  have hXb1 := hX
  refine reg_seq ?_
  refine sI hS (runs_move rfl) fun _ hS => ?_
  refine sI hS (runs_fieldK fo24_1 rfl) fun _ hS => ?_
  refine sI hS (runs_load rfl pl22 (hM1.at rfl)) fun _ hS => ?_
  refine sI hS (runs_len rfl und22) fun _ hS => ?_
  by_cases hlt1 : i < es.length
  · skip
    refine sI hS (lssT rfl rfl (by omega)) fun _ hS => ?_
    refine nil_ok ⟨_, hS.eval rfl, fun h => by simp at h, fun _ => ?_⟩
    obtain ⟨e, hei⟩ : ∃ e, es[i]? = some e := ⟨es[i], by simp [hlt1]⟩
    obtain ⟨a, b, c, rfl, hab, hbb, hc0, hc1, hst⟩ := hed e (List.mem_of_getElem? hei)
    obtain ⟨be, oe, hAge, hbwe, hre⟩ := edges_row hE (by omega)
    have hree := edges_at hre hei
    obtain ⟨bx, ox, hAxx, hbwx, hrx⟩ := nums_row hX (by omega)
    have hrnx := nums_at hrx (hXv a hab)
    have hrny := nums_at hrx (hXv b hbb)
    refine qx_seq (qx_block (qx_seq (reg_guard (fun w' => Below wl1.heap.size wl1 w') [.inl (.slice AX XL.length cX), .inl (.pointer (some ⟨w.heap.size, 0 + 1, none⟩)), .inl (.slice Ag es.length cg), .inl (.int .i64 (i : Int)), .inl (.pointer (some ⟨be, oe + i * 3, none⟩)), .inl (.pointer (some ⟨be, oe + i * 3 + 0, none⟩)), .inl (.int .i64 (a : Int)), .inl (.pointer (some ⟨bx, ox + a * 1, none⟩)), .inl (.int .i64 (f a)), .inl (.slice AX XL.length cX), .inl (.pointer (some ⟨w.heap.size, 0 + 1, none⟩)), .inl (.slice Ag es.length cg), .inl (.int .i64 (i : Int)), .inl (.pointer (some ⟨be, oe + i * 3, none⟩)), .inl (.pointer (some ⟨be, oe + i * 3 + 1, none⟩)), .inl (.int .i64 (b : Int)), .inl (.pointer (some ⟨bx, ox + b * 1, none⟩)), .inl (.int .i64 (f b)), .inl (.int .i64 (f a)), .inl (.int .i64 (f b))] 20 0 mixed rfl (by kernel_rfl) hS (Below.refl _ _) (fun _ h => h.drew) ?_)))
    refine hs_is rfl (fun w' hw => runs_move rfl) ?_
    refine hs_is rfl (fun w' hw => runs_fieldK fo24_1 rfl) ?_
    refine hs_is rfl (fun w' hw => runs_load rfl pl22 ((hM1.below hw hM1.lt).at rfl)) ?_
    refine hs_is rfl (fun w' hw => runs_move rfl) ?_
    refine hs_is rfl (fun w' hw => runs_indexAddrG (j := i) (by rw [← hAge]; rfl) rfl und22 siz45 rfl hlt1) ?_
    refine hs_is rfl (fun w' hw => runs_fieldK fo46_0 rfl) ?_
    refine hs_is rfl (fun w' hw => runs_load rfl pl3 ((range_below hree hw hbwe) 0 (.int .i64 (a : Int)) rfl)) ?_
    refine hs_is rfl (fun w' hw => runs_indexAddrG (j := a) (by rw [← hAxx]; rfl) rfl undI64 siz2 rfl (by omega)) ?_
    refine hs_is rfl (fun w' hw => runs_load rfl pl2 ((range_below hrnx hw hbwx) 0 _ rfl)) ?_
    refine hs_is rfl (fun w' hw => runs_move rfl) ?_
    refine hs_is rfl (fun w' hw => runs_fieldK fo24_1 rfl) ?_
    refine hs_is rfl (fun w' hw => runs_load rfl pl22 ((hM1.below hw hM1.lt).at rfl)) ?_
    refine hs_is rfl (fun w' hw => runs_move rfl) ?_
    refine hs_is rfl (fun w' hw => runs_indexAddrG (j := i) (by rw [← hAge]; rfl) rfl und22 siz45 rfl hlt1) ?_
    refine hs_is rfl (fun w' hw => runs_fieldK fo46_1 rfl) ?_
    refine hs_is rfl (fun w' hw => runs_load rfl pl3 ((range_below hree hw hbwe) 1 (.int .i64 (b : Int)) rfl)) ?_
    refine hs_is rfl (fun w' hw => runs_indexAddrG (j := b) (by rw [← hAxx]; rfl) rfl undI64 siz2 rfl (by omega)) ?_
    refine hs_is rfl (fun w' hw => runs_load rfl pl2 ((range_below hrny hw hbwx) 0 _ rfl)) ?_
    refine hs_is rfl (fun w' hw => runs_assign rfl) ?_
    refine hs_is rfl (fun w' hw => runs_assign rfl) ?_
    refine (fun a15 w15 hS hB15 hq => ?_)
    clear hq
    have hB := hB.trans (hB15.mono hB.size)
    have hM1 := hM1b1.below hB hM1b1.lt
    have hE := hEb1.kept hB
    have hX := hXb1.kept hB
    refine wpAnyH_done (by kernel_rfl) ?_ _
    refine qx_seq (reg_seq ?_)
    refine sI hS (runs_move rfl) fun _ hS => ?_
    by_cases ha : f a ≥ 0
    · skip
      refine sI hS (geqT rfl rfl (by omega)) fun _ hS => ?_
      refine sI hS (runs_move rfl) fun _ hS => ?_
      refine sY hS (runs_move rfl) fun _ hS => ?_
      refine sY hS (runs_lss (r := false) rfl rfl (decide_eq_false (by have := hst ha; omega))) fun _ hS => ?_
      refine sY hS (runs_move rfl) fun _ hS => ?_
      refine sY hS (runs_move rfl) fun _ hS => ?_
      refine sY hS (runs_move rfl) fun _ hS => ?_
      refine sY hS (runs_add rfl rfl (wrap64 (by have := hfb a hab; omega) (by have := hfb a hab; omega))) fun _ hS => ?_
      refine sY hS (runs_gtr (r := false) rfl rfl (decide_eq_false (by have := hst ha; omega))) fun _ hS => ?_
      refine sY hS (runs_pick rfl rfl) fun _ hS => ?_
      refine sI hS (runs_pick rfl rfl) fun _ hS => ?_
      refine nil_ok (wp_cond_false (hS.eval rfl) (wp_skip (reg_seq ?_)))
      refine sI hS (runs_move rfl) fun _ hS => ?_
      refine sI hS (runs_add (r := ((i + 1 : Nat) : Int)) rfl rfl (by simp [IntKind.wrap, IntKind.bits, IntKind.signed]; omega)) fun _ hS => ?_
      refine sI hS (runs_assign rfl) fun _ hS => ?_
      exact nil_ok ⟨_, by omega, i + 1, by omega, rfl, hBl1.trans (hB.mono hBl1.size), hS.only _ ⟨rfl, rfl, rfl, rfl, trivial⟩⟩
    refine sI hS (geqF rfl rfl (by omega)) fun _ hS => ?_
    refine sI hS (runs_move rfl) fun _ hS => ?_
    refine sN hS fun _ hS => ?_
    refine sN hS fun _ hS => ?_
    refine sN hS fun _ hS => ?_
    refine sU hS fun _ hS => ?_
    refine sU hS fun _ hS => ?_
    refine sU hS fun _ hS => ?_
    refine sU hS fun _ hS => ?_
    refine sN hS fun _ hS => ?_
    refine sI hS (runs_pick rfl rfl) fun _ hS => ?_
    refine nil_ok (wp_cond_false (hS.eval rfl) (wp_skip (reg_seq ?_)))
    refine sI hS (runs_move rfl) fun _ hS => ?_
    refine sI hS (runs_add (r := ((i + 1 : Nat) : Int)) rfl rfl (by simp [IntKind.wrap, IntKind.bits, IntKind.signed]; omega)) fun _ hS => ?_
    refine sI hS (runs_assign rfl) fun _ hS => ?_
    exact nil_ok ⟨_, by omega, i + 1, by omega, rfl, hBl1.trans (hB.mono hBl1.size), hS.only _ ⟨rfl, rfl, rfl, rfl, trivial⟩⟩
  refine sI hS (lssF rfl rfl (by omega)) fun _ hS => ?_
  obtain rfl : i = es.length := by omega
  refine nil_ok ⟨_, hS.eval rfl, fun _ => ?_, fun h => by simp at h⟩
  have hB := hBo1.trans ((hBl1.trans (hB.mono hBl1.size)).mono hBo1.size)
  refine qx_seq (qx_seq (reg_seq ?_))
  refine sI hS (runs_assign rfl) fun _ hS => ?_
  refine nil_ok (?_)
  have hBo1 := hB
  refine qx_for (fun mm a w' => ∃ (q : Nat), q ≤ XL.length ∧ mm = XL.length - q ∧ Below wl1.heap.size wl1 w' ∧ Sees 146 [(12, .int .i64 (q : Int)), (1, .int .i64 src), (2, .pointer (some ⟨w.heap.size, 0, none⟩)), (6, .slice AX XL.length cX)] a) XL.length ⟨0, by omega, by omega, Below.refl _ _, hS.only _ ⟨rfl, rfl, rfl, rfl, trivial⟩⟩ ?_
  clear hS
  rintro mm a wl1 ⟨q, hi1, rfl, hBl1, hS⟩
  have hM1 := hM1.below hBl1 hM1.lt
  have hE := hE.kept hBl1
  have hX := hX.kept hBl1
  have hB := Below.refl wl1.heap.size wl1
  refine reg_seq ?_
  refine sI hS (runs_move rfl) fun _ hS => ?_
  refine sI hS (runs_move rfl) fun _ hS => ?_
  refine sI hS (runs_len rfl undI64) fun _ hS => ?_
  by_cases hlt1 : q < XL.length
  · skip
    refine sI hS (lssT rfl rfl (by omega)) fun _ hS => ?_
    refine nil_ok ⟨_, hS.eval rfl, fun h => by simp at h, fun _ => ?_⟩
    have hqn : q < n.toNat := by omega
    obtain ⟨bx, ox, hAxx, hbwx, hrx⟩ := nums_row hX (by omega)
    have hrnx := nums_at hrx (hXv q hqn)
    have hrnq := hrnx
    refine qx_seq (qx_block (qx_seq (reg_seq ?_)))
    refine sI hS (runs_move rfl) fun _ hS => ?_
    refine sI hS (runs_move rfl) fun _ hS => ?_
    refine sI hS (runs_indexAddrG (j := q) (by rw [← hAxx]; rfl) rfl undI64 siz2 rfl (by omega)) fun _ hS => ?_
    refine sI hS (runs_load rfl pl2 (hrnx 0 _ rfl)) fun _ hS => ?_
    refine sI hS (runs_leq (r := decide (f q ≤ 0)) rfl rfl rfl) fun _ hS => ?_
    refine sI hS (runs_assign rfl) fun _ hS => ?_
    refine nil_ok (qx_seq (qx_seq (reg_seq ?_)))
    refine sI hS (runs_assign rfl) fun _ hS => ?_
    refine nil_ok (?_)
    have hBo2 := hB
    refine qx_for (fun mm a w' => ∃ (i : Nat) (bb : Bool), i ≤ es.length ∧ mm = es.length - i ∧ Below wl1.heap.size wl1 w' ∧ bb = (decide (f q ≤ 0) || (es.take i).any (fun e : E => e.2.1 == (q : Int) && f e.1.toNat == f q - 1)) ∧ Sees 146 [(14, .int .i64 (i : Int)), (13, .bool bb), (12, .int .i64 (q : Int)), (1, .int .i64 src), (2, .pointer (some ⟨w.heap.size, 0, none⟩)), (6, .slice AX XL.length cX)] a) es.length ⟨0, _, by omega, by omega, Below.refl _ _, by simp, hS.only _ ⟨rfl, rfl, rfl, rfl, rfl, rfl, trivial⟩⟩ ?_
    clear hS
    rintro mm a wl2 ⟨i, bb, hi2, rfl, hBl2, hF, hS⟩
    have hM1 := hM1.below hBl2 hM1.lt
    have hE := hE.kept hBl2
    have hX := hX.kept hBl2
    have hB := Below.refl wl2.heap.size wl2
    have hM1b2 := hM1
    have hXb2 := hX
    refine reg_seq ?_
    refine sI hS (runs_move rfl) fun _ hS => ?_
    refine sI hS (runs_fieldK fo24_1 rfl) fun _ hS => ?_
    refine sI hS (runs_load rfl pl22 (hM1.at rfl)) fun _ hS => ?_
    refine sI hS (runs_len rfl und22) fun _ hS => ?_
    by_cases hlt2 : i < es.length
    · skip
      refine sI hS (lssT rfl rfl (by omega)) fun _ hS => ?_
      refine nil_ok ⟨_, hS.eval rfl, fun h => by simp at h, fun _ => ?_⟩
      obtain ⟨e, hei⟩ : ∃ e, es[i]? = some e := ⟨es[i], by simp [hlt2]⟩
      obtain ⟨a, b, c, rfl, hab, hbb, hc0, hc1, hst⟩ := hed e (List.mem_of_getElem? hei)
      obtain ⟨be, oe, hAge, hbwe, hre⟩ := edges_row hE (by omega)
      have hree := edges_at hre hei
      obtain ⟨bx, ox, hAxx, hbwx, hrx⟩ := nums_row hX (by omega)
      have hrnx := nums_at hrx (hXv a hab)
      have hrny := nums_at hrx (hXv b hbb)
      have hrnq := nums_at hrx (hXv q hqn)
      refine qx_seq (qx_block (?_))
      cases hbb : bb with
      | true =>
        rw [hbb] at hS hF
        refine reg_u (fun a b => Below a.heap.size a b) (fun w' => Below wl2.heap.size wl2 w') [.inl (.bool true), .inl (.bool true), .inl undef, .inl undef, .inl undef, .inl undef, .inl undef, .inl undef, .inl undef, .inl undef, .inl undef, .inl undef, .inl undef, .inl undef, .inl undef, .inl undef, .inl undef, .inl undef, .inl undef, .inl undef, .inl undef, .inl undef, .inl undef, .inl undef, .inl undef, .inl undef, .inl undef, .inl (.bool true)] 28 1 mixed rfl (by kernel_rfl) hS (Below.refl _ _) (fun _ h => h.drew) ?_
        refine us_is rfl (fun w' hw => runs_move rfl) ?_
        refine us_is rfl (fun w' hw => runs_move rfl) ?_
        refine us_no rfl rfl rfl ?_
        refine us_no rfl rfl rfl ?_
        refine us_no rfl rfl rfl ?_
        refine us_no rfl rfl rfl ?_
        refine us_no rfl rfl rfl ?_
        refine us_no rfl rfl rfl ?_
        refine us_no rfl rfl rfl ?_
        refine us_no rfl rfl rfl ?_
        refine us_no rfl rfl rfl ?_
        refine us_un rfl rfl ?_
        refine us_un rfl rfl ?_
        refine us_un rfl rfl ?_
        refine us_un rfl rfl ?_
        refine us_un rfl rfl ?_
        refine us_un rfl rfl ?_
        refine us_un rfl rfl ?_
        refine us_un rfl rfl ?_
        refine us_un rfl rfl ?_
        refine us_un rfl rfl ?_
        refine us_un rfl rfl ?_
        refine us_un rfl rfl ?_
        refine us_un rfl rfl ?_
        refine us_un rfl rfl ?_
        refine us_un rfl rfl ?_
        refine us_no rfl rfl rfl ?_
        refine us_is rfl (fun w' hw => runs_pick rfl rfl) ?_
        refine (fun a17 w17 hS hB17 hq => ?_)
        clear hq
        have hB := hB.trans (hB17.mono hB.size)
        have hM1 := hM1b2.below hB hM1b2.lt
        have hX := hXb2.kept hB
        refine tail_op 28 (by kernel_rfl) rfl hS (by decide) (runs_assign rfl) (fun v19 w19 a19 hp hS => ⟨trivial, ?_⟩)
        obtain ⟨rfl, rfl⟩ := hp
        refine wpAnyH_done (by kernel_rfl) ?_ _
        refine reg_seq ?_
        refine sI hS (runs_move rfl) fun _ hS => ?_
        refine sI hS (runs_add (r := ((i + 1 : Nat) : Int)) rfl rfl (by simp [IntKind.wrap, IntKind.bits, IntKind.signed]; omega)) fun _ hS => ?_
        refine sI hS (runs_assign rfl) fun _ hS => ?_
        exact nil_ok ⟨_, by omega, i + 1, true, by omega, rfl, hBl2.trans (hB.mono hBl2.size), by rw [anyE_take _ hei, ← Bool.or_assoc, ← hF]; rfl, hS.only _ ⟨rfl, rfl, rfl, rfl, rfl, rfl, trivial⟩⟩
      | false =>
        rw [hbb] at hS hF
        by_cases hbq : (b : Int) = (q : Int)
        · skip
          by_cases hfa : f a = f q - 1
          · skip
            refine reg_u (fun a b => Below a.heap.size a b) (fun w' => Below wl2.heap.size wl2 w') [.inl (.bool false), .inl (.bool false), .inl (.pointer (some ⟨w.heap.size, 0 + 1, none⟩)), .inl (.slice Ag es.length cg), .inl (.int .i64 (i : Int)), .inl (.pointer (some ⟨be, oe + i * 3, none⟩)), .inl (.pointer (some ⟨be, oe + i * 3 + 1, none⟩)), .inl (.int .i64 (b : Int)), .inl (.int .i64 (q : Int)), .inl (.bool true), .inl (.bool true), .inl (.slice AX XL.length cX), .inl (.pointer (some ⟨w.heap.size, 0 + 1, none⟩)), .inl (.slice Ag es.length cg), .inl (.int .i64 (i : Int)), .inl (.pointer (some ⟨be, oe + i * 3, none⟩)), .inl (.pointer (some ⟨be, oe + i * 3 + 0, none⟩)), .inl (.int .i64 (a : Int)), .inl (.pointer (some ⟨bx, ox + a * 1, none⟩)), .inl (.int .i64 (f a)), .inl (.slice AX XL.length cX), .inl (.int .i64 (q : Int)), .inl (.pointer (some ⟨bx, ox + q * 1, none⟩)), .inl (.int .i64 (f q)), .inl (.int .i64 (f q - 1)), .inl (.bool true), .inl (.bool true), .inl (.bool true)] 28 1 mixed rfl (by kernel_rfl) hS (Below.refl _ _) (fun _ h => h.drew) ?_
            refine us_is rfl (fun w' hw => runs_move rfl) ?_
            refine us_is rfl (fun w' hw => runs_move rfl) ?_
            refine us_yis rfl rfl (fun w' hw => runs_fieldK fo24_1 rfl) ?_
            refine us_yis rfl rfl (fun w' hw => runs_load rfl pl22 ((hM1.below hw hM1.lt).at rfl)) ?_
            refine us_yis rfl rfl (fun w' hw => runs_move rfl) ?_
            refine us_yis rfl rfl (fun w' hw => runs_indexAddrG (j := i) (by rw [← hAge]; rfl) rfl und22 siz45 rfl hlt2) ?_
            refine us_yis rfl rfl (fun w' hw => runs_fieldK fo46_1 rfl) ?_
            refine us_yis rfl rfl (fun w' hw => runs_load rfl pl3 ((range_below hree hw hbwe) 1 (.int .i64 (b : Int)) rfl)) ?_
            refine us_yis rfl rfl (fun w' hw => runs_move rfl) ?_
            refine us_yis rfl rfl (fun w' hw => runs_eql (r := true) rfl rfl (by simpa using hbq)) ?_
            refine us_yis rfl rfl (fun w' hw => runs_move rfl) ?_
            refine us_yis rfl rfl (fun w' hw => runs_move rfl) ?_
            refine us_yis rfl rfl (fun w' hw => runs_fieldK fo24_1 rfl) ?_
            refine us_yis rfl rfl (fun w' hw => runs_load rfl pl22 ((hM1.below hw hM1.lt).at rfl)) ?_
            refine us_yis rfl rfl (fun w' hw => runs_move rfl) ?_
            refine us_yis rfl rfl (fun w' hw => runs_indexAddrG (j := i) (by rw [← hAge]; rfl) rfl und22 siz45 rfl hlt2) ?_
            refine us_yis rfl rfl (fun w' hw => runs_fieldK fo46_0 rfl) ?_
            refine us_yis rfl rfl (fun w' hw => runs_load rfl pl3 ((range_below hree hw hbwe) 0 (.int .i64 (a : Int)) rfl)) ?_
            refine us_yis rfl rfl (fun w' hw => runs_indexAddrG (j := a) (by rw [← hAxx]; rfl) rfl undI64 siz2 rfl (by omega)) ?_
            refine us_yis rfl rfl (fun w' hw => runs_load rfl pl2 ((range_below hrnx hw hbwx) 0 _ rfl)) ?_
            refine us_yis rfl rfl (fun w' hw => runs_move rfl) ?_
            refine us_yis rfl rfl (fun w' hw => runs_move rfl) ?_
            refine us_yis rfl rfl (fun w' hw => runs_indexAddrG (j := q) (by rw [← hAxx]; rfl) rfl undI64 siz2 rfl (by omega)) ?_
            refine us_yis rfl rfl (fun w' hw => runs_load rfl pl2 ((range_below hrnq hw hbwx) 0 _ rfl)) ?_
            refine us_yis rfl rfl (fun w' hw => runs_sub rfl rfl (wrap64 (by have := hfb q hqn; omega) (by have := hfb q hqn; omega))) ?_
            refine us_yis rfl rfl (fun w' hw => runs_eql (r := true) rfl rfl (by simpa using hfa)) ?_
            refine us_yis rfl rfl (fun w' hw => runs_pick rfl rfl) ?_
            refine us_is rfl (fun w' hw => runs_pick rfl rfl) ?_
            refine (fun a20 w20 hS hB20 hq => ?_)
            clear hq
            have hB := hB.trans (hB20.mono hB.size)
            have hM1 := hM1b2.below hB hM1b2.lt
            have hX := hXb2.kept hB
            refine tail_op 28 (by kernel_rfl) rfl hS (by decide) (runs_assign rfl) (fun v22 w22 a22 hp hS => ⟨trivial, ?_⟩)
            obtain ⟨rfl, rfl⟩ := hp
            refine wpAnyH_done (by kernel_rfl) ?_ _
            refine reg_seq ?_
            refine sI hS (runs_move rfl) fun _ hS => ?_
            refine sI hS (runs_add (r := ((i + 1 : Nat) : Int)) rfl rfl (by simp [IntKind.wrap, IntKind.bits, IntKind.signed]; omega)) fun _ hS => ?_
            refine sI hS (runs_assign rfl) fun _ hS => ?_
            exact nil_ok ⟨_, by omega, i + 1, true, by omega, rfl, hBl2.trans (hB.mono hBl2.size), by rw [anyE_take _ hei, ← Bool.or_assoc, ← hF]; simp [hbq, hfa], hS.only _ ⟨rfl, rfl, rfl, rfl, rfl, rfl, trivial⟩⟩
          · skip
            refine reg_u (fun a b => Below a.heap.size a b) (fun w' => Below wl2.heap.size wl2 w') [.inl (.bool false), .inl (.bool false), .inl (.pointer (some ⟨w.heap.size, 0 + 1, none⟩)), .inl (.slice Ag es.length cg), .inl (.int .i64 (i : Int)), .inl (.pointer (some ⟨be, oe + i * 3, none⟩)), .inl (.pointer (some ⟨be, oe + i * 3 + 1, none⟩)), .inl (.int .i64 (b : Int)), .inl (.int .i64 (q : Int)), .inl (.bool true), .inl (.bool true), .inl (.slice AX XL.length cX), .inl (.pointer (some ⟨w.heap.size, 0 + 1, none⟩)), .inl (.slice Ag es.length cg), .inl (.int .i64 (i : Int)), .inl (.pointer (some ⟨be, oe + i * 3, none⟩)), .inl (.pointer (some ⟨be, oe + i * 3 + 0, none⟩)), .inl (.int .i64 (a : Int)), .inl (.pointer (some ⟨bx, ox + a * 1, none⟩)), .inl (.int .i64 (f a)), .inl (.slice AX XL.length cX), .inl (.int .i64 (q : Int)), .inl (.pointer (some ⟨bx, ox + q * 1, none⟩)), .inl (.int .i64 (f q)), .inl (.int .i64 (f q - 1)), .inl (.bool false), .inl (.bool false), .inl (.bool false)] 28 1 mixed rfl (by kernel_rfl) hS (Below.refl _ _) (fun _ h => h.drew) ?_
            refine us_is rfl (fun w' hw => runs_move rfl) ?_
            refine us_is rfl (fun w' hw => runs_move rfl) ?_
            refine us_yis rfl rfl (fun w' hw => runs_fieldK fo24_1 rfl) ?_
            refine us_yis rfl rfl (fun w' hw => runs_load rfl pl22 ((hM1.below hw hM1.lt).at rfl)) ?_
            refine us_yis rfl rfl (fun w' hw => runs_move rfl) ?_
            refine us_yis rfl rfl (fun w' hw => runs_indexAddrG (j := i) (by rw [← hAge]; rfl) rfl und22 siz45 rfl hlt2) ?_
            refine us_yis rfl rfl (fun w' hw => runs_fieldK fo46_1 rfl) ?_
            refine us_yis rfl rfl (fun w' hw => runs_load rfl pl3 ((range_below hree hw hbwe) 1 (.int .i64 (b : Int)) rfl)) ?_
            refine us_yis rfl rfl (fun w' hw => runs_move rfl) ?_
            refine us_yis rfl rfl (fun w' hw => runs_eql (r := true) rfl rfl (by simpa using hbq)) ?_
            refine us_yis rfl rfl (fun w' hw => runs_move rfl) ?_
            refine us_yis rfl rfl (fun w' hw => runs_move rfl) ?_
            refine us_yis rfl rfl (fun w' hw => runs_fieldK fo24_1 rfl) ?_
            refine us_yis rfl rfl (fun w' hw => runs_load rfl pl22 ((hM1.below hw hM1.lt).at rfl)) ?_
            refine us_yis rfl rfl (fun w' hw => runs_move rfl) ?_
            refine us_yis rfl rfl (fun w' hw => runs_indexAddrG (j := i) (by rw [← hAge]; rfl) rfl und22 siz45 rfl hlt2) ?_
            refine us_yis rfl rfl (fun w' hw => runs_fieldK fo46_0 rfl) ?_
            refine us_yis rfl rfl (fun w' hw => runs_load rfl pl3 ((range_below hree hw hbwe) 0 (.int .i64 (a : Int)) rfl)) ?_
            refine us_yis rfl rfl (fun w' hw => runs_indexAddrG (j := a) (by rw [← hAxx]; rfl) rfl undI64 siz2 rfl (by omega)) ?_
            refine us_yis rfl rfl (fun w' hw => runs_load rfl pl2 ((range_below hrnx hw hbwx) 0 _ rfl)) ?_
            refine us_yis rfl rfl (fun w' hw => runs_move rfl) ?_
            refine us_yis rfl rfl (fun w' hw => runs_move rfl) ?_
            refine us_yis rfl rfl (fun w' hw => runs_indexAddrG (j := q) (by rw [← hAxx]; rfl) rfl undI64 siz2 rfl (by omega)) ?_
            refine us_yis rfl rfl (fun w' hw => runs_load rfl pl2 ((range_below hrnq hw hbwx) 0 _ rfl)) ?_
            refine us_yis rfl rfl (fun w' hw => runs_sub rfl rfl (wrap64 (by have := hfb q hqn; omega) (by have := hfb q hqn; omega))) ?_
            refine us_yis rfl rfl (fun w' hw => runs_eql (r := false) rfl rfl (by simpa using hfa)) ?_
            refine us_yis rfl rfl (fun w' hw => runs_pick rfl rfl) ?_
            refine us_is rfl (fun w' hw => runs_pick rfl rfl) ?_
            refine (fun a23 w23 hS hB23 hq => ?_)
            clear hq
            have hB := hB.trans (hB23.mono hB.size)
            have hM1 := hM1b2.below hB hM1b2.lt
            have hX := hXb2.kept hB
            refine tail_op 28 (by kernel_rfl) rfl hS (by decide) (runs_assign rfl) (fun v25 w25 a25 hp hS => ⟨trivial, ?_⟩)
            obtain ⟨rfl, rfl⟩ := hp
            refine wpAnyH_done (by kernel_rfl) ?_ _
            refine reg_seq ?_
            refine sI hS (runs_move rfl) fun _ hS => ?_
            refine sI hS (runs_add (r := ((i + 1 : Nat) : Int)) rfl rfl (by simp [IntKind.wrap, IntKind.bits, IntKind.signed]; omega)) fun _ hS => ?_
            refine sI hS (runs_assign rfl) fun _ hS => ?_
            exact nil_ok ⟨_, by omega, i + 1, false, by omega, rfl, hBl2.trans (hB.mono hBl2.size), by rw [anyE_take _ hei, ← Bool.or_assoc, ← hF]; simp [hfa], hS.only _ ⟨rfl, rfl, rfl, rfl, rfl, rfl, trivial⟩⟩
        · skip
          refine reg_u (fun a b => Below a.heap.size a b) (fun w' => Below wl2.heap.size wl2 w') [.inl (.bool false), .inl (.bool false), .inl (.pointer (some ⟨w.heap.size, 0 + 1, none⟩)), .inl (.slice Ag es.length cg), .inl (.int .i64 (i : Int)), .inl (.pointer (some ⟨be, oe + i * 3, none⟩)), .inl (.pointer (some ⟨be, oe + i * 3 + 1, none⟩)), .inl (.int .i64 (b : Int)), .inl (.int .i64 (q : Int)), .inl (.bool false), .inl (.bool false), .inl undef, .inl undef, .inl undef, .inl undef, .inl undef, .inl undef, .inl undef, .inl undef, .inl undef, .inl undef, .inl undef, .inl undef, .inl undef, .inl undef, .inl undef, .inl (.bool false), .inl (.bool false)] 28 1 mixed rfl (by kernel_rfl) hS (Below.refl _ _) (fun _ h => h.drew) ?_
          refine us_is rfl (fun w' hw => runs_move rfl) ?_
          refine us_is rfl (fun w' hw => runs_move rfl) ?_
          refine us_yis rfl rfl (fun w' hw => runs_fieldK fo24_1 rfl) ?_
          refine us_yis rfl rfl (fun w' hw => runs_load rfl pl22 ((hM1.below hw hM1.lt).at rfl)) ?_
          refine us_yis rfl rfl (fun w' hw => runs_move rfl) ?_
          refine us_yis rfl rfl (fun w' hw => runs_indexAddrG (j := i) (by rw [← hAge]; rfl) rfl und22 siz45 rfl hlt2) ?_
          refine us_yis rfl rfl (fun w' hw => runs_fieldK fo46_1 rfl) ?_
          refine us_yis rfl rfl (fun w' hw => runs_load rfl pl3 ((range_below hree hw hbwe) 1 (.int .i64 (b : Int)) rfl)) ?_
          refine us_yis rfl rfl (fun w' hw => runs_move rfl) ?_
          refine us_yis rfl rfl (fun w' hw => runs_eql (r := false) rfl rfl (by simpa using hbq)) ?_
          refine us_yis rfl rfl (fun w' hw => runs_move rfl) ?_
          refine us_no rfl rfl rfl ?_
          refine us_no rfl rfl rfl ?_
          refine us_no rfl rfl rfl ?_
          refine us_no rfl rfl rfl ?_
          refine us_no rfl rfl rfl ?_
          refine us_no rfl rfl rfl ?_
          refine us_no rfl rfl rfl ?_
          refine us_no rfl rfl rfl ?_
          refine us_no rfl rfl rfl ?_
          refine us_no rfl rfl rfl ?_
          refine us_no rfl rfl rfl ?_
          refine us_no rfl rfl rfl ?_
          refine us_no rfl rfl rfl ?_
          refine us_no rfl rfl rfl ?_
          refine us_no rfl rfl rfl ?_
          refine us_yis rfl rfl (fun w' hw => runs_pick rfl rfl) ?_
          refine us_is rfl (fun w' hw => runs_pick rfl rfl) ?_
          refine (fun a26 w26 hS hB26 hq => ?_)
          clear hq
          have hB := hB.trans (hB26.mono hB.size)
          have hX := hXb2.kept hB
          refine tail_op 28 (by kernel_rfl) rfl hS (by decide) (runs_assign rfl) (fun v28 w28 a28 hp hS => ⟨trivial, ?_⟩)
          obtain ⟨rfl, rfl⟩ := hp
          refine wpAnyH_done (by kernel_rfl) ?_ _
          refine reg_seq ?_
          refine sI hS (runs_move rfl) fun _ hS => ?_
          refine sI hS (runs_add (r := ((i + 1 : Nat) : Int)) rfl rfl (by simp [IntKind.wrap, IntKind.bits, IntKind.signed]; omega)) fun _ hS => ?_
          refine sI hS (runs_assign rfl) fun _ hS => ?_
          exact nil_ok ⟨_, by omega, i + 1, false, by omega, rfl, hBl2.trans (hB.mono hBl2.size), by rw [anyE_take _ hei, ← Bool.or_assoc, ← hF]; simp [hbq], hS.only _ ⟨rfl, rfl, rfl, rfl, rfl, rfl, trivial⟩⟩
    refine sI hS (lssF rfl rfl (by omega)) fun _ hS => ?_
    obtain rfl : i = es.length := by omega
    refine nil_ok ⟨_, hS.eval rfl, fun _ => ?_, fun h => by simp at h⟩
    have hB := hBo2.trans ((hBl2.trans (hB.mono hBl2.size)).mono hBo2.size)
    rw [List.take_length] at hF
    obtain rfl : bb = true := by
      rw [hF, Bool.or_eq_true, decide_eq_true_eq, List.any_eq_true]
      rcases hbe q hqn with h | ⟨e, he1, he2, he3⟩
      · exact .inl h
      · exact .inr ⟨e, he1, by simp [he2, he3]⟩
    refine qx_seq (?_)
    obtain ⟨bx, ox, hAxx, hbwx, hrx⟩ := nums_row hX (by omega)
    have hrnx := nums_at hrx (hXv q hqn)
    refine reg_seq ?_
    refine sI hS (runs_move rfl) fun _ hS => ?_
    refine sI hS (runs_not (b := true) rfl) fun _ hS => ?_
    refine sI hS (runs_move rfl) fun _ hS => ?_
    refine sY hS (runs_move rfl) fun _ hS => ?_
    refine sY hS (runs_move rfl) fun _ hS => ?_
    refine sY hS (runs_indexAddrG (j := q) (by rw [← hAxx]; rfl) rfl undI64 siz2 rfl (by omega)) fun _ hS => ?_
    refine sY hS (runs_load rfl pl2 (hrnx 0 _ rfl)) fun _ hS => ?_
    by_cases hq0 : f q = 0
    · skip
      refine sY hS (runs_eql (r := true) rfl rfl (by simpa using hq0)) fun _ hS => ?_
      refine sY hS (runs_move rfl) fun _ hS => ?_
      refine sY hS (runs_move rfl) fun _ hS => ?_
      refine sY hS (runs_move rfl) fun _ hS => ?_
      refine sY hS (runs_neq (r := false) rfl rfl (by rw [hzr q hqn hq0]; simp)) fun _ hS => ?_
      refine sY hS (runs_pick rfl rfl) fun _ hS => ?_
      refine sI hS (runs_pick rfl rfl) fun _ hS => ?_
      refine nil_ok (wp_cond_false (hS.eval rfl) (wp_skip (reg_seq ?_)))
      refine sI hS (runs_move rfl) fun _ hS => ?_
      refine sI hS (runs_add (r := ((q + 1 : Nat) : Int)) rfl rfl (by simp [IntKind.wrap, IntKind.bits, IntKind.signed]; omega)) fun _ hS => ?_
      refine sI hS (runs_assign rfl) fun _ hS => ?_
      exact nil_ok ⟨_, by omega, q + 1, by omega, rfl, hBl1.trans (hB.mono hBl1.size), hS.only _ ⟨rfl, rfl, rfl, rfl, trivial⟩⟩
    refine sY hS (runs_eql (r := false) rfl rfl (by simpa using hq0)) fun _ hS => ?_
    refine sY hS (runs_move rfl) fun _ hS => ?_
    refine sN hS fun _ hS => ?_
    refine sN hS fun _ hS => ?_
    refine sN hS fun _ hS => ?_
    refine sY hS (runs_pick rfl rfl) fun _ hS => ?_
    refine sI hS (runs_pick rfl rfl) fun _ hS => ?_
    refine nil_ok (wp_cond_false (hS.eval rfl) (wp_skip (reg_seq ?_)))
    refine sI hS (runs_move rfl) fun _ hS => ?_
    refine sI hS (runs_add (r := ((q + 1 : Nat) : Int)) rfl rfl (by simp [IntKind.wrap, IntKind.bits, IntKind.signed]; omega)) fun _ hS => ?_
    refine sI hS (runs_assign rfl) fun _ hS => ?_
    exact nil_ok ⟨_, by omega, q + 1, by omega, rfl, hBl1.trans (hB.mono hBl1.size), hS.only _ ⟨rfl, rfl, rfl, rfl, trivial⟩⟩
  refine sI hS (lssF rfl rfl (by omega)) fun _ hS => ?_
  obtain rfl : q = XL.length := by omega
  refine nil_ok ⟨_, hS.eval rfl, fun _ => ?_, fun h => by simp at h⟩
  have hB := hBo1.trans ((hBl1.trans (hB.mono hBl1.size)).mono hBo1.size)
  refine qx_seq (?_)
  obtain ⟨s, hs⟩ : ∃ s : Nat, src = s := ⟨src.toNat, by omega⟩
  rw [hs, Int.toNat_natCast] at hfs
  rw [hs] at hS
  have hsn2 : s < n.toNat := by omega
  obtain ⟨bx, ox, hAxx, hbwx, hrx⟩ := nums_row hX (by omega)
  have hrnx := nums_at hrx (hXv s hsn2)
  refine reg_seq ?_
  refine sI hS (runs_move rfl) fun _ hS => ?_
  refine sI hS (runs_move rfl) fun _ hS => ?_
  refine sI hS (runs_indexAddrG (j := s) (by rw [← hAxx]; rfl) rfl undI64 siz2 rfl (by omega)) fun _ hS => ?_
  refine sI hS (runs_load rfl pl2 (hrnx 0 _ rfl)) fun _ hS => ?_
  refine sI hS (runs_eql (r := true) rfl rfl (by rw [hfs]; rfl)) fun _ hS => ?_
  refine sI hS (runs_assign rfl) fun _ hS => ?_
  exact nil_ok (qx_ret (ret1 (t := 4) (by kernel_rfl) hS rfl ⟨_, rfl, rfl, hB⟩))
end Go.Proofs.Ytapcpmalgdhakaa
