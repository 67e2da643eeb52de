/- modillionlaw09.SeqLabels, walked. Conditions: none of our own. -/
import Derived.Test.YtapcpmalgdhakaaNFacts
namespace Go.Proofs.Ytapcpmalgdhakaa
open Go.RowKit
set_option maxRecDepth 100000

theorem anyE_take {l : List E} {i : Nat} {m : E} (p : E → Bool) (h : l[i]? = some m) : (l.take (i + 1)).any p = ((l.take i).any p || p m) := by
  rw [List.take_add_one, h, Option.toList_some, List.any_append]; simp
set_option maxHeartbeats 2000000 in
theorem labels9_any (n : Int) (es : List E) (v : Value) (w : World) (hE : Edges w v es) : Ans 8 [gv n v] w (fun u w' => u = .bool true ∧ Below w.heap.size w w') := by
  obtain ⟨Ag, cg, rfl, hg1, hg2, hgA⟩ := hE
  have hE : Edges w (.slice Ag es.length cg) es := ⟨Ag, cg, rfl, hg1, hg2, hgA⟩
  clear hgA
  refine calls_qx (args := [gv n (.slice Ag es.length cg)]) 140 Try.func8 rfl (by kernel_rfl) (by simp) (fun a hS => ?_)
  have hB := Below.refl w.heap.size w
  have hEb := hE
  refine qx_seq (reg_seq ?_)
  refine seq_op hS (by decide) (runs_boxB (cs := [.int .i64 n, .slice Ag es.length cg]) rfl rfl) (fun v1 w1 a1 hp hS => ?_)
  obtain ⟨rfl, hM1, hB1⟩ := hp
  have hB := hB.trans (hB1.mono hB.size)
  have hE := hEb.kept hB
  refine sI hS (runs_assign rfl) fun _ hS => ?_
  refine nil_ok (qx_seq (qx_seq (reg_seq ?_)))
  refine seq_op hS (by decide) (runs_call (args := []) goes11 rfl (awake_any w1)) (fun v3 w3 a1 hp hS => ?_)
  obtain ⟨rfl, hB3⟩ := hp
  have hB := hB.trans (hB3.mono hB.size)
  have hM1 := hM1.below hB3 hM1.lt
  have hE := hEb.kept hB
  refine sI hS (runs_not (b := true) rfl) fun _ hS => ?_
  refine sI hS (runs_move rfl) fun _ hS => ?_
  refine sY hS (runs_fieldK fo24_1 rfl) fun _ hS => ?_
  refine sY hS (runs_load rfl pl22 (hM1.at rfl)) fun _ hS => ?_
  refine sY hS (runs_len rfl und22) fun _ hS => ?_
  by_cases h60 : ((es.length : Nat) : Int) > 60
  · skip
    refine sY hS (gtrT rfl rfl (by omega)) fun _ hS => ?_
    refine sI hS (runs_pick rfl rfl) fun _ hS => ?_
    refine sI hS (runs_move rfl) fun _ hS => ?_
    refine sN hS fun _ hS => ?_
    refine sN hS fun _ hS => ?_
    refine sN hS fun _ hS => ?_
    refine sI hS (runs_pick rfl rfl) fun _ hS => ?_
    refine nil_ok (wp_cond_true (hS.eval rfl) (qx_seq (reg_seq ?_)))
    refine seq_op hS (by decide) (runs_call (args := []) goes11 rfl (awake_any w3)) (fun v5 w5 a1 hp hS => ?_)
    obtain ⟨rfl, hB5⟩ := hp
    have hB := hB.trans (hB5.mono hB.size)
    have hM1 := hM1.below hB5 hM1.lt
    have hE := hEb.kept hB
    refine sI hS (runs_assign rfl) fun _ hS => ?_
    exact nil_ok (qx_ret (ret1 (t := 2) (by kernel_rfl) hS rfl ⟨_, rfl, rfl, hB⟩))
  refine sY hS (gtrF rfl rfl (by omega)) fun _ hS => ?_
  refine sI hS (runs_pick rfl rfl) fun _ hS => ?_
  refine sI hS (runs_move rfl) fun _ hS => ?_
  refine sY hS (runs_fieldK fo24_0 rfl) fun _ hS => ?_
  refine sY hS (runs_load rfl pl3 (hM1.at rfl)) fun _ hS => ?_
  by_cases h12 : n > 12
  · skip
    refine sY hS (gtrT rfl rfl (by omega)) fun _ hS => ?_
    refine sI hS (runs_pick rfl rfl) fun _ hS => ?_
    refine nil_ok (wp_cond_true (hS.eval rfl) (qx_seq (reg_seq ?_)))
    refine seq_op hS (by decide) (runs_call (args := []) goes11 rfl (awake_any w3)) (fun v7 w7 a1 hp hS => ?_)
    obtain ⟨rfl, hB7⟩ := hp
    have hB := hB.trans (hB7.mono hB.size)
    have hM1 := hM1.below hB7 hM1.lt
    have hE := hEb.kept hB
    refine sI hS (runs_assign rfl) fun _ hS => ?_
    exact nil_ok (qx_ret (ret1 (t := 2) (by kernel_rfl) hS rfl ⟨_, rfl, rfl, hB⟩))
  refine sY hS (gtrF rfl rfl (by omega)) fun _ hS => ?_
  refine sI hS (runs_pick rfl rfl) fun _ hS => ?_
  refine nil_ok (wp_cond_false (hS.eval rfl) (wp_skip (qx_seq (?_))))
  obtain ⟨XL, XN, XE, hW⟩ : ∃ a b c, wholeL n es 2 0 20 = (a, b, c) := ⟨_, _, _, rfl⟩
  refine reg_seq ?_
  refine sI hS (runs_loadRow rfl hM1 Try.underlying24 rfl (by rw [sz24]; rfl)) fun _ hS => ?_
  refine seq_op hS (by decide) (runs_call (args := [gv n (.slice Ag es.length cg)]) goes13 rfl (own_any n es (by omega) _ w3 hE)) (fun v9 w9 a1 hp hS => ?_)
  obtain ⟨hB9, y1, rfl, hy1⟩ := hp
  have hy1 := hy1.edges
  have hB := hB.trans (hB9.mono hB.size)
  have hM1 := hM1.below hB9 hM1.lt
  have hE := hEb.kept hB
  refine sI hS (runs_buildK (pv := [(0, .string ⟨#[108, 97, 98, 101, 108]⟩), (2, .int .i64 20)]) (cells := #[.string ⟨#[108, 97, 98, 101, 108]⟩, .int .i64 0, .int .i64 20]) rfl (by kernel_rfl)) fun _ hS => ?_
  refine seq_op hS (by decide) (runs_call (args := [gv n y1, .agg #[.string ⟨#[108, 97, 98, 101, 108]⟩, .int .i64 0, .int .i64 20]]) goes14 rfl (whole_is (by omega) w9 hy1 label_kind hW)) (fun v11 w11 a1 hp hS => ?_)
  obtain ⟨x1, rfl, hX, hB11⟩ := hp
  obtain ⟨AX, cX, hsX, hXa, hXb, -⟩ := id hX
  subst hsX
  unfold maxLen at hXb
  have hB := hB.trans (hB11.mono hB.size)
  have hM1 := hM1.below hB11 hM1.lt
  have hE := hEb.kept hB
  have hy1 := hy1.kept hB11
  refine sI hS (runs_move rfl) fun _ hS => ?_
  refine sI hS (runs_extract rfl rfl) fun _ hS => ?_
  refine sI hS (runs_extract rfl rfl) fun _ hS => ?_
  refine sI hS (runs_extract rfl rfl) fun _ hS => ?_
  refine sI hS (runs_assign rfl) fun _ hS => ?_
  refine sI hS (runs_assign rfl) fun _ hS => ?_
  refine sI hS (runs_assign rfl) fun _ hS => ?_
  refine nil_ok (qx_seq (qx_seq (reg_seq ?_)))
  refine sI hS (runs_move rfl) fun _ hS => ?_
  by_cases he : XE ≠ 0
  · skip
    refine sI hS (runs_neq (r := true) rfl rfl (by simpa using he)) fun _ hS => ?_
    refine nil_ok (wp_cond_true (hS.eval rfl) (qx_seq (?_)))
    have hXe : XL = [] := by have h := whole_bad (n := n) (es := es) (k := 2) (src := 0) (steps := 20) (by rw [hW]; exact he); rw [hW] at h; exact h
    refine reg_seq ?_
    refine sI hS (runs_move rfl) fun _ hS => ?_
    refine sI hS (runs_len rfl undI64) fun _ hS => ?_
    refine sI hS (runs_eql (r := true) rfl rfl (by rw [hXe]; rfl)) fun _ hS => ?_
    refine sI hS (runs_assign rfl) fun _ hS => ?_
    exact nil_ok (qx_ret (ret1 (t := 2) (by kernel_rfl) hS rfl ⟨_, rfl, rfl, hB⟩))
  refine sI hS (runs_neq (r := false) rfl rfl (by simpa using he)) fun _ hS => ?_
  refine nil_ok (wp_cond_false (hS.eval rfl) (wp_skip (qx_seq (qx_seq (?_)))))
  obtain rfl : XE = 0 := Classical.not_not.1 he
  obtain ⟨f, hn1, hXl, hXv, hfb, hed, hbe, hown⟩ := label_facts (by omega) hW
  refine reg_seq ?_
  refine sI hS (runs_assign rfl) fun _ hS => ?_
  refine nil_ok (?_)
  have hBo1 := hB
  refine qx_for (fun mm a w' => ∃ (i : Nat), i ≤ es.length ∧ mm = es.length - i ∧ Below w11.heap.size w11 w' ∧ Sees 140 [(6, .int .i64 (i : Int)), (1, .pointer (some ⟨w.heap.size, 0, none⟩)), (3, .slice AX XL.length cX)] a) es.length ⟨0, by omega, by omega, Below.refl _ _, hS.only _ ⟨rfl, rfl, rfl, trivial⟩⟩ ?_
  clear hS
  rintro mm a wl1 ⟨i, hi1, rfl, hBl1, hS⟩
  have hM1 := hM1.below hBl1 hM1.lt
  have hE := hE.kept hBl1
  have hX := hX.kept hBl1
  have hB := Below.refl wl1.heap.size wl1
  have hM1b1 := hM1
  have hEb1 := hE
  have hXb1 := hX
  refine reg_seq ?_
  refine sI hS (runs_move rfl) fun _ hS => ?_
  refine sI hS (runs_fieldK fo24_1 rfl) fun _ hS => ?_
  refine sI hS (runs_load rfl pl22 (hM1.at rfl)) fun _ hS => ?_
  refine sI hS (runs_len rfl und22) fun _ hS => ?_
  by_cases hlt1 : i < es.length
  · skip
    refine sI hS (lssT rfl rfl (by omega)) fun _ hS => ?_
    refine nil_ok ⟨_, hS.eval rfl, fun h => by simp at h, fun _ => ?_⟩
    obtain ⟨e, hei⟩ : ∃ e, es[i]? = some e := ⟨es[i], by simp [hlt1]⟩
    obtain ⟨a, b, c, rfl, hab, hbb, hc0, hc1, hst⟩ := hed e (List.mem_of_getElem? hei)
    obtain ⟨be, oe, hAge, hbwe, hre⟩ := edges_row hE (by omega)
    have hree := edges_at hre hei
    obtain ⟨bx, ox, hAxx, hbwx, hrx⟩ := nums_row hX (by omega)
    have hrnx := nums_at hrx (hXv a hab)
    have hrny := nums_at hrx (hXv b hbb)
    refine qx_seq (qx_block (qx_seq (reg_guard (fun w' => Below wl1.heap.size wl1 w') [.inl (.slice AX XL.length cX), .inl (.pointer (some ⟨w.heap.size, 0 + 1, none⟩)), .inl (.slice Ag es.length cg), .inl (.int .i64 (i : Int)), .inl (.pointer (some ⟨be, oe + i * 3, none⟩)), .inl (.pointer (some ⟨be, oe + i * 3 + 1, none⟩)), .inl (.int .i64 (b : Int)), .inl (.pointer (some ⟨bx, ox + b * 1, none⟩)), .inl (.int .i64 (f b)), .inl (.slice AX XL.length cX), .inl (.pointer (some ⟨w.heap.size, 0 + 1, none⟩)), .inl (.slice Ag es.length cg), .inl (.int .i64 (i : Int)), .inl (.pointer (some ⟨be, oe + i * 3, none⟩)), .inl (.pointer (some ⟨be, oe + i * 3 + 0, none⟩)), .inl (.int .i64 (a : Int)), .inl (.pointer (some ⟨bx, ox + a * 1, none⟩)), .inl (.int .i64 (f a)), .inl (.bool false)] 19 0 mixed rfl (by kernel_rfl) hS (Below.refl _ _) (fun _ h => h.drew) ?_)))
    refine hs_is rfl (fun w' hw => runs_move rfl) ?_
    refine hs_is rfl (fun w' hw => runs_fieldK fo24_1 rfl) ?_
    refine hs_is rfl (fun w' hw => runs_load rfl pl22 ((hM1.below hw hM1.lt).at rfl)) ?_
    refine hs_is rfl (fun w' hw => runs_move rfl) ?_
    refine hs_is rfl (fun w' hw => runs_indexAddrG (j := i) (by rw [← hAge]; rfl) rfl und22 siz45 rfl hlt1) ?_
    refine hs_is rfl (fun w' hw => runs_fieldK fo46_1 rfl) ?_
    refine hs_is rfl (fun w' hw => runs_load rfl pl3 ((range_below hree hw hbwe) 1 (.int .i64 (b : Int)) rfl)) ?_
    refine hs_is rfl (fun w' hw => runs_indexAddrG (j := b) (by rw [← hAxx]; rfl) rfl undI64 siz2 rfl (by omega)) ?_
    refine hs_is rfl (fun w' hw => runs_load rfl pl2 ((range_below hrny hw hbwx) 0 _ rfl)) ?_
    refine hs_is rfl (fun w' hw => runs_move rfl) ?_
    refine hs_is rfl (fun w' hw => runs_fieldK fo24_1 rfl) ?_
    refine hs_is rfl (fun w' hw => runs_load rfl pl22 ((hM1.below hw hM1.lt).at rfl)) ?_
    refine hs_is rfl (fun w' hw => runs_move rfl) ?_
    refine hs_is rfl (fun w' hw => runs_indexAddrG (j := i) (by rw [← hAge]; rfl) rfl und22 siz45 rfl hlt1) ?_
    refine hs_is rfl (fun w' hw => runs_fieldK fo46_0 rfl) ?_
    refine hs_is rfl (fun w' hw => runs_load rfl pl3 ((range_below hree hw hbwe) 0 (.int .i64 (a : Int)) rfl)) ?_
    refine hs_is rfl (fun w' hw => runs_indexAddrG (j := a) (by rw [← hAxx]; rfl) rfl undI64 siz2 rfl (by omega)) ?_
    refine hs_is rfl (fun w' hw => runs_load rfl pl2 ((range_below hrnx hw hbwx) 0 _ rfl)) ?_
    refine hs_is rfl (fun w' hw => runs_gtr (r := false) rfl rfl (decide_eq_false (by omega))) ?_
    refine (fun a13 w13 hS hB13 hq => ?_)
    clear hq
    have hB := hB.trans (hB13.mono hB.size)
    have hM1 := hM1b1.below hB hM1b1.lt
    have hE := hEb1.kept hB
    have hX := hXb1.kept hB
    refine wpAnyH_done (by kernel_rfl) ?_ _
    refine wp_cond_false (hS.eval rfl) (wp_skip (reg_seq ?_))
    refine sI hS (runs_move rfl) fun _ hS => ?_
    refine sI hS (runs_add (r := ((i + 1 : Nat) : Int)) rfl rfl (by simp [IntKind.wrap, IntKind.bits, IntKind.signed]; omega)) fun _ hS => ?_
    refine sI hS (runs_assign rfl) fun _ hS => ?_
    exact nil_ok ⟨_, by omega, i + 1, by omega, rfl, hBl1.trans (hB.mono hBl1.size), hS.only _ ⟨rfl, rfl, rfl, trivial⟩⟩
  refine sI hS (lssF rfl rfl (by omega)) fun _ hS => ?_
  obtain rfl : i = es.length := by omega
  refine nil_ok ⟨_, hS.eval rfl, fun _ => ?_, fun h => by simp at h⟩
  have hB := hBo1.trans ((hBl1.trans (hB.mono hBl1.size)).mono hBo1.size)
  refine qx_seq (qx_seq (reg_seq ?_))
  refine sI hS (runs_assign rfl) fun _ hS => ?_
  refine nil_ok (?_)
  have hBo1 := hB
  refine qx_for (fun mm a w' => ∃ (q : Nat), q ≤ XL.length ∧ mm = XL.length - q ∧ Below wl1.heap.size wl1 w' ∧ Sees 140 [(7, .int .i64 (q : Int)), (1, .pointer (some ⟨w.heap.size, 0, none⟩)), (3, .slice AX XL.length cX)] a) XL.length ⟨0, by omega, by omega, Below.refl _ _, hS.only _ ⟨rfl, rfl, rfl, trivial⟩⟩ ?_
  clear hS
  rintro mm a wl1 ⟨q, hi1, rfl, hBl1, hS⟩
  have hM1 := hM1.below hBl1 hM1.lt
  have hE := hE.kept hBl1
  have hX := hX.kept hBl1
  have hB := Below.refl wl1.heap.size wl1
  refine reg_seq ?_
  refine sI hS (runs_move rfl) fun _ hS => ?_
  refine sI hS (runs_move rfl) fun _ hS => ?_
  refine sI hS (runs_len rfl undI64) fun _ hS => ?_
  by_cases hlt1 : q < XL.length
  · skip
    refine sI hS (lssT rfl rfl (by omega)) fun _ hS => ?_
    refine nil_ok ⟨_, hS.eval rfl, fun h => by simp at h, fun _ => ?_⟩
    have hqn : q < n.toNat := by omega
    obtain ⟨bx, ox, hAxx, hbwx, hrx⟩ := nums_row hX (by omega)
    have hrnx := nums_at hrx (hXv q hqn)
    refine qx_seq (qx_block (qx_seq (reg_seq ?_)))
    refine sI hS (runs_move rfl) fun _ hS => ?_
    refine sI hS (runs_move rfl) fun _ hS => ?_
    refine sI hS (runs_indexAddrG (j := q) (by rw [← hAxx]; rfl) rfl undI64 siz2 rfl (by omega)) fun _ hS => ?_
    refine sI hS (runs_load rfl pl2 (hrnx 0 _ rfl)) fun _ hS => ?_
    refine sI hS (runs_move rfl) fun _ hS => ?_
    refine sI hS (runs_eql (r := (f q == (q : Int))) rfl rfl rfl) fun _ hS => ?_
    refine sI hS (runs_assign rfl) fun _ hS => ?_
    refine nil_ok (qx_seq (qx_seq (reg_seq ?_)))
    refine sI hS (runs_assign rfl) fun _ hS => ?_
    refine nil_ok (?_)
    have hBo2 := hB
    refine qx_for (fun mm a w' => ∃ (i : Nat) (bb : Bool), i ≤ es.length ∧ mm = es.length - i ∧ Below wl1.heap.size wl1 w' ∧ bb = ((f q == (q : Int)) || (es.take i).any (fun e : E => e.2.1 == (q : Int) && f e.1.toNat == f q)) ∧ Sees 140 [(9, .int .i64 (i : Int)), (8, .bool bb), (7, .int .i64 (q : Int)), (1, .pointer (some ⟨w.heap.size, 0, none⟩)), (3, .slice AX XL.length cX)] a) es.length ⟨0, _, by omega, by omega, Below.refl _ _, by simp, hS.only _ ⟨rfl, rfl, rfl, rfl, rfl, trivial⟩⟩ ?_
    clear hS
    rintro mm a wl2 ⟨i, bb, hi2, rfl, hBl2, hF, hS⟩
    have hM1 := hM1.below hBl2 hM1.lt
    have hE := hE.kept hBl2
    have hX := hX.kept hBl2
    have hB := Below.refl wl2.heap.size wl2
    have hM1b2 := hM1
    have hXb2 := hX
    refine reg_seq ?_
    refine sI hS (runs_move rfl) fun _ hS => ?_
    refine sI hS (runs_fieldK fo24_1 rfl) fun _ hS => ?_
    refine sI hS (runs_load rfl pl22 (hM1.at rfl)) fun _ hS => ?_
    refine sI hS (runs_len rfl und22) fun _ hS => ?_
    by_cases hlt2 : i < es.length
    · skip
      refine sI hS (lssT rfl rfl (by omega)) fun _ hS => ?_
      refine nil_ok ⟨_, hS.eval rfl, fun h => by simp at h, fun _ => ?_⟩
      obtain ⟨e, hei⟩ : ∃ e, es[i]? = some e := ⟨es[i], by simp [hlt2]⟩
      obtain ⟨a, b, c, rfl, hab, hbb, hc0, hc1, hst⟩ := hed e (List.mem_of_getElem? hei)
      obtain ⟨be, oe, hAge, hbwe, hre⟩ := edges_row hE (by omega)
      have hree := edges_at hre hei
      obtain ⟨bx, ox, hAxx, hbwx, hrx⟩ := nums_row hX (by omega)
      have hrnx := nums_at hrx (hXv a hab)
      have hrny := nums_at hrx (hXv b hbb)
      have hrnq := nums_at hrx (hXv q hqn)
      refine qx_seq (qx_block (?_))
      cases hbb : bb with
      | true =>
        rw [hbb] at hS hF
        refine reg_u (fun a b => Below a.heap.size a b) (fun w' => Below wl2.heap.size wl2 w') [.inl (.bool true), .inl (.bool true), .inl undef, .inl undef, .inl undef, .inl undef, .inl undef, .inl undef, .inl undef, .inl undef, .inl undef, .inl undef, .inl undef, .inl undef, .inl undef, .inl undef, .inl undef, .inl undef, .inl undef, .inl undef, .inl undef, .inl undef, .inl undef, .inl undef, .inl undef, .inl undef, .inl (.bool true)] 27 1 mixed rfl (by kernel_rfl) hS (Below.refl _ _) (fun _ h => h.drew) ?_
        refine us_is rfl (fun w' hw => runs_move rfl) ?_
        refine us_is rfl (fun w' hw => runs_move rfl) ?_
        refine us_no rfl rfl rfl ?_
        refine us_no rfl rfl rfl ?_
        refine us_no rfl rfl rfl ?_
        refine us_no rfl rfl rfl ?_
        refine us_no rfl rfl rfl ?_
        refine us_no rfl rfl rfl ?_
        refine us_no rfl rfl rfl ?_
        refine us_no rfl rfl rfl ?_
        refine us_no rfl rfl rfl ?_
        refine us_un rfl rfl ?_
        refine us_un rfl rfl ?_
        refine us_un rfl rfl ?_
        refine us_un rfl rfl ?_
        refine us_un rfl rfl ?_
        refine us_un rfl rfl ?_
        refine us_un rfl rfl ?_
        refine us_un rfl rfl ?_
        refine us_un rfl rfl ?_
        refine us_un rfl rfl ?_
        refine us_un rfl rfl ?_
        refine us_un rfl rfl ?_
        refine us_un rfl rfl ?_
        refine us_un rfl rfl ?_
        refine us_no rfl rfl rfl ?_
        refine us_is rfl (fun w' hw => runs_pick rfl rfl) ?_
        refine (fun a15 w15 hS hB15 hq => ?_)
        clear hq
        have hB := hB.trans (hB15.mono hB.size)
        have hM1 := hM1b2.below hB hM1b2.lt
        have hX := hXb2.kept hB
        refine tail_op 27 (by kernel_rfl) rfl hS (by decide) (runs_assign rfl) (fun v17 w17 a17 hp hS => ⟨trivial, ?_⟩)
        obtain ⟨rfl, rfl⟩ := hp
        refine wpAnyH_done (by kernel_rfl) ?_ _
        refine reg_seq ?_
        refine sI hS (runs_move rfl) fun _ hS => ?_
        refine sI hS (runs_add (r := ((i + 1 : Nat) : Int)) rfl rfl (by simp [IntKind.wrap, IntKind.bits, IntKind.signed]; omega)) fun _ hS => ?_
        refine sI hS (runs_assign rfl) fun _ hS => ?_
        exact nil_ok ⟨_, by omega, i + 1, true, by omega, rfl, hBl2.trans (hB.mono hBl2.size), by rw [anyE_take _ hei, ← Bool.or_assoc, ← hF]; rfl, hS.only _ ⟨rfl, rfl, rfl, rfl, rfl, trivial⟩⟩
      | false =>
        rw [hbb] at hS hF
        by_cases hbq : (b : Int) = (q : Int)
        · skip
          by_cases hfa : f a = f q
          · skip
            refine reg_u (fun a b => Below a.heap.size a b) (fun w' => Below wl2.heap.size wl2 w') [.inl (.bool false), .inl (.bool false), .inl (.pointer (some ⟨w.heap.size, 0 + 1, none⟩)), .inl (.slice Ag es.length cg), .inl (.int .i64 (i : Int)), .inl (.pointer (some ⟨be, oe + i * 3, none⟩)), .inl (.pointer (some ⟨be, oe + i * 3 + 1, none⟩)), .inl (.int .i64 (b : Int)), .inl (.int .i64 (q : Int)), .inl (.bool true), .inl (.bool true), .inl (.slice AX XL.length cX), .inl (.pointer (some ⟨w.heap.size, 0 + 1, none⟩)), .inl (.slice Ag es.length cg), .inl (.int .i64 (i : Int)), .inl (.pointer (some ⟨be, oe + i * 3, none⟩)), .inl (.pointer (some ⟨be, oe + i * 3 + 0, none⟩)), .inl (.int .i64 (a : Int)), .inl (.pointer (some ⟨bx, ox + a * 1, none⟩)), .inl (.int .i64 (f a)), .inl (.slice AX XL.length cX), .inl (.int .i64 (q : Int)), .inl (.pointer (some ⟨bx, ox + q * 1, none⟩)), .inl (.int .i64 (f q)), .inl (.bool true), .inl (.bool true), .inl (.bool true)] 27 1 mixed rfl (by kernel_rfl) hS (Below.refl _ _) (fun _ h => h.drew) ?_
            refine us_is rfl (fun w' hw => runs_move rfl) ?_
            refine us_is rfl (fun w' hw => runs_move rfl) ?_
            refine us_yis rfl rfl (fun w' hw => runs_fieldK fo24_1 rfl) ?_
            refine us_yis rfl rfl (fun w' hw => runs_load rfl pl22 ((hM1.below hw hM1.lt).at rfl)) ?_
            refine us_yis rfl rfl (fun w' hw => runs_move rfl) ?_
            refine us_yis rfl rfl (fun w' hw => runs_indexAddrG (j := i) (by rw [← hAge]; rfl) rfl und22 siz45 rfl hlt2) ?_
            refine us_yis rfl rfl (fun w' hw => runs_fieldK fo46_1 rfl) ?_
            refine us_yis rfl rfl (fun w' hw => runs_load rfl pl3 ((range_below hree hw hbwe) 1 (.int .i64 (b : Int)) rfl)) ?_
            refine us_yis rfl rfl (fun w' hw => runs_move rfl) ?_
            refine us_yis rfl rfl (fun w' hw => runs_eql (r := true) rfl rfl (by simpa using hbq)) ?_
            refine us_yis rfl rfl (fun w' hw => runs_move rfl) ?_
            refine us_yis rfl rfl (fun w' hw => runs_move rfl) ?_
            refine us_yis rfl rfl (fun w' hw => runs_fieldK fo24_1 rfl) ?_
            refine us_yis rfl rfl (fun w' hw => runs_load rfl pl22 ((hM1.below hw hM1.lt).at rfl)) ?_
            refine us_yis rfl rfl (fun w' hw => runs_move rfl) ?_
            refine us_yis rfl rfl (fun w' hw => runs_indexAddrG (j := i) (by rw [← hAge]; rfl) rfl und22 siz45 rfl hlt2) ?_
            refine us_yis rfl rfl (fun w' hw => runs_fieldK fo46_0 rfl) ?_
            refine us_yis rfl rfl (fun w' hw => runs_load rfl pl3 ((range_below hree hw hbwe) 0 (.int .i64 (a : Int)) rfl)) ?_
            refine us_yis rfl rfl (fun w' hw => runs_indexAddrG (j := a) (by rw [← hAxx]; rfl) rfl undI64 siz2 rfl (by omega)) ?_
            refine us_yis rfl rfl (fun w' hw => runs_load rfl pl2 ((range_below hrnx hw hbwx) 0 _ rfl)) ?_
            refine us_yis rfl rfl (fun w' hw => runs_move rfl) ?_
            refine us_yis rfl rfl (fun w' hw => runs_move rfl) ?_
            refine us_yis rfl rfl (fun w' hw => runs_indexAddrG (j := q) (by rw [← hAxx]; rfl) rfl undI64 siz2 rfl (by omega)) ?_
            refine us_yis rfl rfl (fun w' hw => runs_load rfl pl2 ((range_below hrnq hw hbwx) 0 _ rfl)) ?_
            refine us_yis rfl rfl (fun w' hw => runs_eql (r := true) rfl rfl (by simpa using hfa)) ?_
            refine us_yis rfl rfl (fun w' hw => runs_pick rfl rfl) ?_
            refine us_is rfl (fun w' hw => runs_pick rfl rfl) ?_
            refine (fun a18 w18 hS hB18 hq => ?_)
            clear hq
            have hB := hB.trans (hB18.mono hB.size)
            have hM1 := hM1b2.below hB hM1b2.lt
            have hX := hXb2.kept hB
            refine tail_op 27 (by kernel_rfl) rfl hS (by decide) (runs_assign rfl) (fun v20 w20 a20 hp hS => ⟨trivial, ?_⟩)
            obtain ⟨rfl, rfl⟩ := hp
            refine wpAnyH_done (by kernel_rfl) ?_ _
            refine reg_seq ?_
            refine sI hS (runs_move rfl) fun _ hS => ?_
            refine sI hS (runs_add (r := ((i + 1 : Nat) : Int)) rfl rfl (by simp [IntKind.wrap, IntKind.bits, IntKind.signed]; omega)) fun _ hS => ?_
            refine sI hS (runs_assign rfl) fun _ hS => ?_
            exact nil_ok ⟨_, by omega, i + 1, true, by omega, rfl, hBl2.trans (hB.mono hBl2.size), by rw [anyE_take _ hei, ← Bool.or_assoc, ← hF]; simp [hbq, hfa], hS.only _ ⟨rfl, rfl, rfl, rfl, rfl, trivial⟩⟩
          · skip
            refine reg_u (fun a b => Below a.heap.size a b) (fun w' => Below wl2.heap.size wl2 w') [.inl (.bool false), .inl (.bool false), .inl (.pointer (some ⟨w.heap.size, 0 + 1, none⟩)), .inl (.slice Ag es.length cg), .inl (.int .i64 (i : Int)), .inl (.pointer (some ⟨be, oe + i * 3, none⟩)), .inl (.pointer (some ⟨be, oe + i * 3 + 1, none⟩)), .inl (.int .i64 (b : Int)), .inl (.int .i64 (q : Int)), .inl (.bool true), .inl (.bool true), .inl (.slice AX XL.length cX), .inl (.pointer (some ⟨w.heap.size, 0 + 1, none⟩)), .inl (.slice Ag es.length cg), .inl (.int .i64 (i : Int)), .inl (.pointer (some ⟨be, oe + i * 3, none⟩)), .inl (.pointer (some ⟨be, oe + i * 3 + 0, none⟩)), .inl (.int .i64 (a : Int)), .inl (.pointer (some ⟨bx, ox + a * 1, none⟩)), .inl (.int .i64 (f a)), .inl (.slice AX XL.length cX), .inl (.int .i64 (q : Int)), .inl (.pointer (some ⟨bx, ox + q * 1, none⟩)), .inl (.int .i64 (f q)), .inl (.bool false), .inl (.bool false), .inl (.bool false)] 27 1 mixed rfl (by kernel_rfl) hS (Below.refl _ _) (fun _ h => h.drew) ?_
            refine us_is rfl (fun w' hw => runs_move rfl) ?_
            refine us_is rfl (fun w' hw => runs_move rfl) ?_
            refine us_yis rfl rfl (fun w' hw => runs_fieldK fo24_1 rfl) ?_
            refine us_yis rfl rfl (fun w' hw => runs_load rfl pl22 ((hM1.below hw hM1.lt).at rfl)) ?_
            refine us_yis rfl rfl (fun w' hw => runs_move rfl) ?_
            refine us_yis rfl rfl (fun w' hw => runs_indexAddrG (j := i) (by rw [← hAge]; rfl) rfl und22 siz45 rfl hlt2) ?_
            refine us_yis rfl rfl (fun w' hw => runs_fieldK fo46_1 rfl) ?_
            refine us_yis rfl rfl (fun w' hw => runs_load rfl pl3 ((range_below hree hw hbwe) 1 (.int .i64 (b : Int)) rfl)) ?_
            refine us_yis rfl rfl (fun w' hw => runs_move rfl) ?_
            refine us_yis rfl rfl (fun w' hw => runs_eql (r := true) rfl rfl (by simpa using hbq)) ?_
            refine us_yis rfl rfl (fun w' hw => runs_move rfl) ?_
            refine us_yis rfl rfl (fun w' hw => runs_move rfl) ?_
            refine us_yis rfl rfl (fun w' hw => runs_fieldK fo24_1 rfl) ?_
            refine us_yis rfl rfl (fun w' hw => runs_load rfl pl22 ((hM1.below hw hM1.lt).at rfl)) ?_
            refine us_yis rfl rfl (fun w' hw => runs_move rfl) ?_
            refine us_yis rfl rfl (fun w' hw => runs_indexAddrG (j := i) (by rw [← hAge]; rfl) rfl und22 siz45 rfl hlt2) ?_
            refine us_yis rfl rfl (fun w' hw => runs_fieldK fo46_0 rfl) ?_
            refine us_yis rfl rfl (fun w' hw => runs_load rfl pl3 ((range_below hree hw hbwe) 0 (.int .i64 (a : Int)) rfl)) ?_
            refine us_yis rfl rfl (fun w' hw => runs_indexAddrG (j := a) (by rw [← hAxx]; rfl) rfl undI64 siz2 rfl (by omega)) ?_
            refine us_yis rfl rfl (fun w' hw => runs_load rfl pl2 ((range_below hrnx hw hbwx) 0 _ rfl)) ?_
            refine us_yis rfl rfl (fun w' hw => runs_move rfl) ?_
            refine us_yis rfl rfl (fun w' hw => runs_move rfl) ?_
            refine us_yis rfl rfl (fun w' hw => runs_indexAddrG (j := q) (by rw [← hAxx]; rfl) rfl undI64 siz2 rfl (by omega)) ?_
            refine us_yis rfl rfl (fun w' hw => runs_load rfl pl2 ((range_below hrnq hw hbwx) 0 _ rfl)) ?_
            refine us_yis rfl rfl (fun w' hw => runs_eql (r := false) rfl rfl (by simpa using hfa)) ?_
            refine us_yis rfl rfl (fun w' hw => runs_pick rfl rfl) ?_
            refine us_is rfl (fun w' hw => runs_pick rfl rfl) ?_
            refine (fun a21 w21 hS hB21 hq => ?_)
            clear hq
            have hB := hB.trans (hB21.mono hB.size)
            have hM1 := hM1b2.below hB hM1b2.lt
            have hX := hXb2.kept hB
            refine tail_op 27 (by kernel_rfl) rfl hS (by decide) (runs_assign rfl) (fun v23 w23 a23 hp hS => ⟨trivial, ?_⟩)
            obtain ⟨rfl, rfl⟩ := hp
            refine wpAnyH_done (by kernel_rfl) ?_ _
            refine reg_seq ?_
            refine sI hS (runs_move rfl) fun _ hS => ?_
            refine sI hS (runs_add (r := ((i + 1 : Nat) : Int)) rfl rfl (by simp [IntKind.wrap, IntKind.bits, IntKind.signed]; omega)) fun _ hS => ?_
            refine sI hS (runs_assign rfl) fun _ hS => ?_
            exact nil_ok ⟨_, by omega, i + 1, false, by omega, rfl, hBl2.trans (hB.mono hBl2.size), by rw [anyE_take _ hei, ← Bool.or_assoc, ← hF]; simp [hfa], hS.only _ ⟨rfl, rfl, rfl, rfl, rfl, trivial⟩⟩
        · skip
          refine reg_u (fun a b => Below a.heap.size a b) (fun w' => Below wl2.heap.size wl2 w') [.inl (.bool false), .inl (.bool false), .inl (.pointer (some ⟨w.heap.size, 0 + 1, none⟩)), .inl (.slice Ag es.length cg), .inl (.int .i64 (i : Int)), .inl (.pointer (some ⟨be, oe + i * 3, none⟩)), .inl (.pointer (some ⟨be, oe + i * 3 + 1, none⟩)), .inl (.int .i64 (b : Int)), .inl (.int .i64 (q : Int)), .inl (.bool false), .inl (.bool false), .inl undef, .inl undef, .inl undef, .inl undef, .inl undef, .inl undef, .inl undef, .inl undef, .inl undef, .inl undef, .inl undef, .inl undef, .inl undef, .inl undef, .inl (.bool false), .inl (.bool false)] 27 1 mixed rfl (by kernel_rfl) hS (Below.refl _ _) (fun _ h => h.drew) ?_
          refine us_is rfl (fun w' hw => runs_move rfl) ?_
          refine us_is rfl (fun w' hw => runs_move rfl) ?_
          refine us_yis rfl rfl (fun w' hw => runs_fieldK fo24_1 rfl) ?_
          refine us_yis rfl rfl (fun w' hw => runs_load rfl pl22 ((hM1.below hw hM1.lt).at rfl)) ?_
          refine us_yis rfl rfl (fun w' hw => runs_move rfl) ?_
          refine us_yis rfl rfl (fun w' hw => runs_indexAddrG (j := i) (by rw [← hAge]; rfl) rfl und22 siz45 rfl hlt2) ?_
          refine us_yis rfl rfl (fun w' hw => runs_fieldK fo46_1 rfl) ?_
          refine us_yis rfl rfl (fun w' hw => runs_load rfl pl3 ((range_below hree hw hbwe) 1 (.int .i64 (b : Int)) rfl)) ?_
          refine us_yis rfl rfl (fun w' hw => runs_move rfl) ?_
          refine us_yis rfl rfl (fun w' hw => runs_eql (r := false) rfl rfl (by simpa using hbq)) ?_
          refine us_yis rfl rfl (fun w' hw => runs_move rfl) ?_
          refine us_no rfl rfl rfl ?_
          refine us_no rfl rfl rfl ?_
          refine us_no rfl rfl rfl ?_
          refine us_no rfl rfl rfl ?_
          refine us_no rfl rfl rfl ?_
          refine us_no rfl rfl rfl ?_
          refine us_no rfl rfl rfl ?_
          refine us_no rfl rfl rfl ?_
          refine us_no rfl rfl rfl ?_
          refine us_no rfl rfl rfl ?_
          refine us_no rfl rfl rfl ?_
          refine us_no rfl rfl rfl ?_
          refine us_no rfl rfl rfl ?_
          refine us_no rfl rfl rfl ?_
          refine us_yis rfl rfl (fun w' hw => runs_pick rfl rfl) ?_
          refine us_is rfl (fun w' hw => runs_pick rfl rfl) ?_
          refine (fun a24 w24 hS hB24 hq => ?_)
          clear hq
          have hB := hB.trans (hB24.mono hB.size)
          have hX := hXb2.kept hB
          refine tail_op 27 (by kernel_rfl) rfl hS (by decide) (runs_assign rfl) (fun v26 w26 a26 hp hS => ⟨trivial, ?_⟩)
          obtain ⟨rfl, rfl⟩ := hp
          refine wpAnyH_done (by kernel_rfl) ?_ _
          refine reg_seq ?_
          refine sI hS (runs_move rfl) fun _ hS => ?_
          refine sI hS (runs_add (r := ((i + 1 : Nat) : Int)) rfl rfl (by simp [IntKind.wrap, IntKind.bits, IntKind.signed]; omega)) fun _ hS => ?_
          refine sI hS (runs_assign rfl) fun _ hS => ?_
          exact nil_ok ⟨_, by omega, i + 1, false, by omega, rfl, hBl2.trans (hB.mono hBl2.size), by rw [anyE_take _ hei, ← Bool.or_assoc, ← hF]; simp [hbq], hS.only _ ⟨rfl, rfl, rfl, rfl, rfl, trivial⟩⟩
    refine sI hS (lssF rfl rfl (by omega)) fun _ hS => ?_
    obtain rfl : i = es.length := by omega
    refine nil_ok ⟨_, hS.eval rfl, fun _ => ?_, fun h => by simp at h⟩
    have hB := hBo2.trans ((hBl2.trans (hB.mono hBl2.size)).mono hBo2.size)
    rw [List.take_length] at hF
    obtain rfl : bb = true := by
      rw [hF]
      rw [Bool.or_eq_true, beq_iff_eq, List.any_eq_true]
      rcases hbe q hqn with h | ⟨e, he1, he2, he3⟩
      · exact .inl h
      · exact .inr ⟨e, he1, by simp [he2, he3]⟩
    refine qx_seq (?_)
    obtain ⟨h1, h2, h3⟩ := hown q hqn
    obtain ⟨p, hp⟩ : ∃ p : Nat, f q = p := ⟨(f q).toNat, by omega⟩
    rw [hp, Int.toNat_natCast] at h3
    have hpn : p < n.toNat := by omega
    obtain ⟨bx, ox, hAxx, hbwx, hrx⟩ := nums_row hX (by omega)
    have hrnx := nums_at hrx (hXv q hqn)
    have hrnp := nums_at hrx (hXv p hpn)
    rw [hp] at hrnx h1 h2
    refine reg_guard (fun w' => Below wl2.heap.size wl2 w') [.inl (.bool true), .inl (.bool false), .inl (.bool false), .inl (.slice AX XL.length cX), .inl (.int .i64 (q : Int)), .inl (.pointer (some ⟨bx, ox + q * 1, none⟩)), .inl (.int .i64 (p : Int)), .inl (.bool false), .inl (.bool false), .inl (.bool false), .inl (.slice AX XL.length cX), .inl (.int .i64 (q : Int)), .inl (.pointer (some ⟨bx, ox + q * 1, none⟩)), .inl (.int .i64 (p : Int)), .inl (.int .i64 (q : Int)), .inl (.bool false), .inl (.bool false), .inl (.bool false), .inl (.slice AX XL.length cX), .inl (.slice AX XL.length cX), .inl (.int .i64 (q : Int)), .inl (.pointer (some ⟨bx, ox + q * 1, none⟩)), .inl (.int .i64 (p : Int)), .inl (.pointer (some ⟨bx, ox + p * 1, none⟩)), .inl (.int .i64 (f p)), .inl (.slice AX XL.length cX), .inl (.int .i64 (q : Int)), .inl (.pointer (some ⟨bx, ox + q * 1, none⟩)), .inl (.int .i64 (p : Int)), .inl (.bool false), .inl (.bool false)] 31 0 mixed rfl (by kernel_rfl) hS (Below.refl _ _) (fun _ h => h.drew) ?_
    refine hs_is rfl (fun w' hw => runs_move rfl) ?_
    refine hs_is rfl (fun w' hw => runs_not (b := true) rfl) ?_
    refine hs_is rfl (fun w' hw => runs_move rfl) ?_
    refine hs_yis rfl rfl (fun w' hw => runs_move rfl) ?_
    refine hs_yis rfl rfl (fun w' hw => runs_move rfl) ?_
    refine hs_yis rfl rfl (fun w' hw => runs_indexAddrG (j := q) (by rw [← hAxx]; rfl) rfl undI64 siz2 rfl (by omega)) ?_
    refine hs_yis rfl rfl (fun w' hw => runs_load rfl pl2 ((range_below hrnx hw hbwx) 0 _ rfl)) ?_
    refine hs_yis rfl rfl (fun w' hw => runs_lss (r := false) rfl rfl (decide_eq_false (by omega))) ?_
    refine hs_is rfl (fun w' hw => runs_pick rfl rfl) ?_
    refine hs_is rfl (fun w' hw => runs_move rfl) ?_
    refine hs_yis rfl rfl (fun w' hw => runs_move rfl) ?_
    refine hs_yis rfl rfl (fun w' hw => runs_move rfl) ?_
    refine hs_yis rfl rfl (fun w' hw => runs_indexAddrG (j := q) (by rw [← hAxx]; rfl) rfl undI64 siz2 rfl (by omega)) ?_
    refine hs_yis rfl rfl (fun w' hw => runs_load rfl pl2 ((range_below hrnx hw hbwx) 0 _ rfl)) ?_
    refine hs_yis rfl rfl (fun w' hw => runs_move rfl) ?_
    refine hs_yis rfl rfl (fun w' hw => runs_gtr (r := false) rfl rfl (decide_eq_false (by omega))) ?_
    refine hs_is rfl (fun w' hw => runs_pick rfl rfl) ?_
    refine hs_is rfl (fun w' hw => runs_move rfl) ?_
    refine hs_yis rfl rfl (fun w' hw => runs_move rfl) ?_
    refine hs_yis rfl rfl (fun w' hw => runs_move rfl) ?_
    refine hs_yis rfl rfl (fun w' hw => runs_move rfl) ?_
    refine hs_yis rfl rfl (fun w' hw => runs_indexAddrG (j := q) (by rw [← hAxx]; rfl) rfl undI64 siz2 rfl (by omega)) ?_
    refine hs_yis rfl rfl (fun w' hw => runs_load rfl pl2 ((range_below hrnx hw hbwx) 0 _ rfl)) ?_
    refine hs_yis rfl rfl (fun w' hw => runs_indexAddrG (j := p) (by rw [← hAxx]; rfl) rfl undI64 siz2 rfl (by omega)) ?_
    refine hs_yis rfl rfl (fun w' hw => runs_load rfl pl2 ((range_below hrnp hw hbwx) 0 _ rfl)) ?_
    refine hs_yis rfl rfl (fun w' hw => runs_move rfl) ?_
    refine hs_yis rfl rfl (fun w' hw => runs_move rfl) ?_
    refine hs_yis rfl rfl (fun w' hw => runs_indexAddrG (j := q) (by rw [← hAxx]; rfl) rfl undI64 siz2 rfl (by omega)) ?_
    refine hs_yis rfl rfl (fun w' hw => runs_load rfl pl2 ((range_below hrnx hw hbwx) 0 _ rfl)) ?_
    refine hs_yis rfl rfl (fun w' hw => runs_neq (r := false) rfl rfl (by rw [h3]; simp)) ?_
    refine hs_is rfl (fun w' hw => runs_pick rfl rfl) ?_
    refine (fun a27 w27 hS hB27 hq => ?_)
    clear hq
    have hB := hB.trans (hB27.mono hB.size)
    refine wpAnyH_done (by kernel_rfl) ?_ _
    refine wp_cond_false (hS.eval rfl) (wp_skip (reg_seq ?_))
    refine sI hS (runs_move rfl) fun _ hS => ?_
    refine sI hS (runs_add (r := ((q + 1 : Nat) : Int)) rfl rfl (by simp [IntKind.wrap, IntKind.bits, IntKind.signed]; omega)) fun _ hS => ?_
    refine sI hS (runs_assign rfl) fun _ hS => ?_
    exact nil_ok ⟨_, by omega, q + 1, by omega, rfl, hBl1.trans (hB.mono hBl1.size), hS.only _ ⟨rfl, rfl, rfl, trivial⟩⟩
  refine sI hS (lssF rfl rfl (by omega)) fun _ hS => ?_
  obtain rfl : q = XL.length := by omega
  refine nil_ok ⟨_, hS.eval rfl, fun _ => ?_, fun h => by simp at h⟩
  have hB := hBo1.trans ((hBl1.trans (hB.mono hBl1.size)).mono hBo1.size)
  refine qx_seq (reg_seq ?_)
  refine sI hS (runs_assign rfl) fun _ hS => ?_
  exact nil_ok (qx_ret (ret1 (t := 2) (by kernel_rfl) hS rfl ⟨_, rfl, rfl, hB⟩))
end Go.Proofs.Ytapcpmalgdhakaa
