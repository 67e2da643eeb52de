/- modillionlaw08.FoldSplits, walked. Conditions: that each To is a whole number of 64 bits. -/
import Derived.Test.YthenbmalnmaofaaFAwake
import Derived.Test.YthenbmalnmaofaaFRSplit
namespace Go.Proofs.Ythenbmalnmaofaa
open Go.RowKit
open Part (own own_range)
set_option maxRecDepth 100000

theorem split_upto (k : Int) (l : List E) : ∀ m : Nat, (((List.range m).map fun j => sortM (ptL k l j)).flatten).Perm (l.filter fun e => decide (0 ≤ own e.2.1 k) && decide (own e.2.1 k < (m : Int)))
  | 0 => by
    rw [List.range_zero, List.map_nil, List.flatten_nil]
    have : (l.filter fun e => decide (0 ≤ own e.2.1 k) && decide (own e.2.1 k < ((0 : Nat) : Int))) = [] := List.filter_eq_nil_iff.2 (fun e _ => by rw [Bool.and_eq_true, decide_eq_true_eq, decide_eq_true_eq]; omega)
    rw [this]
  | m + 1 => by
    rw [List.range_succ, List.map_append, List.flatten_append]
    have ih := split_upto k l m
    have h1 : ([m].map fun j => sortM (ptL k l j)).flatten = sortM (ptL k l m) := by simp
    rw [h1]
    refine (ih.append (sortM_perm _)).trans ?_
    have h2 := List.filter_append_perm (fun e : E => decide (own e.2.1 k < (m : Int))) (l.filter fun e => decide (0 ≤ own e.2.1 k) && decide (own e.2.1 k < ((m + 1 : Nat) : Int)))
    rw [List.filter_filter, List.filter_filter] at h2
    have e1 : (l.filter fun e => decide (own e.2.1 k < (m : Int)) && (decide (0 ≤ own e.2.1 k) && decide (own e.2.1 k < ((m + 1 : Nat) : Int)))) = l.filter fun e => decide (0 ≤ own e.2.1 k) && decide (own e.2.1 k < (m : Int)) := List.filter_congr (fun e _ => by
      rw [Bool.eq_iff_iff]; simp only [Bool.and_eq_true, decide_eq_true_eq]; omega)
    have e2 : (l.filter fun e => (!decide (own e.2.1 k < (m : Int))) && (decide (0 ≤ own e.2.1 k) && decide (own e.2.1 k < ((m + 1 : Nat) : Int)))) = ptL k l m := List.filter_congr (fun e _ => by
      rw [Bool.eq_iff_iff]; simp only [Bool.and_eq_true, decide_eq_true_eq, Bool.not_eq_true', decide_eq_false_iff_not, beq_iff_eq]; omega)
    rw [e1, e2] at h2
    exact h2
theorem split_perm {k : Int} {l : List E} (h : splitOk k l = true) : (splitL k l).flatten.Perm l := by
  obtain ⟨h1, h2, h3⟩ := splitOk_iff.1 h
  have := split_upto k l k.toNat
  rw [List.filter_eq_self.2 (fun e he => by
    obtain ⟨r1, r2⟩ := own_range (negB_no h3 he) h1 h2
    simp; omega)] at this
  exact this
theorem flat_snoc {ls : List (List E)} {i : Nat} {x : List E} (h : ls[i]? = some x) : (ls.take (i + 1)).flatten = (ls.take i).flatten ++ x := by
  rw [List.take_add_one, h, Option.toList_some, List.flatten_append]; simp
theorem flat_le (ls : List (List E)) (i : Nat) : (ls.take i).flatten.length ≤ ls.flatten.length := by
  have : (ls.take i).flatten ++ (ls.drop i).flatten = ls.flatten := by rw [← List.flatten_append, List.take_append_drop]
  rw [← this, List.length_append]; omega
section
variable {L : List (Nat × Value)} {w : World} {ty : TypeId}
theorem app_plain {B n g c0 : Nat} {s x : Operand} {v : Value} {xs es : List E} (hE : Edges w v es) (hn : xs.length + es.length ≤ 100000) (hB : B ≤ w.heap.size) (hs : vals L s = some (.slice (some ⟨g, 0, none⟩) xs.length c0)) (hown : w.ownsRow B 41 3 (.slice (some ⟨g, 0, none⟩) xs.length c0) xs.length (cellsE xs)) (hx : vals L x = some v) (hn' : n = xs.length + es.length) :
    Runs Try.prog (.call { callee := .builtin .append, args := #[s, x], argTypes := #[22, 22] }) ty L w (fun u w2 => (∃ g2 c2, u = .slice (some ⟨g2, 0, none⟩) n c2) ∧ w2.ownsRow B 41 3 u n (cellsE (xs ++ es)) ∧ Below B w w2) := by
  subst hn'
  obtain ⟨i48, hi48, hz48, hs48, hb48⟩ := info_parts inf48
  obtain ⟨A, c, rfl, hc1, hc2, hA⟩ := hE
  by_cases hz : es.length = 0
  · obtain rfl : es = [] := List.eq_nil_of_length_eq_zero hz
    have hcc : xs.length ≤ c0 := by
      rcases hown.2 with ⟨e, _⟩ | ⟨g1, c1, cur, e, _, _, h, _⟩
      · cases e
      · cases e; exact h
    refine (runs_appendNone und32 hi48 hs hcc (by simp) hx).mono ?_
    rintro u w2 ⟨rfl, rfl⟩
    exact ⟨⟨g, c0, rfl⟩, by simpa using hown, Below.refl _ _⟩
  · obtain ⟨b, o, rfl, hb, hr⟩ := hA (Nat.pos_of_ne_zero hz)
    refine (runs_appendN (news := cellsE es) und32 hi48 hz48 hs48 hb48 rfl (by omega) hs hown hx (cellsE_length es) (fun j u hu => by rw [add_lit']; exact hr j u hu) (cellsE_onecell es) (by unfold maxLen; omega) (by omega) hB (Nat.pos_of_ne_zero hz)).mono ?_
    rintro u w2 ⟨h2, h3, h4⟩
    rw [cellsE_append]
    refine ⟨?_, h2, below_grown (Below.refl _ _) h3 (fun k hk => (hown.lt k hk).1) hB⟩
    rcases h2.2 with ⟨e, _⟩ | ⟨g3, c3, _, rfl, _⟩
    · exact absurd e h4
    · exact ⟨g3, c3, rfl⟩
end
set_option maxHeartbeats 1000000 in
theorem splits_any (k : Int) (l : List E) (hto : ∀ e ∈ l, e.2.1 < 9223372036854775808) (v : Value) (w : World) (hE : Edges w v l) : Ans 5 [.int .i64 k, v] w (fun u w' => u = .bool true ∧ Below w.heap.size w w') := by
  obtain ⟨A, c, rfl, h1, h2, hA⟩ := hE
  have hE : Edges w (.slice A l.length c) l := ⟨A, c, rfl, h1, h2, hA⟩
  refine calls_qx (args := [.int .i64 k, .slice A l.length c]) 80 Try.func5 rfl (by kernel_rfl) (by simp) (fun a hS => ?_)
  have hB := Below.refl w.heap.size w
  have hEb := hE
  refine qx_seq (reg_seq ?_)
  refine sI hS (runs_assign rfl) fun _ hS => ?_
  refine nil_ok (qx_seq (qx_seq (reg_seq ?_)))
  refine sI hS (runs_move rfl) fun _ hS => ?_
  refine seq_op hS (by decide) (runs_call (args := [.slice A l.length c]) goes9 rfl (awakes_any _ w)) (fun v1 w1 a1 hp hS => ?_)
  obtain ⟨rfl, hB1⟩ := hp
  have hZ2 := hB1.size
  have hB := hB.trans (hB1.mono hB.size)
  have hE := hEb.kept hB
  refine sI hS (runs_not (b := true) rfl) fun _ hS => ?_
  refine sI hS (runs_move rfl) fun _ hS => ?_
  refine sY hS (runs_move rfl) fun _ hS => ?_
  refine sY hS (runs_len rfl und32) fun _ hS => ?_
  by_cases h40 : ((l.length : Nat) : Int) > 40
  · skip
    refine sY hS (gtrT rfl rfl (by omega)) fun _ hS => ?_
    refine sI hS (runs_pick rfl rfl) fun _ hS => ?_
    refine nil_ok (wp_cond_true (hS.eval rfl) (qx_seq (reg_seq ?_)))
    refine sI hS (runs_move rfl) fun _ hS => ?_
    refine seq_op hS (by decide) (runs_call (args := [.slice A l.length c]) goes9 rfl (awakes_any _ w1)) (fun v3 w3 a1 hp hS => ?_)
    obtain ⟨rfl, hB3⟩ := hp
    have hB := hB.trans (hB3.mono hB.size)
    have hE := hEb.kept hB
    refine sI hS (runs_assign rfl) fun _ hS => ?_
    exact nil_ok (qx_ret (ret1 (t := 4) (by kernel_rfl) hS rfl ⟨_, rfl, rfl, hB⟩))
  refine sY hS (gtrF rfl rfl (by omega)) fun _ hS => ?_
  refine sI hS (runs_pick rfl rfl) fun _ hS => ?_
  refine nil_ok (wp_cond_false (hS.eval rfl) (wp_skip (qx_seq (?_))))
  by_cases hok : splitOk k l = true
  · skip
    have hper := split_perm hok
    have hfl := hper.length_eq
    have lsn : (splitL k l).length ≤ 64 := by rw [splitL_length]; have := splitOk_iff.1 hok; omega
    obtain ⟨LS, hLS⟩ : ∃ LS, splitL k l = LS := ⟨_, rfl⟩
    rw [hLS] at hper hfl lsn
    refine reg_seq ?_
    refine sI hS (runs_move rfl) fun _ hS => ?_
    refine sI hS (runs_move rfl) fun _ hS => ?_
    refine seq_op hS (by decide) (runs_call (args := [.slice A l.length c]) goes12 rfl (own_any l (by omega) _ w1 hE)) (fun v5 w5 a1 hp hS => ?_)
    obtain ⟨hB5, hown1⟩ := hp
    have hO1 := edges_ownE hown1 rfl
    have hB := hB.trans (hB5.mono hB.size)
    have hE := hEb.kept hB
    refine seq_op hS (by decide) (runs_call (args := [.int .i64 k, v5]) goes20 rfl (split_any k l (by omega) _ w5 hO1)) (fun v7 w7 a1 hp hS => ?_)
    obtain ⟨hB7, xs, rfl, hx1, _⟩ := hp
    have hRs := hx1 hok
    clear hx1
    rw [hok] at hS
    rw [hLS] at hRs
    have hsh := hRs
    obtain ⟨gxs, oxs, cxs, rfl, _⟩ := hsh
    have hB := hB.trans (hB7.mono hB.size)
    have hE := hEb.kept hB
    have hO1 := hO1.kept hB7
    refine sI hS (runs_move rfl) fun _ hS => ?_
    refine sI hS (runs_extract rfl rfl) fun _ hS => ?_
    refine sI hS (runs_extract rfl rfl) fun _ hS => ?_
    refine sI hS (runs_assign rfl) fun _ hS => ?_
    refine sI hS (runs_assign rfl) fun _ hS => ?_
    refine nil_ok (qx_seq (reg_seq ?_))
    refine sI hS (runs_move rfl) fun _ hS => ?_
    refine sI hS (runs_move rfl) fun _ hS => ?_
    refine seq_op hS (by decide) (runs_call (args := [.int .i64 k, .slice A l.length c]) goes21 rfl (rsplit_any k l (by omega) hto _ w7 hE)) (fun v9 w9 a1 hp hS => ?_)
    obtain ⟨hB9, xt, rfl, hx1, _⟩ := hp
    have hRt := hx1 hok
    clear hx1
    rw [hok] at hS
    rw [hLS] at hRt
    have hsh := hRt
    obtain ⟨gxt, oxt, cxt, rfl, _⟩ := hsh
    have hZ10 := hB9.size
    have hB := hB.trans (hB9.mono hB.size)
    have hE := hEb.kept hB
    have hO1 := hO1.kept hB9
    have hRs := hRs.kept hB9
    refine sI hS (runs_move rfl) fun _ hS => ?_
    refine sI hS (runs_extract rfl rfl) fun _ hS => ?_
    refine sI hS (runs_extract rfl rfl) fun _ hS => ?_
    refine sI hS (runs_assign rfl) fun _ hS => ?_
    refine sI hS (runs_assign rfl) fun _ hS => ?_
    refine nil_ok (qx_seq (qx_seq (reg_seq ?_)))
    refine sI hS (runs_move rfl) fun _ hS => ?_
    refine sI hS (runs_not (b := true) rfl) fun _ hS => ?_
    refine nil_ok (wp_cond_false (hS.eval rfl) (wp_skip (qx_seq (qx_seq (reg_seq ?_)))))
    refine sI hS (runs_move rfl) fun _ hS => ?_
    refine sI hS (runs_neq (r := false) rfl rfl (by simp)) fun _ hS => ?_
    refine sI hS (runs_move rfl) fun _ hS => ?_
    refine sY hS (runs_move rfl) fun _ hS => ?_
    refine sY hS (runs_len rfl undMM) fun _ hS => ?_
    refine sY hS (runs_move rfl) fun _ hS => ?_
    refine sY hS (runs_len rfl undMM) fun _ hS => ?_
    refine sY hS (runs_neq (r := false) rfl rfl (by simp)) fun _ hS => ?_
    refine sI hS (runs_pick rfl rfl) fun _ hS => ?_
    refine nil_ok (wp_cond_false (hS.eval rfl) (wp_skip (qx_seq (?_))))
    have hBS := hB
    have hBS1 := hB.size
    have hEb := hE
    have hRsb := hRs
    have hRtb := hRt
    have hB := Below.refl w9.heap.size w9
    refine reg_seq ?_
    refine seq_op hS (by decide) (none_ownM (B := w9.heap.size) (Nat.le_refl _)) (fun v11 w11 a1 hp hS => ?_)
    obtain ⟨⟨g, rfl, h0⟩, hB11⟩ := hp
    have hB := hB.trans (hB11.mono hB.size)
    have hE := hE.kept hB11
    have hRs := hRs.kept hB11
    have hRt := hRt.kept hB11
    refine sI hS (runs_assign rfl) fun _ hS => ?_
    refine nil_ok (qx_seq (qx_seq (reg_seq ?_)))
    refine sI hS (runs_assign rfl) fun _ hS => ?_
    refine nil_ok (?_)
    refine qx_for (fun mm a w' => ∃ (i : Nat) (ga ca : Nat), i ≤ LS.length ∧ mm = LS.length - i ∧ Below w9.heap.size w9 w' ∧ w'.ownsRow w9.heap.size 41 3 (.slice (some ⟨ga, 0, none⟩) ((LS.take i).flatten).length ca) ((LS.take i).flatten).length (cellsE ((LS.take i).flatten)) ∧ Sees 80 [(10, .int .i64 (i : Int)), (9, .slice (some ⟨ga, 0, none⟩) ((LS.take i).flatten).length ca), (7, .slice (some ⟨gxt, oxt, none⟩) LS.length cxt), (5, .slice (some ⟨gxs, oxs, none⟩) LS.length cxs), (1, .slice A l.length c)] a) LS.length ⟨0, g, 0, by omega, by omega, hB, h0, hS.only _ ⟨rfl, rfl, rfl, rfl, rfl, trivial⟩⟩ ?_
    clear hS 
    rintro mm a wl1 ⟨i, ga, ca, hi1, rfl, hBb1, hown, hS⟩
    have hBsz1 := hBb1.size
    have hE := hEb.kept hBb1
    have hRs := hRsb.kept hBb1
    have hRt := hRtb.kept hBb1
    have hB := Below.refl wl1.heap.size wl1
    have hEb1 := hE
    have hRsb1 := hRs
    refine reg_seq ?_
    refine sI hS (runs_move rfl) fun _ hS => ?_
    refine sI hS (runs_move rfl) fun _ hS => ?_
    refine sI hS (runs_len rfl undMM) fun _ hS => ?_
    by_cases hlt1 : i < LS.length
    · skip
      refine sI hS (lssT rfl rfl (by omega)) fun _ hS => ?_
      refine nil_ok ⟨_, hS.eval rfl, fun h => by simp at h, fun _ => ?_⟩
      obtain ⟨x, hxi⟩ : ∃ x, LS[i]? = some x := ⟨LS[i], by simp [hlt1]⟩
      have hfl1 := flat_le LS i
      have hfl2 := flat_le LS (i + 1)
      have hsn := flat_snoc hxi
      rw [hsn, List.length_append] at hfl2
      have hownb := hown
      refine qx_seq (qx_block (qx_seq (qx_seq (?_))))
      obtain ⟨g9s, o9s, c9s, hv9s, _, hg9s, vss, hvls, hvrs, hves⟩ := hRs
      cases hv9s
      obtain ⟨us, hus⟩ : ∃ u, vss[i]? = some u := ⟨_, List.getElem?_eq_getElem (by rw [hvls]; exact hlt1)⟩
      have hcus := hvrs i _ hus
      have heus := hves i _ _ hus hxi
      obtain ⟨g9t, o9t, c9t, hv9t, _, hg9t, vst, hvlt, hvrt, hvet⟩ := hRt
      cases hv9t
      obtain ⟨ut, hut⟩ : ∃ u, vst[i]? = some u := ⟨_, List.getElem?_eq_getElem (by rw [hvlt]; exact hlt1)⟩
      have hcut := hvrt i _ hut
      have heut := hvet i _ _ hut hxi
      refine reg_guard (fun w' => Below wl1.heap.size wl1 w') [.inl (.slice (some ⟨gxs, oxs, none⟩) LS.length cxs), .inl (.int .i64 (i : Int)), .inl (.pointer (some ⟨gxs, oxs + i * 1, none⟩)), .inl (us), .inl (.slice (some ⟨gxt, oxt, none⟩) LS.length cxt), .inl (.int .i64 (i : Int)), .inl (.pointer (some ⟨gxt, oxt + i * 1, none⟩)), .inl (ut), .inl (.bool true), .inl (.bool false)] 10 0 mixed rfl (by kernel_rfl) hS (Below.refl _ _) (fun _ h => h.drew) ?_
      refine hs_is rfl (fun w' hw => runs_move rfl) ?_
      refine hs_is rfl (fun w' hw => runs_move rfl) ?_
      refine hs_is rfl (fun w' hw => runs_indexAddrG (j := i) rfl rfl undMM s1_22 rfl hlt1) ?_
      refine hs_is rfl (fun w' hw => runs_load rfl pl22 (by rw [Nat.mul_one, hw.cell (p := ⟨gxs, oxs + i, none⟩) hg9s]; exact hcus)) ?_
      refine hs_is rfl (fun w' hw => runs_move rfl) ?_
      refine hs_is rfl (fun w' hw => runs_move rfl) ?_
      refine hs_is rfl (fun w' hw => runs_indexAddrG (j := i) rfl rfl undMM s1_22 rfl hlt1) ?_
      refine hs_is rfl (fun w' hw => runs_load rfl pl22 (by rw [Nat.mul_one, hw.cell (p := ⟨gxt, oxt + i, none⟩) hg9t]; exact hcut)) ?_
      refine hs_val rfl (fun w' hw hq => (runs_call (args := [us, ut]) goes10 rfl (msame_any x x us ut w' (heus.kept hw) (heut.kept hw))).mono (by rintro v w5 ⟨rfl, hb⟩; exact ⟨by simp, hw.trans (hb.mono hw.size), hb⟩)) ?_
      refine hs_is rfl (fun w' hw => runs_not (b := true) rfl) ?_
      refine (fun a13 w13 hS hB13 hq => ?_)
      clear hq
      have hB := hB.trans (hB13.mono hB.size)
      have hE := hEb1.kept hB
      have hRs := hRsb1.kept hB
      have hown := owns_kept hown hB13
      refine wpAnyH_done (by kernel_rfl) ?_ _
      refine wp_cond_false (hS.eval rfl) (wp_skip (reg_seq ?_))
      refine sI hS (runs_move rfl) fun _ hS => ?_
      refine sI hS (runs_move rfl) fun _ hS => ?_
      refine sI hS (runs_move rfl) fun _ hS => ?_
      refine sI hS (runs_indexAddrG (j := i) rfl rfl undMM s1_22 rfl hlt1) fun _ hS => ?_
      obtain ⟨g9r, o9r, c9r, hv9r, _, hg9r, vsr, hvlr, hvrr, hver⟩ := hRs
      cases hv9r
      obtain ⟨ur, hur⟩ : ∃ u, vsr[i]? = some u := ⟨_, List.getElem?_eq_getElem (by rw [hvlr]; exact hlt1)⟩
      have hcur := hvrr i _ hur
      have heur := hver i _ _ hur hxi
      refine sI hS (runs_load rfl pl22 (by rw [Nat.mul_one]; exact hcur)) fun _ hS => ?_
      refine seq_op hS (by decide) (app_plain (B := w9.heap.size) (xs := ((LS.take i).flatten)) (es := x) (n := ((LS.take (i + 1)).flatten).length) heur (by omega) (Nat.le_trans hBsz1 hB.size) rfl hown rfl (by rw [hsn, List.length_append])) (fun v15 w15 a1 hp hS => ?_)
      obtain ⟨⟨g7, c7, rfl⟩, hown7, hB15⟩ := hp
      refine sI hS (runs_assign rfl) fun _ hS => ?_
      refine nil_ok (reg_seq ?_)
      refine sI hS (runs_move rfl) fun _ hS => ?_
      refine sI hS (runs_add (r := ((i + 1 : Nat) : Int)) rfl rfl (by simp [IntKind.wrap, IntKind.bits, IntKind.signed]; omega)) fun _ hS => ?_
      refine sI hS (runs_assign rfl) fun _ hS => ?_
      exact nil_ok ⟨_, by omega, i + 1, g7, c7, by omega, rfl, hBb1.trans ((hB.mono hBb1.size).trans hB15), by rw [hsn] at hown7 ⊢; exact hown7, hS.only _ ⟨rfl, rfl, rfl, rfl, rfl, trivial⟩⟩
    refine sI hS (lssF rfl rfl (by omega)) fun _ hS => ?_
    obtain rfl : i = LS.length := by omega
    refine nil_ok ⟨_, hS.eval rfl, fun _ => ?_, fun h => by simp at h⟩
    have hB := hBb1
    rw [List.take_length] at hown hS
    refine qx_seq (reg_seq ?_)
    refine sI hS (runs_move rfl) fun _ hS => ?_
    refine seq_op hS (by decide) (runs_call (args := [.slice (some ⟨ga, 0, none⟩) LS.flatten.length ca]) goes13 rfl (rsort_any LS.flatten (by omega) _ wl1 (edges_ownE hown rfl))) (fun v16 w16 a1 hp hS => ?_)
    obtain ⟨hB16, _, hZ10⟩ := hp
    have hZ1 := edges_ownE hZ10 rfl
    have hB := hB.trans (hB16.mono hB.size)
    have hE := hE.kept hB16
    have hown := owns_kept hown hB16
    refine sI hS (runs_move rfl) fun _ hS => ?_
    refine seq_op hS (by decide) (runs_call (args := [.slice A l.length c]) goes13 rfl (rsort_any l (by omega) _ w16 hE)) (fun v18 w18 a1 hp hS => ?_)
    obtain ⟨hB18, _, hZ20⟩ := hp
    have hZ2 := edges_ownE hZ20 rfl
    have hB := hB.trans (hB18.mono hB.size)
    have hE := hE.kept hB18
    have hZ1 := hZ1.kept hB18
    have hown := owns_kept hown hB18
    refine seq_op hS (by decide) (runs_call (args := [v16, v18]) goes10 rfl (msame_any (sortM LS.flatten) (sortM l) _ _ w18 hZ1 hZ2)) (fun v20 w20 a1 hp hS => ?_)
    obtain ⟨rfl, hB20⟩ := hp
    rw [show decide (sortM LS.flatten = sortM l) = true by rw [sortM_of_perm hper]; simp] at hS
    have hB := hB.trans (hB20.mono hB.size)
    have hE := hE.kept hB20
    have hown := owns_kept hown hB20
    refine sI hS (runs_assign rfl) fun _ hS => ?_
    exact nil_ok (qx_ret (ret1 (t := 4) (by kernel_rfl) hS rfl ⟨_, rfl, rfl, hBS.trans (hB.mono hBS1)⟩))
  · skip
    have hok := Bool.eq_false_iff.2 hok
    refine reg_seq ?_
    refine sI hS (runs_move rfl) fun _ hS => ?_
    refine sI hS (runs_move rfl) fun _ hS => ?_
    refine seq_op hS (by decide) (runs_call (args := [.slice A l.length c]) goes12 rfl (own_any l (by omega) _ w1 hE)) (fun v22 w22 a1 hp hS => ?_)
    obtain ⟨hB22, hown1⟩ := hp
    have hO1 := edges_ownE hown1 rfl
    have hB := hB.trans (hB22.mono hB.size)
    have hE := hEb.kept hB
    refine seq_op hS (by decide) (runs_call (args := [.int .i64 k, v22]) goes20 rfl (split_any k l (by omega) _ w22 hO1)) (fun v24 w24 a1 hp hS => ?_)
    obtain ⟨hB24, xs, rfl, _, hx2⟩ := hp
    rw [hok, hx2 hok] at hS
    clear hx2
    have hB := hB.trans (hB24.mono hB.size)
    have hE := hEb.kept hB
    refine sI hS (runs_move rfl) fun _ hS => ?_
    refine sI hS (runs_extract rfl rfl) fun _ hS => ?_
    refine sI hS (runs_extract rfl rfl) fun _ hS => ?_
    refine sI hS (runs_assign rfl) fun _ hS => ?_
    refine sI hS (runs_assign rfl) fun _ hS => ?_
    refine nil_ok (qx_seq (reg_seq ?_))
    refine sI hS (runs_move rfl) fun _ hS => ?_
    refine sI hS (runs_move rfl) fun _ hS => ?_
    refine seq_op hS (by decide) (runs_call (args := [.int .i64 k, .slice A l.length c]) goes21 rfl (rsplit_any k l (by omega) hto _ w24 hE)) (fun v26 w26 a1 hp hS => ?_)
    obtain ⟨hB26, xt, rfl, _, hx2⟩ := hp
    rw [hok, hx2 hok] at hS
    clear hx2
    have hB := hB.trans (hB26.mono hB.size)
    refine sI hS (runs_move rfl) fun _ hS => ?_
    refine sI hS (runs_extract rfl rfl) fun _ hS => ?_
    refine sI hS (runs_extract rfl rfl) fun _ hS => ?_
    refine sI hS (runs_assign rfl) fun _ hS => ?_
    refine sI hS (runs_assign rfl) fun _ hS => ?_
    refine nil_ok (qx_seq (qx_seq (reg_seq ?_)))
    refine sI hS (runs_move rfl) fun _ hS => ?_
    refine sI hS (runs_not (b := false) rfl) fun _ hS => ?_
    refine nil_ok (wp_cond_true (hS.eval rfl) (qx_seq (reg_seq ?_)))
    refine sI hS (runs_move rfl) fun _ hS => ?_
    refine sI hS (runs_len rfl undMM) fun _ hS => ?_
    refine sI hS (runs_eql (r := true) rfl rfl (by simp)) fun _ hS => ?_
    refine sI hS (runs_move rfl) fun _ hS => ?_
    refine sY hS (runs_move rfl) fun _ hS => ?_
    refine sY hS (runs_eql (r := true) rfl rfl (by simp)) fun _ hS => ?_
    refine sI hS (runs_pick rfl rfl) fun _ hS => ?_
    refine sI hS (runs_assign rfl) fun _ hS => ?_
    exact nil_ok (qx_ret (ret1 (t := 4) (by kernel_rfl) hS rfl ⟨_, rfl, rfl, hB⟩))
end Go.Proofs.Ythenbmalnmaofaa
