/- Layer 8: messages picked, as a list of their own; looked through; compared; copied. Conditions: none of our own. -/
import Derived.Test.YthkbnbnfjnliaaaDoorF8FCmp
namespace Go.Proofs.YthkbnbnfjnliaaaDoor
open Go.RowKit
set_option maxRecDepth 100000

theorem edges_row {w : World} {A : Option Addr} {c : Nat} {l : List E} (h : Edges w (.slice A l.length c) l) (h0 : 0 < l.length) : ∃ b o, A = some ⟨b, o, none⟩ ∧ b < w.heap.size ∧ w.rangeAt b o (cellsE l) := by
  obtain ⟨A', c', hv, _, _, h3⟩ := h
  simp only [Value.slice.injEq, true_and] at hv
  obtain ⟨rfl, rfl⟩ := hv
  exact h3 h0
theorem filter_snoc {α : Type} {l : List α} {i : Nat} {e : α} (p : α → Bool) (h : l[i]? = some e) : (l.take (i + 1)).filter p = (l.take i).filter p ++ (if p e = true then [e] else []) := by
  rw [List.take_add_one, h, Option.toList_some, List.filter_append]
  by_cases hp : p e = true
  · rw [if_pos hp, List.filter_cons_of_pos hp]; rfl
  · rw [if_neg hp, List.filter_cons_of_neg hp]; rfl
theorem filter_take_le {α : Type} (p : α → Bool) (l : List α) (i : Nat) : ((l.take i).filter p).length ≤ i := Nat.le_trans (List.length_filter_le _ _) (by simp; omega)
set_option maxHeartbeats 1000000 in
theorem picked_any (es : List E) (hsm : es.length ≤ 10000) (v : Value) (kf : FuncId) (hkf : Goes Tryd.prog kf) (cf : List Value) (p : E → Bool) (w : World) (hE : Edges w v es) (hp : ∀ e w1, Below w.heap.size w w1 → Ans kf ([.agg (encE e).toArray] ++ cf) w1 (fun u w2 => u = .bool (p e) ∧ Below w1.heap.size w1 w2)) : Ans 47 [v, .func (.func kf) #[] cf.toArray] w (fun u w' => Below w.heap.size w w' ∧ w'.ownsRow w.heap.size 31 3 u (es.filter p).length (cellsE (es.filter p))) := by
  obtain ⟨A, c, rfl, h1, h2, hA⟩ := hE
  have hE : Edges w (.slice A es.length c) es := ⟨A, c, rfl, h1, h2, hA⟩
  refine calls_qx (args := [.slice A es.length c, .func (.func kf) #[] cf.toArray]) 23 Tryd.func47 rfl (by kernel_rfl) (by simp) (fun a hS => ?_)
  have hB := Below.refl w.heap.size w
  have hEb := hE
  refine qx_seq (reg_seq ?_)
  refine sI hS (runs_assign rfl) fun _ hS => ?_
  refine nil_ok (qx_seq (reg_seq ?_))
  refine sI hS (runs_assign rfl) fun _ hS => ?_
  refine nil_ok (qx_seq (qx_seq (reg_seq ?_)))
  refine sI hS (runs_move rfl) fun _ hS => ?_
  refine sI hS (runs_len rfl und32) fun _ hS => ?_
  refine sI hS (runs_move rfl) fun _ hS => ?_
  refine nil_ok (?_)
  refine qx_range (fun mm a w' => ∃ (i : Nat) (sv : Value), i ≤ es.length ∧ mm = es.length - i ∧ Below w.heap.size w w' ∧ w'.ownsRow w.heap.size 31 3 sv ((es.take i).filter p).length (cellsE ((es.take i).filter p)) ∧ Sees 23 [(10, .int .i64 (i : Int)), (9, .int .i64 ((es.length : Nat) : Int)), (8, .slice A es.length c), (5, sv), (1, .func (.func kf) #[] cf.toArray)] a) es.length ⟨0, .slice none 0 0, by omega, by omega, hB, ⟨rfl, .inl ⟨rfl, rfl⟩⟩, hS.only _ ⟨rfl, rfl, rfl, rfl, rfl, trivial⟩⟩ ?_
  clear hS 
  rintro mm a wl1 ⟨i, sv, hi1, rfl, hBb1, hown, hS⟩
  have hBsz1 := hBb1.size
  have hE := hEb.kept hBb1
  have hB := Below.refl wl1.heap.size wl1
  refine reg_seq ?_
  by_cases hlt1 : i < es.length
  · skip
    refine sI hS (lssT rfl rfl (by omega)) fun _ hS => ?_
    refine nil_ok ⟨_, hS.eval rfl, fun h => by simp at h, fun _ => ?_⟩
    obtain ⟨e, hei⟩ : ∃ e, es[i]? = some e := ⟨es[i], by simp [hlt1]⟩
    obtain ⟨b, o, rfl, hbw, hr⟩ := edges_row hE (by omega)
    have hre := edges_at hr hei
    have hfl := filter_take_le p es i
    have hownb := hown
    refine qx_seq (qx_block (qx_seq (reg_seq ?_)))
    refine sI hS (runs_indexAddrG (j := i) rfl rfl und32 sz41 rfl hlt1) fun _ hS => ?_
    refine sI hS (runs_loadM rfl hre) fun _ hS => ?_
    refine seq_op hS (by decide) (runs_allocB (cs := [.int .i64 0, .int .i64 0, .int .i64 0]) zo41 rfl) (fun v1 w1 a1 hp hS => ?_)
    obtain ⟨rfl, hM1, hB1⟩ := hp
    have hLhM1 : wl1.heap.size ≤ wl1.heap.size := hB.size
    have hB := hB.trans (hB1.mono hB.size)
    have hown := owns_kept hown hB1
    refine seq_none hS (runs_storeB (cs := encE e) rfl rfl hM1 rfl rfl sz41) (fun v3 w3 a1 hp hS => ?_)
    obtain ⟨hM1, hU3⟩ := hp
    have hB := But.new hB hU3 (fun i e => by rw [e]; exact hLhM1) (Nat.le_refl _)
    have hown := owns_kept hownb hB
    refine nil_ok (qx_seq (reg_seq ?_))
    refine sI hS (runs_move rfl) fun _ hS => ?_
    refine sI hS (runs_loadRow rfl hM1 Tryd.underlying31 rfl (by rw [sz41]; rfl)) fun _ hS => ?_
    refine seq_op hS (by decide) (runs_callv (args := [.agg (encE e).toArray]) (caps := cf) hkf rfl rfl (hp e w3 (hBb1.trans (hB.mono hBb1.size)))) (fun v5 w5 a1 hp hS => ?_)
    obtain ⟨rfl, hB5⟩ := hp
    have hB := hB.trans (hB5.mono hB.size)
    have hM1 := hM1.below hB5 hM1.lt
    have hown := owns_kept hown hB5
    refine nil_ok (?_)
    by_cases hpe : p e = true
    · skip
      rw [hpe] at hS
      refine wp_cond_true (hS.eval rfl) (reg_seq ?_)
      refine sI hS (runs_move rfl) fun _ hS => ?_
      refine sI hS (runs_loadRow rfl hM1 Tryd.underlying31 rfl (by rw [sz41]; rfl)) fun _ hS => ?_
      refine seq_op hS (by decide) (runs_oneM (e := e) rfl) (fun v7 w7 a1 hp hS => ?_)
      obtain ⟨g2, rfl, hX, hB7⟩ := hp
      have hB := hB.trans (hB7.mono hB.size)
      have hown := owns_kept hown hB7
      refine seq_op hS (by decide) (push_ownM (B := w.heap.size) (acc := ((es.take i).filter p)) (e := e) rfl hown rfl hX (by omega) (Nat.le_trans hBsz1 hB.size)) (fun v9 w9 a1 hp hS => ?_)
      obtain ⟨_, hown3, _, hB9⟩ := hp
      refine sI hS (runs_assign rfl) fun _ hS => ?_
      refine nil_ok (reg_seq ?_)
      refine sI hS (runs_add (r := ((i + 1 : Nat) : Int)) rfl rfl (by simp [IntKind.wrap, IntKind.bits, IntKind.signed]; omega)) fun _ hS => ?_
      refine sI hS (runs_move rfl) fun _ hS => ?_
      exact nil_ok ⟨_, by omega, i + 1, v9, by omega, rfl, hBb1.trans ((hB.mono hBb1.size).trans hB9), by rw [filter_snoc p hei, if_pos hpe, List.length_append]; exact hown3, hS.only _ ⟨rfl, rfl, rfl, rfl, rfl, trivial⟩⟩
    · skip
      rw [Bool.eq_false_iff.2 hpe] at hS
      refine wp_cond_false (hS.eval rfl) (wp_skip (reg_seq ?_))
      refine sI hS (runs_add (r := ((i + 1 : Nat) : Int)) rfl rfl (by simp [IntKind.wrap, IntKind.bits, IntKind.signed]; omega)) fun _ hS => ?_
      refine sI hS (runs_move rfl) fun _ hS => ?_
      exact nil_ok ⟨_, by omega, i + 1, sv, by omega, rfl, hBb1.trans (hB.mono hBb1.size), by rw [filter_snoc p hei, if_neg hpe, List.append_nil]; exact hown, hS.only _ ⟨rfl, rfl, rfl, rfl, rfl, trivial⟩⟩
  refine sI hS (lssF rfl rfl (by omega)) fun _ hS => ?_
  obtain rfl : i = es.length := by omega
  refine nil_ok ⟨_, hS.eval rfl, fun _ => ?_, fun h => by simp at h⟩
  have hB := hBb1
  rw [List.take_length] at hown
  refine qx_seq (reg_seq ?_)
  refine sI hS (runs_move rfl) fun _ hS => ?_
  refine sI hS (runs_assign rfl) fun _ hS => ?_
  exact nil_ok (qx_ret (ret1 (t := 4) (by kernel_rfl) hS rfl ⟨_, rfl, hB, hown⟩))
set_option maxHeartbeats 1000000 in
theorem msame_any (xs ys : List E) (va vb : Value) (w : World) (ha : Edges w va xs) (hb : Edges w vb ys) : Ans 7 [va, vb] w (fun u w' => u = .bool (decide (xs = ys)) ∧ Below w.heap.size w w') := by
  have ha0 := ha
  have hb0 := hb
  obtain ⟨A, c, rfl, _, h2, hA⟩ := ha
  obtain ⟨A', c', rfl, _, _, hA'⟩ := hb
  unfold maxLen at h2
  refine calls_qx (args := [.slice A xs.length c, .slice A' ys.length c']) 26 Tryd.func7 rfl (by kernel_rfl) (by simp) (fun a hS => ?_)
  refine qx_seq (reg_seq ?_)
  refine seq_is hS (by decide) (runs_assign rfl) (fun a1 hS => ?_)
  refine nil_ok (qx_seq (qx_seq (reg_seq ?_)))
  refine seq_is hS (by decide) (runs_move rfl) (fun a1 hS => ?_)
  refine seq_is hS (by decide) (runs_len rfl und32) (fun a1 hS => ?_)
  refine seq_is hS (by decide) (runs_move rfl) (fun a1 hS => ?_)
  refine seq_is hS (by decide) (runs_len rfl und32) (fun a1 hS => ?_)
  by_cases hl : xs.length = ys.length
  · skip
    refine seq_is hS (by decide) (runs_neq (r := false) rfl rfl (by simp; omega)) (fun a1 hS => ?_)
    refine nil_ok (wp_cond_false (hS.eval rfl) (wp_skip (qx_seq (qx_seq (reg_seq ?_)))))
    refine seq_is hS (by decide) (runs_assign rfl) (fun a1 hS => ?_)
    refine nil_ok (qx_for (fun m a w' => ∃ i : Nat, i ≤ xs.length ∧ m = xs.length - i ∧ Below w.heap.size w w' ∧ (∀ j, j < i → xs[j]? = ys[j]?) ∧ Sees 26 [(5, .int .i64 (i : Int)), (0, .slice A xs.length c), (1, .slice A' ys.length c')] a) xs.length ⟨0, by omega, by omega, Below.refl _ _, by omega, hS.only _ ⟨rfl, rfl, rfl, trivial⟩⟩ ?_)
    rintro m a w' ⟨i, hi, rfl, hB, heq, hS⟩
    refine reg_seq ?_
    refine seq_is hS (by decide) (runs_move rfl) (fun a1 hS => ?_)
    refine seq_is hS (by decide) (runs_move rfl) (fun a1 hS => ?_)
    refine seq_is hS (by decide) (runs_len rfl und32) (fun a1 hS => ?_)
    by_cases hlt : i < xs.length
    · skip
      obtain ⟨b, o, rfl, hb, hr⟩ := hA (by omega)
      obtain ⟨b', o', rfl, hb', hr'⟩ := hA' (by omega)
      obtain ⟨x, hx⟩ : ∃ x, xs[i]? = some x := ⟨_, List.getElem?_eq_getElem hlt⟩
      obtain ⟨y, hy⟩ : ∃ y, ys[i]? = some y := ⟨_, List.getElem?_eq_getElem (by omega)⟩
      have hrx := range_below (edges_at hr hx) hB hb
      have hry := range_below (edges_at hr' hy) hB hb'
      have hbw := Nat.lt_of_lt_of_le hb hB.size
      have hbw' := Nat.lt_of_lt_of_le hb' hB.size
      refine seq_is hS (by decide) (runs_lss (r := true) rfl rfl (by rw [decide_eq_true_eq]; omega)) (fun a1 hS => ?_)
      refine nil_ok ⟨_, hS.eval rfl, fun h => by simp at h, fun _ => ?_⟩
      refine qx_seq (qx_block ?_)
      refine qx_seq (reg_guard (fun w2 => Below w'.heap.size w' w2) [.inl (.slice (some ⟨b, o, none⟩) xs.length c), .inl (.int .i64 (i : Int)), .inl (.pointer (some ⟨b, o + i * 3, none⟩)), .inl (.agg (encE x).toArray), .inl (.slice (some ⟨b', o', none⟩) ys.length c'), .inl (.int .i64 (i : Int)), .inl (.pointer (some ⟨b', o' + i * 3, none⟩)), .inl (.agg (encE y).toArray), .inl (.bool (!decide (x = y)))] 9 0 mixed rfl (by kernel_rfl) hS (Below.refl _ _) (fun _ h => h.drew) ?_)
      refine hs_is rfl (fun w' hw => runs_move rfl) ?_
      refine hs_is rfl (fun w' hw => runs_move rfl) ?_
      refine hs_is rfl (fun w' hw => runs_indexAddrG (j := i) rfl rfl und32 sz41 rfl hlt) ?_
      refine hs_is rfl (fun w' hw => runs_loadM rfl (range_below hrx hw hbw)) ?_
      refine hs_is rfl (fun w' hw => runs_move rfl) ?_
      refine hs_is rfl (fun w' hw => runs_move rfl) ?_
      refine hs_is rfl (fun w' hw => runs_indexAddrG (j := i) rfl rfl und32 sz41 rfl (by omega)) ?_
      refine hs_is rfl (fun w' hw => runs_loadM rfl (range_below hry hw hbw')) ?_
      refine hs_is rfl (fun w' hw => runs_neM rfl rfl rfl) ?_
      refine (fun a5 w5 hS5 hB5 _ => ?_)
      refine wpAnyH_done (by kernel_rfl) ?_ _
      have hB := hB.trans (hB5.mono hB.size)
      have hS := hS5
      by_cases hxy : x = y
      · skip
        rw [show (!decide (x = y)) = false by simp [hxy]] at hS
        refine wp_cond_false (hS.eval rfl) (wp_skip ?_)
        refine reg_seq ?_
        refine seq_is hS (by decide) (runs_move rfl) (fun a1 hS => ?_)
        refine seq_is hS (by decide) (runs_add (r := ((i + 1 : Nat) : Int)) rfl rfl (by simp [IntKind.wrap, IntKind.bits, IntKind.signed]; omega)) (fun a1 hS => ?_)
        refine seq_is hS (by decide) (runs_assign rfl) (fun a1 hS => ?_)
        exact nil_ok ⟨_, by omega, i + 1, by omega, rfl, hB, fun j hj => by
          by_cases hji : j = i
          · subst hji; rw [hx, hy, hxy]
          · exact heq j (by omega), hS.only _ ⟨rfl, rfl, rfl, trivial⟩⟩
      · skip
        rw [show (!decide (x = y)) = true by simp [hxy]] at hS
        refine wp_cond_true (hS.eval rfl) (qx_seq (reg_seq ?_))
        refine seq_is hS (by decide) (runs_assign rfl) (fun a1 hS => ?_)
        exact nil_ok (qx_ret (ret1 (t := 4) (by kernel_rfl) hS rfl ⟨_, rfl, by rw [decide_eq_false (fun h => hxy (by rw [h, hy] at hx; exact (Option.some.inj hx).symm))], hB⟩))
    · skip
      refine seq_is hS (by decide) (runs_lss (r := false) rfl rfl (by rw [decide_eq_false_iff_not]; omega)) (fun a1 hS => ?_)
      refine nil_ok ⟨_, hS.eval rfl, fun _ => ?_, fun h => by simp at h⟩
      refine qx_seq (reg_seq ?_)
      refine seq_is hS (by decide) (runs_assign rfl) (fun a1 hS => ?_)
      exact nil_ok (qx_ret (ret1 (t := 4) (by kernel_rfl) hS rfl ⟨_, rfl, by rw [decide_eq_true (List.ext_getElem? (fun j => by
        by_cases hj : j < xs.length
        · exact heq j (by omega)
        · rw [List.getElem?_eq_none (by omega), List.getElem?_eq_none (by omega)]))], hB⟩))
  · skip
    refine seq_is hS (by decide) (runs_neq (r := true) rfl rfl (by simp; omega)) (fun a1 hS => ?_)
    refine nil_ok (wp_cond_true (hS.eval rfl) (qx_seq (reg_seq ?_)))
    refine seq_is hS (by decide) (runs_assign rfl) (fun a1 hS => ?_)
    exact nil_ok (qx_ret (ret1 (t := 4) (by kernel_rfl) hS rfl ⟨_, rfl, by rw [decide_eq_false (fun h => hl (by rw [h]))], Below.refl _ _⟩))
end Go.Proofs.YthkbnbnfjnliaaaDoor
