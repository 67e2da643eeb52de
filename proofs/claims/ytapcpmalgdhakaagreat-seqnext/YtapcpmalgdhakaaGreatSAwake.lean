/- Layer 7: what the chapter's example fixes; messages compared; a graph of one's own memory. Conditions: none of our own. -/
import Derived.Test.YtapcpmalgdhakaaGreatSStep
namespace Go.Proofs.YtapcpmalgdhakaaGreat
open Go.RowKit
set_option maxRecDepth 100000

theorem goes7 : Goes Tryz.prog 7 := goes_of Tryz.func7 (by kernel_rfl) rfl
set_option maxHeartbeats 1000000 in
theorem msame_any (xs ys : List E) (va vb : Value) (w : World) (ha : Edges w va xs) (hb : Edges w vb ys) : Ans 10 [va, vb] w (fun u w' => u = .bool (decide (xs = ys)) ∧ Below w.heap.size w w') := by
  have ha0 := ha
  have hb0 := hb
  obtain ⟨A, c, rfl, _, h2, hA⟩ := ha
  obtain ⟨A', c', rfl, _, _, hA'⟩ := hb
  unfold maxLen at h2
  refine calls_qx (args := [.slice A xs.length c, .slice A' ys.length c']) 26 Tryz.func10 rfl (by kernel_rfl) (by simp) (fun a hS => ?_)
  refine qx_seq (reg_seq ?_)
  refine seq_is hS (by decide) (runs_assign rfl) (fun a1 hS => ?_)
  refine nil_ok (qx_seq (qx_seq (reg_seq ?_)))
  refine seq_is hS (by decide) (runs_move rfl) (fun a1 hS => ?_)
  refine seq_is hS (by decide) (runs_len rfl und32) (fun a1 hS => ?_)
  refine seq_is hS (by decide) (runs_move rfl) (fun a1 hS => ?_)
  refine seq_is hS (by decide) (runs_len rfl und32) (fun a1 hS => ?_)
  by_cases hl : xs.length = ys.length
  · skip
    refine seq_is hS (by decide) (runs_neq (r := false) rfl rfl (by simp; omega)) (fun a1 hS => ?_)
    refine nil_ok (wp_cond_false (hS.eval rfl) (wp_skip (qx_seq (qx_seq (reg_seq ?_)))))
    refine seq_is hS (by decide) (runs_assign rfl) (fun a1 hS => ?_)
    refine nil_ok (qx_for (fun m a w' => ∃ i : Nat, i ≤ xs.length ∧ m = xs.length - i ∧ Below w.heap.size w w' ∧ (∀ j, j < i → xs[j]? = ys[j]?) ∧ Sees 26 [(5, .int .i64 (i : Int)), (0, .slice A xs.length c), (1, .slice A' ys.length c')] a) xs.length ⟨0, by omega, by omega, Below.refl _ _, by omega, hS.only _ ⟨rfl, rfl, rfl, trivial⟩⟩ ?_)
    rintro m a w' ⟨i, hi, rfl, hB, heq, hS⟩
    refine reg_seq ?_
    refine seq_is hS (by decide) (runs_move rfl) (fun a1 hS => ?_)
    refine seq_is hS (by decide) (runs_move rfl) (fun a1 hS => ?_)
    refine seq_is hS (by decide) (runs_len rfl und32) (fun a1 hS => ?_)
    by_cases hlt : i < xs.length
    · skip
      obtain ⟨b, o, rfl, hb, hr⟩ := hA (by omega)
      obtain ⟨b', o', rfl, hb', hr'⟩ := hA' (by omega)
      obtain ⟨x, hx⟩ : ∃ x, xs[i]? = some x := ⟨_, List.getElem?_eq_getElem hlt⟩
      obtain ⟨y, hy⟩ : ∃ y, ys[i]? = some y := ⟨_, List.getElem?_eq_getElem (by omega)⟩
      have hrx := range_below (edges_at hr hx) hB hb
      have hry := range_below (edges_at hr' hy) hB hb'
      have hbw := Nat.lt_of_lt_of_le hb hB.size
      have hbw' := Nat.lt_of_lt_of_le hb' hB.size
      refine seq_is hS (by decide) (runs_lss (r := true) rfl rfl (by rw [decide_eq_true_eq]; omega)) (fun a1 hS => ?_)
      refine nil_ok ⟨_, hS.eval rfl, fun h => by simp at h, fun _ => ?_⟩
      refine qx_seq (qx_block ?_)
      refine qx_seq (reg_guard (fun w2 => Below w'.heap.size w' w2) [.inl (.slice (some ⟨b, o, none⟩) xs.length c), .inl (.int .i64 (i : Int)), .inl (.pointer (some ⟨b, o + i * 3, none⟩)), .inl (.agg (encE x).toArray), .inl (.slice (some ⟨b', o', none⟩) ys.length c'), .inl (.int .i64 (i : Int)), .inl (.pointer (some ⟨b', o' + i * 3, none⟩)), .inl (.agg (encE y).toArray), .inl (.bool (!decide (x = y)))] 9 0 mixed rfl (by kernel_rfl) hS (Below.refl _ _) (fun _ h => h.drew) ?_)
      refine hs_is rfl (fun w' hw => runs_move rfl) ?_
      refine hs_is rfl (fun w' hw => runs_move rfl) ?_
      refine hs_is rfl (fun w' hw => runs_indexAddrG (j := i) rfl rfl und32 sz48 rfl hlt) ?_
      refine hs_is rfl (fun w' hw => runs_loadM rfl (range_below hrx hw hbw)) ?_
      refine hs_is rfl (fun w' hw => runs_move rfl) ?_
      refine hs_is rfl (fun w' hw => runs_move rfl) ?_
      refine hs_is rfl (fun w' hw => runs_indexAddrG (j := i) rfl rfl und32 sz48 rfl (by omega)) ?_
      refine hs_is rfl (fun w' hw => runs_loadM rfl (range_below hry hw hbw')) ?_
      refine hs_is rfl (fun w' hw => runs_neM rfl rfl rfl) ?_
      refine (fun a5 w5 hS5 hB5 _ => ?_)
      refine wpAnyH_done (by kernel_rfl) ?_ _
      have hB := hB.trans (hB5.mono hB.size)
      have hS := hS5
      by_cases hxy : x = y
      · skip
        rw [show (!decide (x = y)) = false by simp [hxy]] at hS
        refine wp_cond_false (hS.eval rfl) (wp_skip ?_)
        refine reg_seq ?_
        refine seq_is hS (by decide) (runs_move rfl) (fun a1 hS => ?_)
        refine seq_is hS (by decide) (runs_add (r := ((i + 1 : Nat) : Int)) rfl rfl (by simp [IntKind.wrap, IntKind.bits, IntKind.signed]; omega)) (fun a1 hS => ?_)
        refine seq_is hS (by decide) (runs_assign rfl) (fun a1 hS => ?_)
        exact nil_ok ⟨_, by omega, i + 1, by omega, rfl, hB, fun j hj => by
          by_cases hji : j = i
          · subst hji; rw [hx, hy, hxy]
          · exact heq j (by omega), hS.only _ ⟨rfl, rfl, rfl, trivial⟩⟩
      · skip
        rw [show (!decide (x = y)) = true by simp [hxy]] at hS
        refine wp_cond_true (hS.eval rfl) (qx_seq (reg_seq ?_))
        refine seq_is hS (by decide) (runs_assign rfl) (fun a1 hS => ?_)
        exact nil_ok (qx_ret (ret1 (t := 4) (by kernel_rfl) hS rfl ⟨_, rfl, by rw [decide_eq_false (fun h => hxy (by rw [h, hy] at hx; exact (Option.some.inj hx).symm))], hB⟩))
    · skip
      refine seq_is hS (by decide) (runs_lss (r := false) rfl rfl (by rw [decide_eq_false_iff_not]; omega)) (fun a1 hS => ?_)
      refine nil_ok ⟨_, hS.eval rfl, fun _ => ?_, fun h => by simp at h⟩
      refine qx_seq (reg_seq ?_)
      refine seq_is hS (by decide) (runs_assign rfl) (fun a1 hS => ?_)
      exact nil_ok (qx_ret (ret1 (t := 4) (by kernel_rfl) hS rfl ⟨_, rfl, by rw [decide_eq_true (List.ext_getElem? (fun j => by
        by_cases hj : j < xs.length
        · exact heq j (by omega)
        · rw [List.getElem?_eq_none (by omega), List.getElem?_eq_none (by omega)]))], hB⟩))
  · skip
    refine seq_is hS (by decide) (runs_neq (r := true) rfl rfl (by simp; omega)) (fun a1 hS => ?_)
    refine nil_ok (wp_cond_true (hS.eval rfl) (qx_seq (reg_seq ?_)))
    refine seq_is hS (by decide) (runs_assign rfl) (fun a1 hS => ?_)
    exact nil_ok (qx_ret (ret1 (t := 4) (by kernel_rfl) hS rfl ⟨_, rfl, by rw [decide_eq_false (fun h => hl (by rw [h]))], Below.refl _ _⟩))
theorem step_is {n : Int} {es : List E} {v : Value} {tg : ByteArray} {src steps at_ : Int} {x y : Vx} {l : List E} {e : Int} (w : World) (hE : Edges w v es) (h : stepL n es (kindL tg.data.toList) src steps at_ x = (y, l, e)) :
    Ans 25 [gv n v, jv tg src steps, .int .i64 at_, vv x] w (fun u w' => Below w.heap.size w w' ∧ ∃ sv, u = .tuple #[vv y, sv, .int .i64 e] ∧ w'.ownsRow w.heap.size 61 3 sv l.length (cellsE l)) := by
  have := step_any n es v tg src steps at_ x w hE
  rw [h] at this
  exact this
end Go.Proofs.YtapcpmalgdhakaaGreat
