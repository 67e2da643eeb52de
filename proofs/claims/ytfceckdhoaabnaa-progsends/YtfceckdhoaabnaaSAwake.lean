/- Layer 7: what the chapter's example fixes; messages compared; a graph of one's own memory. Conditions: none of our own. -/
import Derived.Test.YtfceckdhoaabnaaSStep
namespace Go.Proofs.Ytfceckdhoaabnaa
open Go.RowKit
set_option maxRecDepth 100000

theorem goes13 : Goes Try.prog 13 := goes_of Try.func13 (by kernel_rfl) rfl
set_option maxHeartbeats 1000000 in
theorem msame_any (xs ys : List E) (va vb : Value) (w : World) (ha : Edges w va xs) (hb : Edges w vb ys) : Ans 16 [va, vb] w (fun u w' => u = .bool (decide (xs = ys)) ∧ Below w.heap.size w w') := by
  have ha0 := ha
  have hb0 := hb
  obtain ⟨A, c, rfl, _, h2, hA⟩ := ha
  obtain ⟨A', c', rfl, _, _, hA'⟩ := hb
  unfold maxLen at h2
  refine calls_qx (args := [.slice A xs.length c, .slice A' ys.length c']) 26 Try.func16 rfl (by kernel_rfl) (by simp) (fun a hS => ?_)
  refine qx_seq (reg_seq ?_)
  refine seq_is hS (by decide) (runs_assign rfl) (fun a1 hS => ?_)
  refine nil_ok (qx_seq (qx_seq (reg_seq ?_)))
  refine seq_is hS (by decide) (runs_move rfl) (fun a1 hS => ?_)
  refine seq_is hS (by decide) (runs_len rfl und32) (fun a1 hS => ?_)
  refine seq_is hS (by decide) (runs_move rfl) (fun a1 hS => ?_)
  refine seq_is hS (by decide) (runs_len rfl und32) (fun a1 hS => ?_)
  by_cases hl : xs.length = ys.length
  · skip
    refine seq_is hS (by decide) (runs_neq (r := false) rfl rfl (by simp; omega)) (fun a1 hS => ?_)
    refine nil_ok (wp_cond_false (hS.eval rfl) (wp_skip (qx_seq (qx_seq (reg_seq ?_)))))
    refine seq_is hS (by decide) (runs_assign rfl) (fun a1 hS => ?_)
    refine nil_ok (qx_for (fun m a w' => ∃ i : Nat, i ≤ xs.length ∧ m = xs.length - i ∧ Below w.heap.size w w' ∧ (∀ j, j < i → xs[j]? = ys[j]?) ∧ Sees 26 [(5, .int .i64 (i : Int)), (0, .slice A xs.length c), (1, .slice A' ys.length c')] a) xs.length ⟨0, by omega, by omega, Below.refl _ _, by omega, hS.only _ ⟨rfl, rfl, rfl, trivial⟩⟩ ?_)
    rintro m a w' ⟨i, hi, rfl, hB, heq, hS⟩
    refine reg_seq ?_
    refine seq_is hS (by decide) (runs_move rfl) (fun a1 hS => ?_)
    refine seq_is hS (by decide) (runs_move rfl) (fun a1 hS => ?_)
    refine seq_is hS (by decide) (runs_len rfl und32) (fun a1 hS => ?_)
    by_cases hlt : i < xs.length
    · skip
      obtain ⟨b, o, rfl, hb, hr⟩ := hA (by omega)
      obtain ⟨b', o', rfl, hb', hr'⟩ := hA' (by omega)
      obtain ⟨x, hx⟩ : ∃ x, xs[i]? = some x := ⟨_, List.getElem?_eq_getElem hlt⟩
      obtain ⟨y, hy⟩ : ∃ y, ys[i]? = some y := ⟨_, List.getElem?_eq_getElem (by omega)⟩
      have hrx := range_below (edges_at hr hx) hB hb
      have hry := range_below (edges_at hr' hy) hB hb'
      have hbw := Nat.lt_of_lt_of_le hb hB.size
      have hbw' := Nat.lt_of_lt_of_le hb' hB.size
      refine seq_is hS (by decide) (runs_lss (r := true) rfl rfl (by rw [decide_eq_true_eq]; omega)) (fun a1 hS => ?_)
      refine nil_ok ⟨_, hS.eval rfl, fun h => by simp at h, fun _ => ?_⟩
      refine qx_seq (qx_block ?_)
      refine qx_seq (reg_guard (fun w2 => Below w'.heap.size w' w2) [.inl (.slice (some ⟨b, o, none⟩) xs.length c), .inl (.int .i64 (i : Int)), .inl (.pointer (some ⟨b, o + i * 3, none⟩)), .inl (.agg (encE x).toArray), .inl (.slice (some ⟨b', o', none⟩) ys.length c'), .inl (.int .i64 (i : Int)), .inl (.pointer (some ⟨b', o' + i * 3, none⟩)), .inl (.agg (encE y).toArray), .inl (.bool (!decide (x = y)))] 9 0 mixed rfl (by kernel_rfl) hS (Below.refl _ _) (fun _ h => h.drew) ?_)
      refine hs_is rfl (fun w' hw => runs_move rfl) ?_
      refine hs_is rfl (fun w' hw => runs_move rfl) ?_
      refine hs_is rfl (fun w' hw => runs_indexAddrG (j := i) rfl rfl und32 sz48 rfl hlt) ?_
      refine hs_is rfl (fun w' hw => runs_loadM rfl (range_below hrx hw hbw)) ?_
      refine hs_is rfl (fun w' hw => runs_move rfl) ?_
      refine hs_is rfl (fun w' hw => runs_move rfl) ?_
      refine hs_is rfl (fun w' hw => runs_indexAddrG (j := i) rfl rfl und32 sz48 rfl (by omega)) ?_
      refine hs_is rfl (fun w' hw => runs_loadM rfl (range_below hry hw hbw')) ?_
      refine hs_is rfl (fun w' hw => runs_neM rfl rfl rfl) ?_
      refine (fun a5 w5 hS5 hB5 _ => ?_)
      refine wpAnyH_done (by kernel_rfl) ?_ _
      have hB := hB.trans (hB5.mono hB.size)
      have hS := hS5
      by_cases hxy : x = y
      · skip
        rw [show (!decide (x = y)) = false by simp [hxy]] at hS
        refine wp_cond_false (hS.eval rfl) (wp_skip ?_)
        refine reg_seq ?_
        refine seq_is hS (by decide) (runs_move rfl) (fun a1 hS => ?_)
        refine seq_is hS (by decide) (runs_add (r := ((i + 1 : Nat) : Int)) rfl rfl (by simp [IntKind.wrap, IntKind.bits, IntKind.signed]; omega)) (fun a1 hS => ?_)
        refine seq_is hS (by decide) (runs_assign rfl) (fun a1 hS => ?_)
        exact nil_ok ⟨_, by omega, i + 1, by omega, rfl, hB, fun j hj => by
          by_cases hji : j = i
          · subst hji; rw [hx, hy, hxy]
          · exact heq j (by omega), hS.only _ ⟨rfl, rfl, rfl, trivial⟩⟩
      · skip
        rw [show (!decide (x = y)) = true by simp [hxy]] at hS
        refine wp_cond_true (hS.eval rfl) (qx_seq (reg_seq ?_))
        refine seq_is hS (by decide) (runs_assign rfl) (fun a1 hS => ?_)
        exact nil_ok (qx_ret (ret1 (t := 4) (by kernel_rfl) hS rfl ⟨_, rfl, by rw [decide_eq_false (fun h => hxy (by rw [h, hy] at hx; exact (Option.some.inj hx).symm))], hB⟩))
    · skip
      refine seq_is hS (by decide) (runs_lss (r := false) rfl rfl (by rw [decide_eq_false_iff_not]; omega)) (fun a1 hS => ?_)
      refine nil_ok ⟨_, hS.eval rfl, fun _ => ?_, fun h => by simp at h⟩
      refine qx_seq (reg_seq ?_)
      refine seq_is hS (by decide) (runs_assign rfl) (fun a1 hS => ?_)
      exact nil_ok (qx_ret (ret1 (t := 4) (by kernel_rfl) hS rfl ⟨_, rfl, by rw [decide_eq_true (List.ext_getElem? (fun j => by
        by_cases hj : j < xs.length
        · exact heq j (by omega)
        · rw [List.getElem?_eq_none (by omega), List.getElem?_eq_none (by omega)]))], hB⟩))
  · skip
    refine seq_is hS (by decide) (runs_neq (r := true) rfl rfl (by simp; omega)) (fun a1 hS => ?_)
    refine nil_ok (wp_cond_true (hS.eval rfl) (qx_seq (reg_seq ?_)))
    refine seq_is hS (by decide) (runs_assign rfl) (fun a1 hS => ?_)
    exact nil_ok (qx_ret (ret1 (t := 4) (by kernel_rfl) hS rfl ⟨_, rfl, by rw [decide_eq_false (fun h => hl (by rw [h]))], Below.refl _ _⟩))
set_option maxHeartbeats 1000000 in
theorem ownR_any (n : Int) (es : List E) (hsm : es.length ≤ 1000) (v : Value) (w : World) (hE : Edges w v es) : Ans 13 [gv n v] w (fun u w' => Below w.heap.size w w' ∧ ∃ x, u = gv n x ∧ w'.ownsRow w.heap.size 46 3 x es.length (cellsE es)) := by
  obtain ⟨A, c, rfl, h1, h2, hA⟩ := hE
  have hE : Edges w (.slice A es.length c) es := ⟨A, c, rfl, h1, h2, hA⟩
  refine calls_qx (args := [gv n (.slice A es.length c)]) 10 Try.func13 rfl (by kernel_rfl) (by simp) (fun a hS => ?_)
  have hB := Below.refl w.heap.size w
  have hEb := hE
  refine qx_seq (reg_seq ?_)
  refine seq_op hS (by decide) (runs_boxB (cs := [.int .i64 n, .slice A es.length c]) rfl rfl) (fun v1 w1 a1 hp hS => ?_)
  obtain ⟨rfl, hM1, hB1⟩ := hp
  have hB := hB.trans (hB1.mono hB.size)
  have hE := hEb.kept hB
  refine seq_op hS (by decide) (runs_allocB (cs := [.int .i64 0, .slice none 0 0]) zo24 rfl) (fun v3 w3 a1 hp hS => ?_)
  obtain ⟨rfl, hM3, hB3⟩ := hp
  have hLhM3 : w.heap.size ≤ w1.heap.size := hB.size
  have hB := hB.trans (hB3.mono hB.size)
  have hM1 := hM1.below hB3 hM1.lt
  have hE := hEb.kept hB
  have hBw := hB.size
  refine nil_ok (qx_seq (reg_guard (fun w' => Below w3.heap.size w3 w') [.inl (.pointer (some ⟨w.heap.size, 0 + 0, none⟩)), .inl (.int .i64 n), .inr (fun v w' => ∃ g, v = .slice (some ⟨g, 0, none⟩) 0 0 ∧ w'.ownsRow w.heap.size 46 3 v 0 []), .inl (.pointer (some ⟨w.heap.size, 0 + 1, none⟩)), .inl (.slice A es.length c), .inr (fun v w' => (∃ g2 c2, v = .slice (some ⟨g2, 0, none⟩) es.length c2) ∧ w'.ownsRow w.heap.size 46 3 v es.length (cellsE es))] 6 2 mixed rfl (by kernel_rfl) hS (Below.refl _ _) (fun _ h => h.drew) ?_))
  refine hs_is rfl (fun w' hw => runs_fieldK fo24_0 rfl) ?_
  refine hs_is rfl (fun w' hw => runs_load rfl pl3 ((hM1.below hw hM1.lt).at rfl)) ?_
  refine hs_pr rfl (fun _ _ _ h hb => by obtain ⟨g, h1, h2⟩ := h; exact ⟨g, h1, owns_kept h2 hb⟩) (fun w' hw hq => (none_own (Nat.le_trans hBw hw.size)).mono (by rintro v w3 ⟨h1, h3⟩; exact ⟨h1, hw.trans (h3.mono hw.size), h3⟩)) (fun v2 => ?_)
  refine hs_is rfl (fun w' hw => runs_fieldK fo24_1 rfl) ?_
  refine hs_is rfl (fun w' hw => runs_load rfl pl22 ((hM1.below hw hM1.lt).at rfl)) ?_
  refine hs_pr rfl (fun _ _ _ h hb => ⟨h.1, owns_kept h.2 hb⟩) (fun w' hw hq => (by obtain ⟨g, rfl, h0⟩ := hq (2, _) List.mem_cons_self (by kernel_rfl); exact (copy_own (hE.kept hw) hsm (Nat.le_trans hBw hw.size) rfl h0 rfl).mono (by rintro u w3 ⟨h1, h2, h3⟩; exact ⟨⟨h1, h2⟩, hw.trans (h3.mono hw.size), h3⟩))) (fun v5 => ?_)
  refine (fun a5 w5 hS hB5 hq => ?_)

  obtain ⟨⟨g2, c2, rfl⟩, hown⟩ := (hq (5, _) List.mem_cons_self)
  clear hq
  have hB := hB.trans (hB5.mono hB.size)
  have hM3 := hM3.below hB5 hM3.lt
  refine tail_op 6 (by kernel_rfl) rfl hS (by decide) (runs_buildK (pv := [(0, .int .i64 n), (1, .slice (some ⟨g2, 0, none⟩) es.length c2)]) (cells := #[.int .i64 n, .slice (some ⟨g2, 0, none⟩) es.length c2]) rfl (by kernel_rfl)) (fun v7 w7 a7 hp hS => ⟨trivial, ?_⟩)
  obtain ⟨rfl, rfl⟩ := hp
  refine tail_none 7 (by kernel_rfl) rfl hS (runs_storeB (cs := [.int .i64 n, .slice (some ⟨g2, 0, none⟩) es.length c2]) rfl rfl hM3 rfl rfl sz24) (fun v8 w8 a8 hp hS => ⟨trivial, ?_⟩)
  have hQ8 := hM3
  obtain ⟨hM3, hU8⟩ := hp
  have hB := But.new hB hU8 (fun i e => by rw [e]; exact hLhM3) (Nat.le_refl _)
  have hown := owns_but hown hU8 (fun i old ho e => by subst e; exact has_ne ho hQ8 (by decide) rfl)
  refine wpAnyH_done (by kernel_rfl) ?_ _
  exact qx_ret (retG1 (p := 2) (by kernel_rfl) hS rfl hM3 ⟨_, rfl, hB, _, rfl, hown⟩)
theorem edges_hasE {w : World} {g : Nat} {t : TypeId} {es : List E} (h : Has w g t (cellsE es)) (hc : es.length ≤ maxLen) : Edges w (.slice (some ⟨g, 0, none⟩) es.length es.length) es :=
  ⟨_, _, rfl, Nat.le_refl _, hc, fun _ => ⟨g, 0, rfl, h.lt, fun j v hv => by rw [Nat.zero_add, h.cell]; exact hv⟩⟩
theorem step_is {n : Int} {es : List E} {v : Value} {tg : ByteArray} {src steps at_ : Int} {x y : Vx} {l : List E} {e : Int} (w : World) (hE : Edges w v es) (h : stepL n es (kindL tg.data.toList) src steps at_ x = (y, l, e)) :
    Ans 12 [gv n v, jv tg src steps, .int .i64 at_, vv x] w (fun u w' => Below w.heap.size w w' ∧ ∃ sv, u = .tuple #[vv y, sv, .int .i64 e] ∧ w'.ownsRow w.heap.size 48 3 sv l.length (cellsE l)) := by
  have := step_any n es v tg src steps at_ x w hE
  rw [h] at this
  exact this
set_option maxHeartbeats 1000000 in
theorem awake_any (w : World) : Ans 10 [] w (fun u w' => u = .bool true ∧ Below w.heap.size w w') := by
  have hs1 : stepL 2 [((0 : Int), ((1 : Int), (5 : Int)))] (kindL (⟨#[115, 115, 115, 112]⟩ : ByteArray).data.toList) 0 3 0 (⟨0, 0, true, false, 0⟩ : Vx) = ((⟨0, 0, false, false, 0⟩ : Vx), [((0 : Int), ((1 : Int), (5 : Int)))], 0) := by decide
  have hs2 : stepL 2 [((0 : Int), ((1 : Int), (5 : Int)))] (kindL (⟨#[115, 115, 115, 112]⟩ : ByteArray).data.toList) 0 3 1 (⟨1, -1, false, true, 5⟩ : Vx) = ((⟨1, 5, false, false, 0⟩ : Vx), [], 0) := by decide
  have hv1 : (if kindL (⟨#[115, 115, 115, 112]⟩ : ByteArray).data.toList = 0 then noVx else ⟨0, firstV (kindL (⟨#[115, 115, 115, 112]⟩ : ByteArray).data.toList) 0 0, true, false, 0⟩) = (⟨0, 0, true, false, 0⟩ : Vx) := by decide
  have hf1 : foldL (kindL (⟨#[109, 97, 120]⟩ : ByteArray).data.toList) 3 4 = (4, 0) := by decide
  have hj1 : jobB 2 [((0 : Int), ((1 : Int), (5 : Int)))] (kindL (⟨#[115, 115, 115, 112]⟩ : ByteArray).data.toList) 0 3 = true := by decide
  refine calls_qx (args := []) 74 Try.func10 rfl (by kernel_rfl) (by simp) (fun a hS => ?_)
  have hB := Below.refl w.heap.size w
  refine qx_seq (reg_seq ?_)
  refine seq_is hS (by decide) (runs_assign rfl) (fun a1 hS => ?_)
  refine nil_ok (qx_seq (reg_seq ?_))
  refine seq_is hS (by decide) (runs_buildK (pv := [(1, .int .i64 1), (2, .int .i64 5)]) (cells := #[.int .i64 0, .int .i64 1, .int .i64 5]) rfl (by kernel_rfl)) (fun a1 hS => ?_)
  refine seq_op hS (by decide) (runs_oneE (e := ((0 : Int), ((1 : Int), (5 : Int)))) rfl) (fun v1 w1 a1 hp hS => ?_)
  obtain ⟨g2, rfl, hX, hB1⟩ := hp
  have hB := hB.trans (hB1.mono hB.size)
  refine seq_is hS (by decide) (runs_buildK (pv := [(0, .int .i64 2), (1, .slice (some ⟨g2, 0, none⟩) 1 1)]) (cells := #[.int .i64 2, .slice (some ⟨g2, 0, none⟩) 1 1]) rfl (by kernel_rfl)) (fun a1 hS => ?_)
  refine seq_op hS (by decide) (runs_allocB (cs := [.int .i64 0, .slice none 0 0]) zo24 rfl) (fun v3 w3 a1 hp hS => ?_)
  obtain ⟨rfl, hM3, hB3⟩ := hp
  have hLhM3 : w.heap.size ≤ w1.heap.size := hB.size
  have hB := hB.trans (hB3.mono hB.size)
  have hX := hX.below hB3 hX.lt
  refine seq_none hS (runs_storeB (cs := [.int .i64 2, .slice (some ⟨g2, 0, none⟩) 1 1]) rfl rfl hM3 rfl rfl sz24) (fun v5 w5 a1 hp hS => ?_)
  have hQ5 := hM3
  obtain ⟨hM3, hU5⟩ := hp
  have hB := But.new hB hU5 (fun i e => by rw [e]; exact hLhM3) (Nat.le_refl _)
  have hX := hX.but hU5 (has_ne hX hQ5 (by decide))
  refine nil_ok (qx_seq (reg_seq ?_))
  refine seq_is hS (by decide) (runs_buildK (pv := [(0, .string ⟨#[115, 115, 115, 112]⟩), (2, .int .i64 3)]) (cells := #[.string ⟨#[115, 115, 115, 112]⟩, .int .i64 0, .int .i64 3]) rfl (by kernel_rfl)) (fun a1 hS => ?_)
  refine seq_op hS (by decide) (runs_allocB (cs := [.string ByteArray.empty, .int .i64 0, .int .i64 0]) zo26 rfl) (fun v7 w7 a1 hp hS => ?_)
  obtain ⟨rfl, hM7, hB7⟩ := hp
  have hLhM7 : w.heap.size ≤ w5.heap.size := hB.size
  have hB := hB.trans (hB7.mono hB.size)
  have hX := hX.below hB7 hX.lt
  have hM3 := hM3.below hB7 hM3.lt
  refine seq_none hS (runs_storeB (cs := [.string ⟨#[115, 115, 115, 112]⟩, .int .i64 0, .int .i64 3]) rfl rfl hM7 rfl rfl sz26) (fun v9 w9 a1 hp hS => ?_)
  have hQ9 := hM7
  obtain ⟨hM7, hU9⟩ := hp
  have hB := But.new hB hU9 (fun i e => by rw [e]; exact hLhM7) (Nat.le_refl _)
  have hX := hX.but hU9 (has_ne hX hQ9 (by decide))
  have hM3 := hM3.but hU9 (has_ne hM3 hQ9 (by decide))
  refine nil_ok (qx_seq (reg_v (KF (w9.heap.size) 28 (vc (⟨0, 0, false, false, 0⟩ : Vx))) (fun w' => KF (w9.heap.size) 28 (vc (⟨0, 0, false, false, 0⟩ : Vx)) w9 w') [.inl (.agg #[.int .i64 2, .slice (some ⟨g2, 0, none⟩) 1 1]), .inl (.agg #[.string ⟨#[115, 115, 115, 112]⟩, .int .i64 0, .int .i64 3]), .inl (.agg #[.string ⟨#[115, 115, 115, 112]⟩, .int .i64 0, .int .i64 3]), .inl (.agg (vc (⟨0, 0, true, false, 0⟩ : Vx)).toArray), .inr (fun _ => fun v w' => ∃ sv, v = .tuple #[vv (⟨0, 0, false, false, 0⟩ : Vx), sv, .int .i64 0] ∧ w'.ownsRow w9.heap.size 48 3 sv ([((0 : Int), ((1 : Int), (5 : Int)))]).length (cellsE ([((0 : Int), ((1 : Int), (5 : Int)))]))), .inr (fun _ => fun v w' => ∃ sv, v = .tuple #[vv (⟨0, 0, false, false, 0⟩ : Vx), sv, .int .i64 0] ∧ w'.ownsRow w9.heap.size 48 3 sv ([((0 : Int), ((1 : Int), (5 : Int)))]).length (cellsE ([((0 : Int), ((1 : Int), (5 : Int)))]))), .inl (.agg (vc (⟨0, 0, false, false, 0⟩ : Vx)).toArray), .inr (fun _ => fun v w' => w'.ownsRow w9.heap.size 48 3 v ([((0 : Int), ((1 : Int), (5 : Int)))]).length (cellsE ([((0 : Int), ((1 : Int), (5 : Int)))]))), .inl (.int .i64 0), .inr (fun _ => fun v w' => ∃ g, v = .pointer (some ⟨g, 0, none⟩) ∧ w9.heap.size ≤ g ∧ ∃ cs : List Value, cs.length = 5 ∧ Has w' g 28 cs), .inr (fun vs _ => fun w' => ∃ g, vs 9 = .pointer (some ⟨g, 0, none⟩) ∧ w9.heap.size ≤ g ∧ Has w' g 28 (vc (⟨0, 0, false, false, 0⟩ : Vx))), .inr (fun _ => fun v w' => w'.ownsRow w9.heap.size 48 3 v ([((0 : Int), ((1 : Int), (5 : Int)))]).length (cellsE ([((0 : Int), ((1 : Int), (5 : Int)))]))), .inl (.int .i64 0)] 13 0 ⟨trivial, trivial, trivial, trivial, fun _ _ _ => rfl, fun _ _ _ => rfl, trivial, fun _ _ _ => rfl, trivial, fun _ _ _ => rfl, fun vs vs' h => by simp only [h 9 (by kernel_rfl)], fun _ _ _ => rfl, trivial, trivial⟩ mixed rfl (by kernel_rfl) hS (KF.refl _ _ _ _) (fun _ h => h.drew) ?_))
  refine fun vs => ?_
  refine vs_is rfl (fun w' hw => runs_loadRow rfl (hw.other _ _ _ (by decide) hM3) Try.underlying24 rfl (by rw [sz24]; rfl)) ?_
  refine vs_is rfl (fun w' hw => runs_loadRow rfl (hw.other _ _ _ (by decide) hM7) Try.underlying26 rfl (by rw [sz26]; rfl)) ?_
  refine vs_is rfl (fun w' hw => runs_loadRow rfl (hw.other _ _ _ (by decide) hM7) Try.underlying26 rfl (by rw [sz26]; rfl)) ?_
  refine vs_val rfl (fun w' hw hq => (runs_call (args := [.agg #[.string ⟨#[115, 115, 115, 112]⟩, .int .i64 0, .int .i64 3], .int .i64 0]) goes17 rfl (first_any ⟨#[115, 115, 115, 112]⟩ 0 3 0 (by decide) (by decide) w')).mono (by rintro u w5 ⟨rfl, hb⟩; exact ⟨by rw [hv1], hw.more (Nat.le_refl _) hb, KF.of hb hw.below.size⟩)) ?_
  refine vs_pr rfl (fun _ _ _ h hk => by obtain ⟨sv, h1, h2⟩ := h; exact ⟨sv, h1, hk.owns h2 (by decide)⟩) (fun w' hw hq => (runs_call (args := [.agg #[.int .i64 2, .slice (some ⟨g2, 0, none⟩) 1 1], .agg #[.string ⟨#[115, 115, 115, 112]⟩, .int .i64 0, .int .i64 3], .int .i64 0, .agg (vc (⟨0, 0, true, false, 0⟩ : Vx)).toArray]) goes12 rfl (step_is w' (edges_hasE (es := [((0 : Int), ((1 : Int), (5 : Int)))]) (hw.other _ _ _ (by decide) hX) (by unfold maxLen; decide)) hs1)).mono (by rintro v w5 ⟨hb, sv, h1, h2⟩; exact ⟨⟨sv, h1, owns_mono h2 hw.below.size⟩, hw.more (Nat.le_refl _) hb, KF.of hb hw.below.size⟩)) (fun vc1 evc1 => ?_)
  refine vs_pr rfl (fun _ _ _ h hk => by obtain ⟨sv, h1, h2⟩ := h; exact ⟨sv, h1, hk.owns h2 (by decide)⟩) (fun w' hw hq => (by obtain ⟨sv, rfl, h2⟩ := hq (4, _) List.mem_cons_self (by kernel_rfl); exact (runs_move rfl).mono (by rintro v w5 ⟨rfl, rfl⟩; exact ⟨⟨sv, rfl, h2⟩, hw, KF.refl _ _ _ _⟩))) (fun vc2 evc2 => ?_)
  refine vs_val rfl (fun w' hw hq => (by obtain ⟨sv, rfl, _⟩ := hq (5, _) List.mem_cons_self (by kernel_rfl); exact (runs_extract rfl rfl).mono (by rintro v w5 ⟨rfl, rfl⟩; exact ⟨rfl, hw, KF.refl _ _ _ _⟩))) ?_
  refine vs_pr rfl (fun _ _ _ h hk => hk.owns h (by decide)) (fun w' hw hq => (by obtain ⟨sv, rfl, h2⟩ := hq (5, _) List.mem_cons_self (by kernel_rfl); exact (runs_extract rfl rfl).mono (by rintro v w5 ⟨rfl, rfl⟩; exact ⟨h2, hw, KF.refl _ _ _ _⟩))) (fun sl esl => ?_)
  refine vs_val rfl (fun w' hw hq => (by obtain ⟨sv, rfl, _⟩ := hq (5, _) (List.mem_cons_of_mem _ List.mem_cons_self) (by kernel_rfl); exact (runs_extract rfl rfl).mono (by rintro v w5 ⟨rfl, rfl⟩; exact ⟨rfl, hw, KF.refl _ _ _ _⟩))) ?_
  refine vs_pr rfl (fun _ _ _ h hk => by obtain ⟨g, h1, h2, cs, h3, h4⟩ := h; obtain ⟨cs', h5, h6⟩ := hk.len _ _ h4; exact ⟨g, h1, h2, cs', h5.trans h3, h6⟩) (fun w' hw hq => (runs_allocB (cs := [.int .i64 0, .int .i64 0, .bool false, .bool false, .int .i64 0]) zo28 rfl).mono (by rintro v w5 ⟨rfl, h2, h3⟩; exact ⟨⟨_, rfl, hw.below.size, _, rfl, h2⟩, hw.more (Nat.le_refl _) h3, KF.of h3 hw.below.size⟩)) (fun va eva => ?_)
  refine vs_none rfl (fun w1 w2 h hk => by obtain ⟨g, h1, h2, h3⟩ := h; exact ⟨g, h1, h2, hk.fin _ h3⟩) (fun w' hw hq => (by obtain ⟨g, rfl, hBg, cs, hcs, hg⟩ := hq (9, _) List.mem_cons_self (by kernel_rfl); exact (runs_storeB (cs := vc (⟨0, 0, false, false, 0⟩ : Vx)) rfl rfl hg (hcs.trans rfl) rfl sz28).mono (by rintro v w2 ⟨h1, h2⟩; have hk := KF.store (F := vc (⟨0, 0, false, false, 0⟩ : Vx)) hg hBg (hcs.trans rfl) h1 h2; exact ⟨⟨g, eva, hBg, h1⟩, hw.trans hk, hk⟩))) (fun _ _ => ?_)
  refine vs_pr rfl (fun _ _ _ h hk => hk.owns h (by decide)) (fun w' hw hq => (by have h2 := hq (7, _) (List.mem_cons_of_mem _ (List.mem_cons_of_mem _ List.mem_cons_self)) (by kernel_rfl); exact (runs_assign rfl).mono (by rintro v w5 ⟨rfl, rfl⟩; exact ⟨h2, hw, KF.refl _ _ _ _⟩))) (fun sm esm => ?_)
  refine vs_is rfl (fun w' hw => runs_assign rfl) ?_
  refine (fun a11 w11 hS hK11 hq => ?_)
  obtain ⟨gs, hgs, hgBs, hYs⟩ := (hq (10, _) (List.mem_cons_of_mem _ List.mem_cons_self))
  rw [eva] at hgs
  subst hgs
  have hOwn := (hq (11, _) List.mem_cons_self)
  clear hq
  have hB := hB.trans (hK11.below.mono (hB.size))
  have hX := hK11.other _ _ _ (by decide) hX
  have hM3 := hK11.other _ _ _ (by decide) hM3
  have hM7 := hK11.other _ _ _ (by decide) hM7
  refine wpAnyH_done (by kernel_rfl) ?_ _
  refine qx_seq (reg_seq ?_)
  refine seq_is hS (by decide) (runs_loadRow rfl hM3 Try.underlying24 rfl (by rw [sz24]; rfl)) (fun a1 hS => ?_)
  refine seq_is hS (by decide) (runs_loadRow rfl hM7 Try.underlying26 rfl (by rw [sz26]; rfl)) (fun a1 hS => ?_)
  refine seq_is hS (by decide) (runs_buildK (pv := [(0, .int .i64 1), (1, .int .i64 (-1)), (3, .bool true), (4, .int .i64 5)]) (cells := #[.int .i64 1, .int .i64 (-1), .bool false, .bool true, .int .i64 5]) rfl (by kernel_rfl)) (fun a1 hS => ?_)
  refine seq_op hS (by decide) (runs_call (args := [.agg #[.int .i64 2, .slice (some ⟨g2, 0, none⟩) 1 1], .agg #[.string ⟨#[115, 115, 115, 112]⟩, .int .i64 0, .int .i64 3], .int .i64 1, .agg (vc (⟨1, -1, false, true, 5⟩ : Vx)).toArray]) goes12 rfl (step_is w11 (edges_hasE (es := [((0 : Int), ((1 : Int), (5 : Int)))]) hX (by unfold maxLen; decide)) hs2)) (fun v13 w13 a1 hp hS => ?_)
  obtain ⟨hB13, sv2, rfl, hown2⟩ := hp
  have hB := hB.trans (hB13.mono hB.size)
  have hX := hX.below hB13 hX.lt
  have hM3 := hM3.below hB13 hM3.lt
  have hM7 := hM7.below hB13 hM7.lt
  have hOwn := owns_kept hOwn hB13
  refine seq_is hS (by decide) (runs_move rfl) (fun a1 hS => ?_)
  refine seq_is hS (by decide) (runs_extract rfl rfl) (fun a1 hS => ?_)
  refine seq_is hS (by decide) (runs_extract rfl rfl) (fun a1 hS => ?_)
  refine seq_is hS (by decide) (runs_extract rfl rfl) (fun a1 hS => ?_)
  refine seq_op hS (by decide) (runs_allocB (cs := [.int .i64 0, .int .i64 0, .bool false, .bool false, .int .i64 0]) zo28 rfl) (fun v15 w15 a1 hp hS => ?_)
  obtain ⟨rfl, hM15, hB15⟩ := hp
  have hLhM15 : w.heap.size ≤ w13.heap.size := hB.size
  have hB := hB.trans (hB15.mono hB.size)
  have hX := hX.below hB15 hX.lt
  have hM3 := hM3.below hB15 hM3.lt
  have hM7 := hM7.below hB15 hM7.lt
  have hOwn := owns_kept hOwn hB15
  refine seq_none hS (runs_storeB (cs := [.int .i64 1, .int .i64 5, .bool false, .bool false, .int .i64 0]) rfl rfl hM15 rfl rfl sz28) (fun v17 w17 a1 hp hS => ?_)
  have hQ17 := hM15
  obtain ⟨hM15, hU17⟩ := hp
  have hB := But.new hB hU17 (fun i e => by rw [e]; exact hLhM15) (Nat.le_refl _)
  have hX := hX.but hU17 (has_ne hX hQ17 (by decide))
  have hM3 := hM3.but hU17 (has_ne hM3 hQ17 (by decide))
  have hM7 := hM7.but hU17 (has_ne hM7 hQ17 (by decide))
  have hOwn := owns_but hOwn hU17 (fun i old ho e => by subst e; exact has_ne ho hQ17 (by decide) rfl)
  refine seq_is hS (by decide) (runs_assign rfl) (fun a1 hS => ?_)
  refine seq_is hS (by decide) (runs_assign rfl) (fun a1 hS => ?_)
  refine nil_ok (qx_seq (reg_seq ?_))
  refine seq_op hS (by decide) (runs_call (args := [.string ⟨#[109, 97, 120]⟩, .int .i64 3, .int .i64 4]) goes21 rfl (fold_any ⟨#[109, 97, 120]⟩ 3 4 w17)) (fun v19 w19 a1 hp hS => ?_)
  rw [hf1] at hp
  obtain ⟨rfl, rfl⟩ := hp
  refine seq_is hS (by decide) (runs_move rfl) (fun a1 hS => ?_)
  refine seq_is hS (by decide) (runs_extract rfl rfl) (fun a1 hS => ?_)
  refine seq_is hS (by decide) (runs_extract rfl rfl) (fun a1 hS => ?_)
  refine seq_is hS (by decide) (runs_assign rfl) (fun a1 hS => ?_)
  refine seq_is hS (by decide) (runs_assign rfl) (fun a1 hS => ?_)
  refine nil_ok (qx_seq (reg_seq ?_))
  refine seq_is hS (by decide) (runs_loadRow rfl hM3 Try.underlying24 rfl (by rw [sz24]; rfl)) (fun a1 hS => ?_)
  refine seq_is hS (by decide) (runs_loadRow rfl hM7 Try.underlying26 rfl (by rw [sz26]; rfl)) (fun a1 hS => ?_)
  refine seq_op hS (by decide) (runs_call (args := [.agg #[.int .i64 2, .slice (some ⟨g2, 0, none⟩) 1 1], .agg #[.string ⟨#[115, 115, 115, 112]⟩, .int .i64 0, .int .i64 3]]) goes15 rfl (pcheck_any 2 [((0 : Int), ((1 : Int), (5 : Int)))] _ ⟨#[115, 115, 115, 112]⟩ 0 3 w19 (edges_hasE (es := [((0 : Int), ((1 : Int), (5 : Int)))]) hX (by unfold maxLen; decide)))) (fun v20 w20 a1 hp hS => ?_)
  rw [if_pos hj1] at hp
  obtain ⟨rfl, hB20⟩ := hp
  have hB := hB.trans (hB20.mono hB.size)
  have hM15 := hM15.below hB20 hM15.lt
  have hOwn := owns_kept hOwn hB20
  refine seq_is hS (by decide) (runs_eql (r := true) rfl rfl rfl) (fun a1 hS => ?_)
  refine seq_is hS (by decide) (runs_move rfl) (fun a1 hS => ?_)
  refine seq_yis hS (by decide) rfl (by decide) rfl (runs_move rfl) (fun a1 hS => ?_)
  refine seq_yis hS (by decide) rfl (by decide) rfl (runs_eql (r := true) rfl rfl rfl) (fun a1 hS => ?_)
  refine seq_is hS (by decide) (runs_pick rfl rfl) (fun a1 hS => ?_)
  refine seq_is hS (by decide) (runs_move rfl) (fun a1 hS => ?_)
  refine seq_yis hS (by decide) rfl (by decide) rfl (runs_move rfl) (fun a1 hS => ?_)
  refine seq_yis hS (by decide) rfl (by decide) rfl (runs_buildK (pv := [(1, .int .i64 1), (2, .int .i64 5)]) (cells := #[.int .i64 0, .int .i64 1, .int .i64 5]) rfl (by kernel_rfl)) (fun a1 hS => ?_)
  refine seq_yes hS (by decide) rfl (by decide) rfl (runs_oneM (e := ((0 : Int), ((1 : Int), (5 : Int)))) rfl) (fun v22 w22 a1 hp hS => ?_)
  obtain ⟨g4, rfl, hM, hB22⟩ := hp
  have hB := hB.trans (hB22.mono hB.size)
  have hM15 := hM15.below hB22 hM15.lt
  have hOwn := owns_kept hOwn hB22
  refine seq_yes hS (by decide) rfl (by decide) rfl (runs_call (args := [sm, .slice (some ⟨g4, 0, none⟩) 1 1]) goes16 rfl (msame_any [((0 : Int), ((1 : Int), (5 : Int)))] [((0 : Int), ((1 : Int), (5 : Int)))] _ _ w22 (edges_ownE hOwn rfl) (edges_hasE (es := [((0 : Int), ((1 : Int), (5 : Int)))]) hM (by unfold maxLen; decide)))) (fun v24 w24 a1 hp hS => ?_)
  obtain ⟨rfl, hB24⟩ := hp
  have hB := hB.trans (hB24.mono hB.size)
  have hM15 := hM15.below hB24 hM15.lt
  rw [show decide ([((0 : Int), ((1 : Int), (5 : Int)))] = [((0 : Int), ((1 : Int), (5 : Int)))]) = true by decide] at hS
  refine seq_is hS (by decide) (runs_pick rfl rfl) (fun a1 hS => ?_)
  refine seq_is hS (by decide) (runs_move rfl) (fun a1 hS => ?_)
  refine seq_yis hS (by decide) rfl (by decide) rfl (runs_move rfl) (fun a1 hS => ?_)
  refine seq_yis hS (by decide) rfl (by decide) rfl (runs_eql (r := true) rfl rfl rfl) (fun a1 hS => ?_)
  refine seq_is hS (by decide) (runs_pick rfl rfl) (fun a1 hS => ?_)
  refine seq_is hS (by decide) (runs_move rfl) (fun a1 hS => ?_)
  refine seq_yis hS (by decide) rfl (by decide) rfl (runs_loadRow rfl hM15 Try.underlying28 rfl (by rw [sz28]; rfl)) (fun a1 hS => ?_)
  refine seq_yis hS (by decide) rfl (by decide) rfl (runs_buildK (pv := [(0, .int .i64 1), (1, .int .i64 5)]) (cells := #[.int .i64 1, .int .i64 5, .bool false, .bool false, .int .i64 0]) rfl (by kernel_rfl)) (fun a1 hS => ?_)
  refine seq_yis hS (by decide) rfl (by decide) rfl (runs_eqV (a := (⟨1, 5, false, false, 0⟩ : Vx)) (b := (⟨1, 5, false, false, 0⟩ : Vx)) (r := true) rfl rfl (by decide)) (fun a1 hS => ?_)
  refine seq_is hS (by decide) (runs_pick rfl rfl) (fun a1 hS => ?_)
  refine seq_is hS (by decide) (runs_move rfl) (fun a1 hS => ?_)
  refine seq_yis hS (by decide) rfl (by decide) rfl (runs_move rfl) (fun a1 hS => ?_)
  refine seq_yis hS (by decide) rfl (by decide) rfl (runs_eql (r := true) rfl rfl rfl) (fun a1 hS => ?_)
  refine seq_is hS (by decide) (runs_pick rfl rfl) (fun a1 hS => ?_)
  refine seq_is hS (by decide) (runs_move rfl) (fun a1 hS => ?_)
  refine seq_yis hS (by decide) rfl (by decide) rfl (runs_move rfl) (fun a1 hS => ?_)
  refine seq_yis hS (by decide) rfl (by decide) rfl (runs_eql (r := true) rfl rfl rfl) (fun a1 hS => ?_)
  refine seq_is hS (by decide) (runs_pick rfl rfl) (fun a1 hS => ?_)
  refine seq_is hS (by decide) (runs_move rfl) (fun a1 hS => ?_)
  refine seq_yis hS (by decide) rfl (by decide) rfl (runs_call (args := [.string ⟨#[114, 97, 110, 107]⟩]) goes19 rfl (known_is ⟨#[114, 97, 110, 107]⟩ w24 (b := true) (by decide))) (fun a1 hS => ?_)
  refine seq_is hS (by decide) (runs_pick rfl rfl) (fun a1 hS => ?_)
  refine seq_is hS (by decide) (runs_move rfl) (fun a1 hS => ?_)
  refine seq_yis hS (by decide) rfl (by decide) rfl (runs_call (args := [.string ⟨#[120]⟩]) goes19 rfl (known_is ⟨#[120]⟩ w24 (b := false) (by decide))) (fun a1 hS => ?_)
  refine seq_yis hS (by decide) rfl (by decide) rfl (runs_not (b := false) rfl) (fun a1 hS => ?_)
  refine seq_is hS (by decide) (runs_pick rfl rfl) (fun a1 hS => ?_)
  refine seq_is hS (by decide) (runs_assign rfl) (fun a1 hS => ?_)
  exact nil_ok (qx_ret (ret1 (t := 0) (by kernel_rfl) hS rfl ⟨_, rfl, rfl, hB⟩))
end Go.Proofs.Ytfceckdhoaabnaa
