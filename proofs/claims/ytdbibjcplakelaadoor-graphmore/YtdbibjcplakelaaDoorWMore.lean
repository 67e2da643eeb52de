/- GraphMore, walked. Conditions: none of our own. -/
import Derived.Test.YtdbibjcplakelaaDoorGApp
namespace Go.Proofs.YtdbibjcplakelaaDoor
open Go.RowKit
set_option maxRecDepth 100000

theorem less_ok {n : Int} {es : List E} (h : checkZ n es = 0) (k : Nat) : checkZ n (es.take k ++ es.drop (k + 1)) = 0 := by
  obtain ⟨h1, h2⟩ := check_zero h
  have hs : (es.take k ++ es.drop (k + 1)).Sublist es := by
    have : es = es.take k ++ es.drop k := (List.take_append_drop k es).symm
    conv => rhs; rw [this]
    refine List.Sublist.append (List.Sublist.refl _) ?_
    rw [← List.drop_drop]
    exact List.drop_sublist 1 _
  have hf := (formed_iff n es).1 h1
  refine check_of ((formed_iff n _).2 ⟨hf.1, hf.2.1, Nat.le_trans hs.length_le hf.2.2.1, fun e he => hf.2.2.2 e (hs.subset he)⟩) ((twice_iff _).2 (((twice_iff es).1 h2).sublist hs))
theorem more_wrong {n : Int} {es : List E} (h : checkZ n es = 0) {k : Nat} {e : E} (he : es[k]? = some e) : checkZ n (es ++ [e]) = if es.length = 512 then 50 else 51 := by
  obtain ⟨h1, h2⟩ := check_zero h
  have hf := (formed_iff n es).1 h1
  unfold checkZ
  by_cases hl : es.length = 512
  · rw [if_neg (fun hh => by have := (formed_iff n _).1 hh; simp at this; omega), if_pos hl]
  · have hff : formedB n (es ++ [e]) = true := (formed_iff n _).2 ⟨hf.1, hf.2.1, by simp; omega, fun x hx => by
      rcases List.mem_append.1 hx with hx | hx
      · exact hf.2.2.2 x hx
      · rw [List.mem_singleton] at hx; subst hx; exact hf.2.2.2 x (List.mem_of_getElem? he)⟩
    have ht : twiceB (es ++ [e]) = true := by
      cases ht : twiceB (es ++ [e]) with
      | true => rfl
      | false =>
        have := (twice_iff _).1 ht
        rw [List.pairwise_append] at this
        exact absurd ⟨rfl, rfl⟩ (this.2.2 e (List.mem_of_getElem? he) e (by simp))
    rw [if_pos hff, if_pos ht, if_neg hl]
set_option maxHeartbeats 1000000 in
theorem more_walk (n : Int) (es : List E) (v : Value) (at_ : Nat) (hat : at_ < 65536) (w : World) (hE : Edges w v es) (hk : Kept w) : Ans 8 [gv n v, .int .u16 (at_ : Int)] w (fun u w' => u = .bool true ∧ Below w.heap.size w w') := by
  have hE0 := hE
  obtain ⟨A, c, rfl, hc1, hc2, hA⟩ := id hE
  unfold maxLen at hc2
  refine calls_qx (args := [gv n (.slice A es.length c), .int .u16 (at_ : Int)]) 78 Tryd.func8 rfl (by kernel_rfl) (by simp) (fun a hS => ?_)
  refine qx_seq (reg_seq ?_)
  refine seq_op hS (by decide) (runs_box rfl) (fun v1 w1 a1 hp1 hS => ?_)
  obtain ⟨rfl, hw1⟩ := hp1
  obtain ⟨hG, hB1⟩ : Has w1 w.heap.size 24 [.int .i64 n, .slice A es.length c] ∧ Below w.heap.size w w1 := by rw [hw1]; exact new_box w 24 [.int .i64 n, .slice A es.length c]
  clear hw1
  have hE := hE0.kept hB1
  have hk1 := hk.on hB1
  generalize hgg : w.heap.size = g at *
  refine seq_is hS (by decide) (runs_assign rfl) (fun a1 hS => ?_)
  refine nil_ok (qx_seq (qx_seq (reg_seq ?_)))
  refine seq_op hS (by decide) (runs_call (args := []) goes10 rfl (awake_any w1 hk1)) (fun v2 w2 a2 hp2 hS => ?_)
  obtain ⟨rfl, hB2⟩ := hp2
  have hG := hG.below hB2 hG.lt
  have hE := hE.kept hB2
  have hk2 := hk1.on hB2
  have hB : Below g w w2 := hB1.trans (hB2.mono (by have := hB1.size; omega))
  refine seq_is hS (by decide) (runs_not (b := true) rfl) (fun a1 hS => ?_)
  refine seq_is hS (by decide) (runs_move rfl) (fun a1 hS => ?_)
  refine seq_yis hS (by decide) rfl (by decide) rfl (runs_f24 (by decide) rfl) (fun a1 hS => ?_)
  refine seq_yis hS (by decide) rfl (by decide) rfl (runs_loadV rfl hG) (fun a1 hS => ?_)
  refine seq_yis hS (by decide) rfl (by decide) rfl (runs_len rfl und22) (fun a1 hS => ?_)
  by_cases h6 : ((es.length : Nat) : Int) > 600
  · skip
    refine seq_yis hS (by decide) rfl (by decide) rfl (runs_gtr (r := true) rfl rfl (by rw [decide_eq_true_eq]; omega)) (fun a1 hS => ?_)
    refine seq_is hS (by decide) (runs_pick rfl rfl) (fun a1 hS => ?_)
    refine seq_is hS (by decide) (runs_move rfl) (fun a1 hS => ?_)
    refine seq_no hS (by decide) rfl (by decide) rfl rfl (fun a1 hS => ?_)
    refine seq_no hS (by decide) rfl (by decide) rfl rfl (fun a1 hS => ?_)
    refine seq_no hS (by decide) rfl (by decide) rfl rfl (fun a1 hS => ?_)
    refine seq_no hS (by decide) rfl (by decide) rfl rfl (fun a1 hS => ?_)
    refine seq_is hS (by decide) (runs_pick rfl rfl) (fun a1 hS => ?_)
    refine seq_is hS (by decide) (runs_move rfl) (fun a1 hS => ?_)
    refine seq_no hS (by decide) rfl (by decide) rfl rfl (fun a1 hS => ?_)
    refine seq_no hS (by decide) rfl (by decide) rfl rfl (fun a1 hS => ?_)
    refine seq_no hS (by decide) rfl (by decide) rfl rfl (fun a1 hS => ?_)
    refine seq_no hS (by decide) rfl (by decide) rfl rfl (fun a1 hS => ?_)
    refine seq_is hS (by decide) (runs_pick rfl rfl) (fun a1 hS => ?_)
    refine nil_ok (wp_cond_true (hS.eval rfl) (qx_seq (reg_seq ?_)))
    refine seq_op hS (by decide) (runs_call (args := []) goes10 rfl (awake_any w2 hk2)) (fun v9 w9 a9 hp9 hS => ?_)
    obtain ⟨rfl, hB9⟩ := hp9
    refine seq_is hS (by decide) (runs_assign rfl) (fun a1 hS => ?_)
    exact nil_ok (qx_ret (ret1 (t := 4) (by kernel_rfl) hS rfl ⟨_, rfl, rfl, hB.trans (hB9.mono (by have := hB.size; omega))⟩))
  · skip
    refine seq_yis hS (by decide) rfl (by decide) rfl (runs_gtr (r := false) rfl rfl (by rw [decide_eq_false_iff_not]; omega)) (fun a1 hS => ?_)
    refine seq_is hS (by decide) (runs_pick rfl rfl) (fun a1 hS => ?_)
    refine seq_is hS (by decide) (runs_move rfl) (fun a1 hS => ?_)
    refine seq_yis hS (by decide) rfl (by decide) rfl (runs_f24 (by decide) rfl) (fun a1 hS => ?_)
    refine seq_yis hS (by decide) rfl (by decide) rfl (runs_loadV rfl hG) (fun a1 hS => ?_)
    refine seq_yis hS (by decide) rfl (by decide) rfl (runs_len rfl und22) (fun a1 hS => ?_)
    by_cases h7 : ((es.length : Nat) : Int) = 0
    · skip
      refine seq_yis hS (by decide) rfl (by decide) rfl (runs_eql (r := true) rfl rfl (by simpa using h7)) (fun a1 hS => ?_)
      refine seq_is hS (by decide) (runs_pick rfl rfl) (fun a1 hS => ?_)
      refine seq_is hS (by decide) (runs_move rfl) (fun a1 hS => ?_)
      refine seq_no hS (by decide) rfl (by decide) rfl rfl (fun a1 hS => ?_)
      refine seq_no hS (by decide) rfl (by decide) rfl rfl (fun a1 hS => ?_)
      refine seq_no hS (by decide) rfl (by decide) rfl rfl (fun a1 hS => ?_)
      refine seq_no hS (by decide) rfl (by decide) rfl rfl (fun a1 hS => ?_)
      refine seq_is hS (by decide) (runs_pick rfl rfl) (fun a1 hS => ?_)
      refine nil_ok (wp_cond_true (hS.eval rfl) (qx_seq (reg_seq ?_)))
      refine seq_op hS (by decide) (runs_call (args := []) goes10 rfl (awake_any w2 hk2)) (fun v9 w9 a9 hp9 hS => ?_)
      obtain ⟨rfl, hB9⟩ := hp9
      refine seq_is hS (by decide) (runs_assign rfl) (fun a1 hS => ?_)
      exact nil_ok (qx_ret (ret1 (t := 4) (by kernel_rfl) hS rfl ⟨_, rfl, rfl, hB.trans (hB9.mono (by have := hB.size; omega))⟩))
    · skip
      refine seq_yis hS (by decide) rfl (by decide) rfl (runs_eql (r := false) rfl rfl (by simpa using h7)) (fun a1 hS => ?_)
      refine seq_is hS (by decide) (runs_pick rfl rfl) (fun a1 hS => ?_)
      refine seq_is hS (by decide) (runs_move rfl) (fun a1 hS => ?_)
      refine seq_yis hS (by decide) rfl (by decide) rfl (runs_loadG rfl hG) (fun a1 hS => ?_)
      refine seq_yes hS (by decide) rfl (by decide) rfl (runs_call (args := [gv n (.slice A es.length c)]) goes13 rfl (own_any n es (by omega) _ w2 hE)) (fun v3 w3 a3 hp3 hS => ?_)
      obtain ⟨hB3, x3, rfl, hE3⟩ := hp3
      have hE3 := hE3.edges
      have hG := hG.below hB3 hG.lt
      have hE := hE.kept hB3
      have hB := hB.trans (hB3.mono (by have := hB.size; omega))
      refine seq_yes hS (by decide) rfl (by decide) rfl (runs_call (args := [gv n x3]) goes14 rfl (check_any n es x3 w3 hE3)) (fun v4 w4 a4 hp4 hS => ?_)
      obtain ⟨rfl, hB4⟩ := hp4
      have hG := hG.below hB4 hG.lt
      have hE := hE.kept hB4
      have hB := hB.trans (hB4.mono (by have := hB.size; omega))
      have hk4 := (hk2.on hB3).on hB4
      by_cases hc : checkZ n es = 0
      · skip
        refine seq_yis hS (by decide) rfl (by decide) rfl (runs_neq (r := false) rfl rfl (by simp [hc])) (fun a1 hS => ?_)
        refine seq_is hS (by decide) (runs_pick rfl rfl) (fun a1 hS => ?_)
        have hf := (formed_iff n es).1 (check_zero hc).1
        obtain ⟨kk, hkk⟩ : ∃ kk, kk = at_ % es.length := ⟨_, rfl⟩
        have hkl : kk < es.length := by rw [hkk]; exact Nat.mod_lt _ (by omega)
        obtain ⟨e, he⟩ : ∃ e, es[kk]? = some e := ⟨_, List.getElem?_eq_getElem hkl⟩
        obtain ⟨b, o, rfl, hb, hr⟩ := hA (by omega)
        refine nil_ok (wp_cond_false (hS.eval rfl) (wp_skip (qx_seq (reg_seq ?_))))
        refine seq_is hS (by decide) (runs_move rfl) (fun a1 hS => ?_)
        refine seq_is hS (by decide) (runs_convInt (k' := .i64) (r := (at_ : Int)) rfl (by rw [Tryd.underlying42]; rfl) und3 (by simp [IntKind.wrap, IntKind.bits, IntKind.signed]; omega)) (fun a1 hS => ?_)
        refine seq_is hS (by decide) (runs_f24 (by decide) rfl) (fun a1 hS => ?_)
        refine seq_is hS (by decide) (runs_loadV rfl hG) (fun a1 hS => ?_)
        refine seq_is hS (by decide) (runs_len rfl und22) (fun a1 hS => ?_)
        refine seq_is hS (by decide) (runs_rem (r := ((at_ % es.length : Nat) : Int)) rfl rfl (by omega) rfl) (fun a1 hS => ?_)
        refine seq_is hS (by decide) (runs_assign rfl) (fun a1 hS => ?_)
        rw [← hkk] at hS
        have hl4 : (es.take kk).length = kk := by simp; omega
        have hl5 : (es.drop (kk + 1)).length = es.length - 1 - kk := by simp; omega
        have hEt : ∀ w5, Below w4.heap.size w4 w5 → Edges w5 (.slice (some ⟨b, o, none⟩) kk c) (es.take kk) := fun w5 h5 => edges_take (hE.kept h5) kk (by omega)
        have hEd : ∀ w5, Below w4.heap.size w4 w5 → Edges w5 (.slice (if c = kk + 1 then some ⟨b, o, none⟩ else (some ⟨b, o, none⟩ : Option Addr).map (·.add ((kk + 1) * 3))) (es.length - (kk + 1)) (c - (kk + 1))) (es.drop (kk + 1)) := fun w5 h5 => edges_drop (hE.kept h5) (kk + 1) (by omega)
        refine nil_ok ?_
        refine qx_seq (reg_k (KA w4.heap.size kk (es.length - 1) (cellsE (es.take kk ++ es.drop (kk + 1)))) (fun w5 => Below w4.heap.size w4 w5) [.inl (.pointer (some ⟨g, 0 + 0, none⟩)), .inl (.int .i64 n), .inr (fun v w' => ∃ g1, v = .slice (some ⟨g1, 0, none⟩) 0 0 ∧ w'.ownsRow w4.heap.size 45 3 v 0 []), .inl (.pointer (some ⟨g, 0 + 1, none⟩)), .inl (.slice (some ⟨b, o, none⟩) es.length c), .inl (.int .i64 (kk : Int)), .inl (.slice (some ⟨b, o, none⟩) kk c), .inr (fun v w' => ∃ g1 c1, v = .slice (some ⟨g1, 0, none⟩) kk c1 ∧ w'.ownsRow w4.heap.size 45 3 v kk (cellsE (es.take kk))), .inl (.pointer (some ⟨g, 0 + 1, none⟩)), .inl (.slice (some ⟨b, o, none⟩) es.length c), .inl (.int .i64 (kk : Int)), .inl (.int .i64 ((kk + 1 : Nat) : Int)), .inl (.slice (if c = kk + 1 then some ⟨b, o, none⟩ else (some ⟨b, o, none⟩ : Option Addr).map (·.add ((kk + 1) * 3))) (es.length - (kk + 1)) (c - (kk + 1))), .inr (fun v w' => (∃ A2 c2, v = .slice A2 (es.length - 1) c2) ∧ w'.ownsRow w4.heap.size 45 3 v (es.length - 1) (cellsE (es.take kk ++ es.drop (kk + 1)))), .inr (fun v w' => ∃ A2 c2, v = gv n (.slice A2 (es.length - 1) c2) ∧ w'.ownsRow w4.heap.size 45 3 (.slice A2 (es.length - 1) c2) (es.length - 1) (cellsE (es.take kk ++ es.drop (kk + 1)))), .inr (fun v w' => ∃ g6, v = .pointer (some ⟨g6, 0, none⟩) ∧ w4.heap.size ≤ g6 ∧ Has w' g6 24 [.int .i64 0, .slice none 0 0])] 16 1 mixed rfl (by kernel_rfl) hS (Below.refl _ _) (fun _ h => h.drew) ?_)
        refine ks_is rfl (fun w' hw => runs_f24 (by decide) rfl) ?_
        refine ks_is rfl (fun w' hw => runs_loadN rfl (hG.below hw hG.lt)) ?_
        refine ks_pr rfl (fun v a b h hK => by obtain ⟨g1, h1, h2⟩ := h; exact ⟨g1, h1, hK.2.1 _ _ _ (.inl (by omega)) h2⟩) (fun w' hw hq => (none_own hw.size).mono (by rintro v w5 ⟨h1, h2⟩; exact ⟨h1, hw.trans (h2.mono hw.size), KA.of_below h2 hw.size⟩)) (fun v38 => ?_)
        refine ks_is rfl (fun w' hw => runs_f24 (by decide) rfl) ?_
        refine ks_is rfl (fun w' hw => runs_loadV rfl (hG.below hw hG.lt)) ?_
        refine ks_is rfl (fun w' hw => runs_move rfl) ?_
        refine ks_is rfl (fun w' hw => runs_sliceToG (k := kk) rfl rfl rfl und22 (by kernel_rfl) (by omega)) ?_
        refine ks_pr rfl (fun v a b h hK => by obtain ⟨g1, c1, h1, h2⟩ := h; exact ⟨g1, c1, h1, hK.2.1 _ _ _ (.inl (by omega)) h2⟩) (fun w' hw hq => (by obtain ⟨g1, rfl, h1⟩ := hq (2, _) List.mem_cons_self (by kernel_rfl); exact (copy_own (hEt w' hw) (by omega) hw.size rfl h1 rfl).mono (by rintro u w5 ⟨⟨g2, c2, hu⟩, h3, h4⟩; rw [hl4] at hu h3; exact ⟨⟨g2, c2, hu, h3⟩, hw.trans (h4.mono hw.size), KA.of_below h4 hw.size⟩))) (fun v43 => ?_)
        refine ks_is rfl (fun w' hw => runs_f24 (by decide) rfl) ?_
        refine ks_is rfl (fun w' hw => runs_loadV rfl (hG.below hw hG.lt)) ?_
        refine ks_is rfl (fun w' hw => runs_move rfl) ?_
        refine ks_is rfl (fun w' hw => runs_add (r := ((kk + 1 : Nat) : Int)) rfl rfl (by simp [IntKind.wrap, IntKind.bits, IntKind.signed]; omega)) ?_
        refine ks_is rfl (fun w' hw => runs_sliceFromG (l := kk + 1) rfl rfl rfl und22 siz45 (by omega)) ?_
        refine ks_pr rfl (fun v a b h hK => ⟨h.1, hK.2.1 _ _ _ (.inr ⟨rfl, rfl⟩) h.2⟩) (fun w' hw hq => (by obtain ⟨g1, c1, rfl, h1⟩ := hq (7, _) List.mem_cons_self (by kernel_rfl); exact (app_own (n := es.length - 1) (xs := es.take kk) (c := c1) (g := g1) (hEd w' hw) (by omega) hw.size (by rw [hl4]; rfl) (by rw [hl4]; exact h1) rfl (by intro c5 h5; simp only [Value.slice.injEq] at h5; split at h5 <;> simp at h5) (by omega)).mono (by rintro u w5 ⟨h3, h4⟩; rw [hl4] at h4; exact ⟨h3, hw.trans h4.1, h4⟩))) (fun v49 => ?_)
        refine ks_pr rfl (fun v a b h hK => by obtain ⟨A2, c2, h1, h2⟩ := h; exact ⟨A2, c2, h1, hK.2.1 _ _ _ (.inr ⟨rfl, rfl⟩) h2⟩) (fun w' hw hq => (by obtain ⟨⟨A2, c2, rfl⟩, h8⟩ := hq (13, _) List.mem_cons_self (by kernel_rfl); exact (runs_build24 rfl rfl).mono (by rintro u w5 ⟨rfl, rfl⟩; exact ⟨⟨A2, c2, rfl, h8⟩, hw, KA.of_below (Below.refl _ _) hw.size⟩))) (fun v50 => ?_)
        refine ks_pr rfl (fun v a b h hK => by obtain ⟨g6, h1, h2, h3⟩ := h; exact ⟨g6, h1, h2, hK.2.2 _ _ _ (by decide) h3⟩) (fun w' hw hq => runs_alloc24.mono (by rintro v w5 ⟨rfl, rfl⟩; exact ⟨⟨_, rfl, hw.size, Has.new w' 24 [.int .i64 0, .slice none 0 0]⟩, hw.alloc hw.size _, KA.of_below ((Below.refl _ _).alloc (Nat.le_refl _) _) hw.size⟩)) (fun v6 => ?_)
        refine (fun a5 w5 hS5 hB5 hq => ?_)
        obtain ⟨g6, rfl, hg6, hH6⟩ := hq (15, _) List.mem_cons_self
        obtain ⟨A6, c6, rfl, hown6⟩ := hq (14, _) (List.mem_cons_of_mem _ List.mem_cons_self)
        refine tail_none 16 (by kernel_rfl) rfl hS5 (runs_store24 rfl rfl hH6 rfl) (fun v6 w6 a6 hp6 hS6 => ⟨trivial, ?_⟩)
        obtain ⟨rfl, hw6⟩ := hp6
        have hX6 : Has w6 g6 24 [.int .i64 n, .slice A6 (es.length - 1) c6] := by rw [hw6]; exact has_setRow hH6
        have hll : (es.take kk ++ es.drop (kk + 1)).length = es.length - 1 := by rw [List.length_append]; omega
        have hE6 : Edges w6 (.slice A6 (es.length - 1) c6) (es.take kk ++ es.drop (kk + 1)) := by rw [hw6]; exact edges_own (owns_setRow hown6 hH6 (by decide) _) hll
        have hB6 : Below w4.heap.size w4 w6 := by rw [hw6]; exact below_rowB hB5 hg6 _
        clear hw6
        have hG := hG.below hB6 hG.lt
        have hE := hE.kept hB6
        have hB := hB.trans (hB6.mono (by have := hB.size; omega))
        have hk6 := hk4.on hB6
        refine wpAnyH_done (by kernel_rfl) ?_ _
        have hS := hS6.only [(6, .pointer (some ⟨g6, 0, none⟩)), (5, .int .i64 (kk : Int)), (2, .pointer (some ⟨g, 0, none⟩))] ⟨rfl, rfl, rfl, trivial⟩
        generalize hllv : es.length - 1 = ll at *
        clear hEt hEd hS6 hS5 hq
        have hre : ∀ w7, Below w6.heap.size w6 w7 → w7.rangeAt b (o + kk * 3) (encE e) := fun w7 h7 => by
          obtain ⟨_, _, e1, _, _, h1⟩ := hE
          simp only [Value.slice.injEq, true_and] at e1
          obtain ⟨b1, o1, e2, hb1, hr1⟩ := h1 (by omega)
          rw [← e1.1] at e2
          simp only [Option.some.injEq, Addr.mk.injEq] at e2
          rw [e2.1, e2.2.1]
          exact range_below (edges_at hr1 he) h7 hb1
        obtain ⟨i45, hi45, hz45, hs45, hb45⟩ := info_parts inf45
        refine qx_seq (reg_k (KA w6.heap.size es.length (es.length + 1) (cellsE (es ++ [e]))) (fun w7 => Below w6.heap.size w6 w7) [.inl (.pointer (some ⟨g, 0 + 0, none⟩)), .inl (.int .i64 n), .inr (fun v w' => ∃ g1, v = .slice (some ⟨g1, 0, none⟩) 0 0 ∧ w'.ownsRow w6.heap.size 45 3 v 0 []), .inl (.pointer (some ⟨g, 0 + 1, none⟩)), .inl (.slice (some ⟨b, o, none⟩) es.length c), .inr (fun v w' => ∃ g1 c1, v = .slice (some ⟨g1, 0, none⟩) es.length c1 ∧ w'.ownsRow w6.heap.size 45 3 v es.length (cellsE es)), .inl (.pointer (some ⟨g, 0 + 1, none⟩)), .inl (.slice (some ⟨b, o, none⟩) es.length c), .inl (.int .i64 (kk : Int)), .inl (.pointer (some ⟨b, o + kk * 3, none⟩)), .inl (.agg (encE e).toArray), .inr (fun v w' => ∃ g1 c1, v = .slice (some ⟨g1, 0, none⟩) 1 c1 ∧ w'.ownsRow w6.heap.size 45 3 v 1 (cellsE [e])), .inr (fun v w' => (∃ A2 c2, v = .slice A2 (es.length + 1) c2) ∧ w'.ownsRow w6.heap.size 45 3 v (es.length + 1) (cellsE (es ++ [e]))), .inr (fun v w' => ∃ A2 c2, v = gv n (.slice A2 (es.length + 1) c2) ∧ w'.ownsRow w6.heap.size 45 3 (.slice A2 (es.length + 1) c2) (es.length + 1) (cellsE (es ++ [e]))), .inr (fun v w' => ∃ g7, v = .pointer (some ⟨g7, 0, none⟩) ∧ w6.heap.size ≤ g7 ∧ Has w' g7 24 [.int .i64 0, .slice none 0 0])] 15 1 mixed rfl (by kernel_rfl) hS (Below.refl _ _) (fun _ h => h.drew) ?_)
        refine ks_is rfl (fun w' hw => runs_f24 (by decide) rfl) ?_
        refine ks_is rfl (fun w' hw => runs_loadN rfl (hG.below hw hG.lt)) ?_
        refine ks_pr rfl (fun v a b h hK => by obtain ⟨g1, h1, h2⟩ := h; exact ⟨g1, h1, hK.2.1 _ _ _ (.inl (by omega)) h2⟩) (fun w' hw hq => (none_own hw.size).mono (by rintro v w5 ⟨h1, h2⟩; exact ⟨h1, hw.trans (h2.mono hw.size), KA.of_below h2 hw.size⟩)) (fun v53 => ?_)
        refine ks_is rfl (fun w' hw => runs_f24 (by decide) rfl) ?_
        refine ks_is rfl (fun w' hw => runs_loadV rfl (hG.below hw hG.lt)) ?_
        refine ks_pr rfl (fun v a b h hK => by obtain ⟨g1, c1, h1, h2⟩ := h; exact ⟨g1, c1, h1, hK.2.1 _ _ _ (.inl (by omega)) h2⟩) (fun w' hw hq => (by obtain ⟨g1, rfl, h1⟩ := hq (2, _) List.mem_cons_self (by kernel_rfl); exact (copy_own (hE.kept hw) (by omega) hw.size rfl h1 rfl).mono (by rintro u w5 ⟨⟨g2, c2, rfl⟩, h3, h4⟩; exact ⟨⟨g2, c2, rfl, h3⟩, hw.trans (h4.mono hw.size), KA.of_below h4 hw.size⟩))) (fun v56 => ?_)
        refine ks_is rfl (fun w' hw => runs_f24 (by decide) rfl) ?_
        refine ks_is rfl (fun w' hw => runs_loadV rfl (hG.below hw hG.lt)) ?_
        refine ks_is rfl (fun w' hw => runs_move rfl) ?_
        refine ks_is rfl (fun w' hw => runs_indexAddrG (j := kk) rfl rfl und22 siz45 rfl hkl) ?_
        refine ks_is rfl (fun w' hw => runs_loadE rfl (hre w' hw)) ?_
        refine ks_pr rfl (fun v a b h hK => by obtain ⟨g1, c1, h1, h2⟩ := h; exact ⟨g1, c1, h1, hK.2.1 _ _ _ (.inl (by omega)) h2⟩) (fun w' hw hq => (runs_buildSliceG (sz := 3) (pv := [(0, .agg (encE e).toArray)]) rfl und22 hi45 hz45 hs45 (by omega) (by omega) (cells := (encE e).toArray) (by kernel_rfl)).mono (by rintro v w5 ⟨rfl, rfl⟩; exact ⟨⟨_, 1, rfl, by rw [cellsE_one]; exact ⟨rfl, .inr ⟨_, 1, (encE e).toArray, rfl, hw.size, heap_alloc_new _ _, Nat.le_refl _, by unfold maxLen; omega, rfl, rfl⟩⟩⟩, hw.alloc hw.size _, KA.of_below ((Below.refl _ _).alloc (Nat.le_refl _) _) hw.size⟩)) (fun v62 => ?_)
        refine ks_pr rfl (fun v a b h hK => ⟨h.1, hK.2.1 _ _ _ (.inr ⟨rfl, rfl⟩) h.2⟩) (fun w' hw hq => (by obtain ⟨g2, c2, rfl, h2⟩ := hq (11, _) List.mem_cons_self (by kernel_rfl); obtain ⟨g1, c1, rfl, h1⟩ := hq (5, _) (List.mem_cons_of_mem _ List.mem_cons_self) (by kernel_rfl); exact (app_own (n := es.length + 1) (xs := es) (es := [e]) (c := c1) (g := g1) (edges_own h2 rfl) (by simp; omega) hw.size rfl h1 rfl (by intro c5 h5; cases h5) (by simp)).mono (by rintro u w5 ⟨h3, h4⟩; exact ⟨h3, hw.trans h4.1, h4⟩))) (fun v63 => ?_)
        refine ks_pr rfl (fun v a b h hK => by obtain ⟨A2, c2, h1, h2⟩ := h; exact ⟨A2, c2, h1, hK.2.1 _ _ _ (.inr ⟨rfl, rfl⟩) h2⟩) (fun w' hw hq => (by obtain ⟨⟨A2, c2, rfl⟩, h8⟩ := hq (12, _) List.mem_cons_self (by kernel_rfl); exact (runs_build24 rfl rfl).mono (by rintro u w5 ⟨rfl, rfl⟩; exact ⟨⟨A2, c2, rfl, h8⟩, hw, KA.of_below (Below.refl _ _) hw.size⟩))) (fun v64 => ?_)
        refine ks_pr rfl (fun v a b h hK => by obtain ⟨g7, h1, h2, h3⟩ := h; exact ⟨g7, h1, h2, hK.2.2 _ _ _ (by decide) h3⟩) (fun w' hw hq => runs_alloc24.mono (by rintro v w5 ⟨rfl, rfl⟩; exact ⟨⟨_, rfl, hw.size, Has.new w' 24 [.int .i64 0, .slice none 0 0]⟩, hw.alloc hw.size _, KA.of_below ((Below.refl _ _).alloc (Nat.le_refl _) _) hw.size⟩)) (fun v7 => ?_)
        refine (fun a7 w7 hS7 hB7 hq => ?_)
        obtain ⟨g7, rfl, hg7, hH7⟩ := hq (14, _) List.mem_cons_self
        obtain ⟨A7, c7, rfl, hown7⟩ := hq (13, _) (List.mem_cons_of_mem _ List.mem_cons_self)
        refine tail_none 15 (by kernel_rfl) rfl hS7 (runs_store24 rfl rfl hH7 rfl) (fun v8 w8 a8 hp8 hS8 => ⟨trivial, ?_⟩)
        obtain ⟨rfl, hw8⟩ := hp8
        have hX8 : Has w8 g7 24 [.int .i64 n, .slice A7 (es.length + 1) c7] := by rw [hw8]; exact has_setRow hH7
        have hE8 : Edges w8 (.slice A7 (es.length + 1) c7) (es ++ [e]) := by rw [hw8]; exact edges_own (owns_setRow hown7 hH7 (by decide) _) (by simp)
        have hB8 : Below w6.heap.size w6 w8 := by rw [hw8]; exact below_rowB hB7 hg7 _
        clear hw8
        have hG := hG.below hB8 hG.lt
        have hX6 := hX6.below hB8 hX6.lt
        have hE6 := hE6.kept hB8
        have hB := hB.trans (hB8.mono (by have := hB.size; omega))
        refine wpAnyH_done (by kernel_rfl) ?_ _
        have hS := hS8.only [(7, .pointer (some ⟨g7, 0, none⟩)), (6, .pointer (some ⟨g6, 0, none⟩)), (2, .pointer (some ⟨g, 0, none⟩))] ⟨rfl, rfl, rfl, trivial⟩
        have hless := less_ok hc kk
        have hmore := more_wrong hc he
        clear hS7 hS8 hq
        refine qx_seq (reg_seq ?_)
        refine seq_is hS (by decide) (runs_assign rfl) (fun a1 hS => ?_)
        refine nil_ok (qx_seq (qx_seq (reg_seq ?_)))
        refine seq_is hS (by decide) (runs_f24 (by decide) rfl) (fun a1 hS => ?_)
        refine seq_is hS (by decide) (runs_loadV rfl hG) (fun a1 hS => ?_)
        refine seq_is hS (by decide) (runs_len rfl und22) (fun a1 hS => ?_)
        by_cases h512 : ((es.length : Nat) : Int) = 512
        · skip
          refine seq_is hS (by decide) (runs_eql (r := true) rfl rfl (by simpa using h512)) (fun a1 hS => ?_)
          refine nil_ok (wp_cond_true (hS.eval rfl) (reg_seq ?_))
          refine seq_is hS (by decide) (runs_assign rfl) (fun a1 hS => ?_)
          refine nil_ok (qx_seq (reg_seq ?_))
          refine seq_is hS (by decide) (runs_loadG rfl hX6) (fun a1 hS => ?_)
          refine seq_op hS (by decide) (runs_call (args := [gv n (.slice A6 ll c6)]) goes14 rfl (check_any n _ _ w8 hE6)) (fun v9 w9 a9 hp9 hS => ?_)
          obtain ⟨rfl, hB9⟩ := hp9
          rw [hless] at hS
          have hX8 := hX8.below hB9 hX8.lt
          have hE8 := hE8.kept hB9
          have hB := hB.trans (hB9.mono (by have := hB.size; omega))
          refine seq_is hS (by decide) (runs_eql (r := true) rfl rfl (by simp)) (fun a1 hS => ?_)
          refine seq_is hS (by decide) (runs_move rfl) (fun a1 hS => ?_)
          refine seq_yis hS (by decide) rfl (by decide) rfl (runs_loadG rfl hX8) (fun a1 hS => ?_)
          refine seq_yes hS (by decide) rfl (by decide) rfl (runs_call (args := [gv n (.slice A7 (es.length + 1) c7)]) goes14 rfl (check_any n _ _ w9 hE8)) (fun v10 w10 a10 hp10 hS => ?_)
          obtain ⟨rfl, hB10⟩ := hp10
          rw [hmore, if_pos (by omega)] at hS
          have hB := hB.trans (hB10.mono (by have := hB.size; omega))
          refine seq_yis hS (by decide) rfl (by decide) rfl (runs_move rfl) (fun a1 hS => ?_)
          refine seq_yis hS (by decide) rfl (by decide) rfl (runs_eql (r := true) rfl rfl (by simp)) (fun a1 hS => ?_)
          refine seq_is hS (by decide) (runs_pick rfl rfl) (fun a1 hS => ?_)
          refine seq_is hS (by decide) (runs_assign rfl) (fun a1 hS => ?_)
          exact nil_ok (qx_ret (ret1 (t := 4) (by kernel_rfl) hS rfl ⟨_, rfl, rfl, hB⟩))
        · skip
          refine seq_is hS (by decide) (runs_eql (r := false) rfl rfl (by simpa using h512)) (fun a1 hS => ?_)
          refine nil_ok (wp_cond_false (hS.eval rfl) (wp_skip (qx_seq (reg_seq ?_))))
          refine seq_is hS (by decide) (runs_loadG rfl hX6) (fun a1 hS => ?_)
          refine seq_op hS (by decide) (runs_call (args := [gv n (.slice A6 ll c6)]) goes14 rfl (check_any n _ _ w8 hE6)) (fun v9 w9 a9 hp9 hS => ?_)
          obtain ⟨rfl, hB9⟩ := hp9
          rw [hless] at hS
          have hX8 := hX8.below hB9 hX8.lt
          have hE8 := hE8.kept hB9
          have hB := hB.trans (hB9.mono (by have := hB.size; omega))
          refine seq_is hS (by decide) (runs_eql (r := true) rfl rfl (by simp)) (fun a1 hS => ?_)
          refine seq_is hS (by decide) (runs_move rfl) (fun a1 hS => ?_)
          refine seq_yis hS (by decide) rfl (by decide) rfl (runs_loadG rfl hX8) (fun a1 hS => ?_)
          refine seq_yes hS (by decide) rfl (by decide) rfl (runs_call (args := [gv n (.slice A7 (es.length + 1) c7)]) goes14 rfl (check_any n _ _ w9 hE8)) (fun v10 w10 a10 hp10 hS => ?_)
          obtain ⟨rfl, hB10⟩ := hp10
          rw [hmore, if_neg (by omega)] at hS
          have hB := hB.trans (hB10.mono (by have := hB.size; omega))
          refine seq_yis hS (by decide) rfl (by decide) rfl (runs_move rfl) (fun a1 hS => ?_)
          refine seq_yis hS (by decide) rfl (by decide) rfl (runs_eql (r := true) rfl rfl (by simp)) (fun a1 hS => ?_)
          refine seq_is hS (by decide) (runs_pick rfl rfl) (fun a1 hS => ?_)
          refine seq_is hS (by decide) (runs_assign rfl) (fun a1 hS => ?_)
          exact nil_ok (qx_ret (ret1 (t := 4) (by kernel_rfl) hS rfl ⟨_, rfl, rfl, hB⟩))
      · skip
        refine seq_yis hS (by decide) rfl (by decide) rfl (runs_neq (r := true) rfl rfl (by simp [hc])) (fun a1 hS => ?_)
        refine seq_is hS (by decide) (runs_pick rfl rfl) (fun a1 hS => ?_)
        refine nil_ok (wp_cond_true (hS.eval rfl) (qx_seq (reg_seq ?_)))
        refine seq_op hS (by decide) (runs_call (args := []) goes10 rfl (awake_any w4 hk4)) (fun v9 w9 a9 hp9 hS => ?_)
        obtain ⟨rfl, hB9⟩ := hp9
        refine seq_is hS (by decide) (runs_assign rfl) (fun a1 hS => ?_)
        exact nil_ok (qx_ret (ret1 (t := 4) (by kernel_rfl) hS rfl ⟨_, rfl, rfl, hB.trans (hB9.mono (by have := hB.size; omega))⟩))
end Go.Proofs.YtdbibjcplakelaaDoor
