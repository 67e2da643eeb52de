/- GraphTurned, walked. Conditions: none of our own. -/
import Derived.Test.YtdbibjcplakelaaDoorGApp
namespace Go.Proofs.YtdbibjcplakelaaDoor
open Go.RowKit
set_option maxRecDepth 100000

theorem turn_perm (es : List E) (k : Nat) : (es.drop k ++ es.take k).Perm es := by
  have := List.perm_append_comm (l₁ := es.drop k) (l₂ := es.take k)
  rw [List.take_append_drop] at this
  exact this
theorem show_perm {n : Int} {l m : List E} (h : l.Perm m) : showL n l = showL n m := by
  unfold showL
  rw [check_perm h]
  by_cases hc : checkZ n m = 0
  · rw [if_pos hc, if_pos hc]
    obtain ⟨k, rfl, _⟩ := norm_small hc
    rw [Int.toNat_natCast, norm_of_perm hc h]
  · rw [if_neg hc, if_neg hc]
theorem norm_one {n k1 k2 : Int} {l m l1 l2 : List E} (h : l.Perm m) (y1 : checkZ n l = 0 → k1 = n ∧ l1 = normL n.toNat l) (n1 : checkZ n l ≠ 0 → k1 = 0 ∧ l1 = []) (y2 : checkZ n m = 0 → k2 = n ∧ l2 = normL n.toNat m) (n2 : checkZ n m ≠ 0 → k2 = 0 ∧ l2 = []) : k1 = k2 ∧ l1 = l2 := by
  have hcc := check_perm (n := n) h
  by_cases hc : checkZ n m = 0
  · obtain ⟨rfl, rfl⟩ := y1 (hcc.trans hc)
    obtain ⟨h1, rfl⟩ := y2 hc
    obtain ⟨k, hk, _⟩ := norm_small hc
    refine ⟨h1.symm, ?_⟩
    subst hk
    rw [Int.toNat_natCast, norm_of_perm hc h]
  · obtain ⟨rfl, rfl⟩ := n1 (by rw [hcc]; exact hc)
    obtain ⟨rfl, rfl⟩ := n2 hc
    exact ⟨rfl, rfl⟩
set_option maxHeartbeats 1000000 in
theorem turned_walk (n : Int) (es : List E) (v : Value) (at_ : Nat) (hat : at_ < 65536) (w : World) (hE : Edges w v es) (hk : Kept w) : Ans 6 [gv n v, .int .u16 (at_ : Int)] w (fun u w' => u = .bool true ∧ Below w.heap.size w w') := by
  have hE0 := hE
  obtain ⟨A, c, rfl, hc1, hc2, hA⟩ := id hE
  unfold maxLen at hc2
  refine calls_qx (args := [gv n (.slice A es.length c), .int .u16 (at_ : Int)]) 91 Tryd.func6 rfl (by kernel_rfl) (by simp) (fun a hS => ?_)
  refine qx_seq (reg_seq ?_)
  refine seq_op hS (by decide) (runs_box rfl) (fun v1 w1 a1 hp1 hS => ?_)
  obtain ⟨rfl, hw1⟩ := hp1
  obtain ⟨hG, hB1⟩ : Has w1 w.heap.size 24 [.int .i64 n, .slice A es.length c] ∧ Below w.heap.size w w1 := by rw [hw1]; exact new_box w 24 [.int .i64 n, .slice A es.length c]
  clear hw1
  have hE := hE0.kept hB1
  have hk1 := hk.on hB1
  generalize hgg : w.heap.size = g at *
  refine seq_is hS (by decide) (runs_assign rfl) (fun a1 hS => ?_)
  refine nil_ok (qx_seq (qx_seq (reg_seq ?_)))
  refine seq_op hS (by decide) (runs_call (args := []) goes10 rfl (awake_any w1 hk1)) (fun v2 w2 a2 hp2 hS => ?_)
  obtain ⟨rfl, hB2⟩ := hp2
  have hG := hG.below hB2 hG.lt
  have hE := hE.kept hB2
  have hk2 := hk1.on hB2
  have hB : Below g w w2 := hB1.trans (hB2.mono (by have := hB1.size; omega))
  refine seq_is hS (by decide) (runs_not (b := true) rfl) (fun a1 hS => ?_)
  refine seq_is hS (by decide) (runs_move rfl) (fun a1 hS => ?_)
  refine seq_yis hS (by decide) rfl (by decide) rfl (runs_f24 (by decide) rfl) (fun a1 hS => ?_)
  refine seq_yis hS (by decide) rfl (by decide) rfl (runs_loadV rfl hG) (fun a1 hS => ?_)
  refine seq_yis hS (by decide) rfl (by decide) rfl (runs_len rfl und22) (fun a1 hS => ?_)
  by_cases h6 : ((es.length : Nat) : Int) > 600
  · skip
    refine seq_yis hS (by decide) rfl (by decide) rfl (runs_gtr (r := true) rfl rfl (by rw [decide_eq_true_eq]; omega)) (fun a1 hS => ?_)
    refine seq_is hS (by decide) (runs_pick rfl rfl) (fun a1 hS => ?_)
    refine seq_is hS (by decide) (runs_move rfl) (fun a1 hS => ?_)
    refine seq_no hS (by decide) rfl (by decide) rfl rfl (fun a1 hS => ?_)
    refine seq_no hS (by decide) rfl (by decide) rfl rfl (fun a1 hS => ?_)
    refine seq_no hS (by decide) rfl (by decide) rfl rfl (fun a1 hS => ?_)
    refine seq_no hS (by decide) rfl (by decide) rfl rfl (fun a1 hS => ?_)
    refine seq_is hS (by decide) (runs_pick rfl rfl) (fun a1 hS => ?_)
    refine nil_ok (wp_cond_true (hS.eval rfl) (qx_seq (reg_seq ?_)))
    refine seq_op hS (by decide) (runs_call (args := []) goes10 rfl (awake_any w2 hk2)) (fun v9 w9 a9 hp9 hS => ?_)
    obtain ⟨rfl, hB9⟩ := hp9
    refine seq_is hS (by decide) (runs_assign rfl) (fun a1 hS => ?_)
    exact nil_ok (qx_ret (ret1 (t := 4) (by kernel_rfl) hS rfl ⟨_, rfl, rfl, hB.trans (hB9.mono (by have := hB.size; omega))⟩))
  · skip
    refine seq_yis hS (by decide) rfl (by decide) rfl (runs_gtr (r := false) rfl rfl (by rw [decide_eq_false_iff_not]; omega)) (fun a1 hS => ?_)
    refine seq_is hS (by decide) (runs_pick rfl rfl) (fun a1 hS => ?_)
    refine seq_is hS (by decide) (runs_move rfl) (fun a1 hS => ?_)
    refine seq_yis hS (by decide) rfl (by decide) rfl (runs_f24 (by decide) rfl) (fun a1 hS => ?_)
    refine seq_yis hS (by decide) rfl (by decide) rfl (runs_loadV rfl hG) (fun a1 hS => ?_)
    refine seq_yis hS (by decide) rfl (by decide) rfl (runs_len rfl und22) (fun a1 hS => ?_)
    by_cases h7 : ((es.length : Nat) : Int) = 0
    · skip
      refine seq_yis hS (by decide) rfl (by decide) rfl (runs_eql (r := true) rfl rfl (by simpa using h7)) (fun a1 hS => ?_)
      refine seq_is hS (by decide) (runs_pick rfl rfl) (fun a1 hS => ?_)
      refine nil_ok (wp_cond_true (hS.eval rfl) (qx_seq (reg_seq ?_)))
      refine seq_op hS (by decide) (runs_call (args := []) goes10 rfl (awake_any w2 hk2)) (fun v9 w9 a9 hp9 hS => ?_)
      obtain ⟨rfl, hB9⟩ := hp9
      refine seq_is hS (by decide) (runs_assign rfl) (fun a1 hS => ?_)
      exact nil_ok (qx_ret (ret1 (t := 4) (by kernel_rfl) hS rfl ⟨_, rfl, rfl, hB.trans (hB9.mono (by have := hB.size; omega))⟩))
    · skip
      refine seq_yis hS (by decide) rfl (by decide) rfl (runs_eql (r := false) rfl rfl (by simpa using h7)) (fun a1 hS => ?_)
      refine seq_is hS (by decide) (runs_pick rfl rfl) (fun a1 hS => ?_)
      obtain ⟨kk, hkk⟩ : ∃ kk, kk = at_ % es.length := ⟨_, rfl⟩
      have hkl : kk < es.length := by rw [hkk]; exact Nat.mod_lt _ (by omega)
      obtain ⟨b, o, rfl, hb, hr⟩ := hA (by omega)
      refine nil_ok (wp_cond_false (hS.eval rfl) (wp_skip (qx_seq (reg_seq ?_))))
      refine seq_is hS (by decide) (runs_move rfl) (fun a1 hS => ?_)
      refine seq_is hS (by decide) (runs_convInt (k' := .i64) (r := (at_ : Int)) rfl (by rw [Tryd.underlying42]; rfl) und3 (by simp [IntKind.wrap, IntKind.bits, IntKind.signed]; omega)) (fun a1 hS => ?_)
      refine seq_is hS (by decide) (runs_f24 (by decide) rfl) (fun a1 hS => ?_)
      refine seq_is hS (by decide) (runs_loadV rfl hG) (fun a1 hS => ?_)
      refine seq_is hS (by decide) (runs_len rfl und22) (fun a1 hS => ?_)
      refine seq_is hS (by decide) (runs_rem (r := ((at_ % es.length : Nat) : Int)) rfl rfl (by omega) rfl) (fun a1 hS => ?_)
      refine seq_is hS (by decide) (runs_assign rfl) (fun a1 hS => ?_)
      rw [← hkk] at hS
      have hl4 : (es.take kk).length = kk := by simp; omega
      have hl5 : (es.drop kk).length = es.length - kk := by simp
      have hEt : ∀ w5, Below w2.heap.size w2 w5 → Edges w5 (.slice (some ⟨b, o, none⟩) kk c) (es.take kk) := fun w5 h5 => edges_take (hE.kept h5) kk (by omega)
      have hEd : ∀ w5, Below w2.heap.size w2 w5 → Edges w5 (.slice (if c = kk then some ⟨b, o, none⟩ else (some ⟨b, o, none⟩ : Option Addr).map (·.add (kk * 3))) (es.length - kk) (c - kk)) (es.drop kk) := fun w5 h5 => edges_drop (hE.kept h5) kk (by omega)
      refine nil_ok ?_
      refine qx_seq (reg_k (KA w2.heap.size (es.length - kk) es.length (cellsE (es.drop kk ++ es.take kk))) (fun w5 => Below w2.heap.size w2 w5) [.inl (.pointer (some ⟨g, 0 + 0, none⟩)), .inl (.int .i64 n), .inr (fun v w' => ∃ g1, v = .slice (some ⟨g1, 0, none⟩) 0 0 ∧ w'.ownsRow w2.heap.size 45 3 v 0 []), .inl (.pointer (some ⟨g, 0 + 1, none⟩)), .inl (.slice (some ⟨b, o, none⟩) es.length c), .inl (.int .i64 (kk : Int)), .inl (.slice (if c = kk then some ⟨b, o, none⟩ else (some ⟨b, o, none⟩ : Option Addr).map (·.add (kk * 3))) (es.length - kk) (c - kk)), .inr (fun v w' => ∃ g1 c1, v = .slice (some ⟨g1, 0, none⟩) (es.length - kk) c1 ∧ w'.ownsRow w2.heap.size 45 3 v (es.length - kk) (cellsE (es.drop kk))), .inl (.pointer (some ⟨g, 0 + 1, none⟩)), .inl (.slice (some ⟨b, o, none⟩) es.length c), .inl (.int .i64 (kk : Int)), .inl (.slice (some ⟨b, o, none⟩) kk c), .inr (fun v w' => (∃ A2 c2, v = .slice A2 es.length c2) ∧ w'.ownsRow w2.heap.size 45 3 v es.length (cellsE (es.drop kk ++ es.take kk))), .inr (fun v w' => ∃ A2 c2, v = gv n (.slice A2 es.length c2) ∧ w'.ownsRow w2.heap.size 45 3 (.slice A2 es.length c2) es.length (cellsE (es.drop kk ++ es.take kk))), .inr (fun v w' => ∃ g6, v = .pointer (some ⟨g6, 0, none⟩) ∧ w2.heap.size ≤ g6 ∧ Has w' g6 24 [.int .i64 0, .slice none 0 0])] 15 1 mixed rfl (by kernel_rfl) hS (Below.refl _ _) (fun _ h => h.drew) ?_)
      refine ks_is rfl (fun w' hw => runs_f24 (by decide) rfl) ?_
      refine ks_is rfl (fun w' hw => runs_loadN rfl (hG.below hw hG.lt)) ?_
      refine ks_pr rfl (fun v a b h hK => by obtain ⟨g1, h1, h2⟩ := h; exact ⟨g1, h1, hK.2.1 _ _ _ (.inl (by omega)) h2⟩) (fun w' hw hq => (none_own hw.size).mono (by rintro v w5 ⟨h1, h2⟩; exact ⟨h1, hw.trans (h2.mono hw.size), KA.of_below h2 hw.size⟩)) (fun v38 => ?_)
      refine ks_is rfl (fun w' hw => runs_f24 (by decide) rfl) ?_
      refine ks_is rfl (fun w' hw => runs_loadV rfl (hG.below hw hG.lt)) ?_
      refine ks_is rfl (fun w' hw => runs_move rfl) ?_
      refine ks_is rfl (fun w' hw => runs_sliceFromG (l := kk) rfl rfl rfl und22 siz45 (by omega)) ?_
      refine ks_pr rfl (fun v a b h hK => by obtain ⟨g1, c1, h1, h2⟩ := h; exact ⟨g1, c1, h1, hK.2.1 _ _ _ (.inl (by omega)) h2⟩) (fun w' hw hq => (by obtain ⟨g1, rfl, h1⟩ := hq (2, _) List.mem_cons_self (by kernel_rfl); exact (copy_own (hEd w' hw) (by omega) hw.size rfl h1 rfl).mono (by rintro u w5 ⟨⟨g2, c2, hu⟩, h3, h4⟩; rw [hl5] at hu h3; exact ⟨⟨g2, c2, hu, h3⟩, hw.trans (h4.mono hw.size), KA.of_below h4 hw.size⟩))) (fun v43 => ?_)
      refine ks_is rfl (fun w' hw => runs_f24 (by decide) rfl) ?_
      refine ks_is rfl (fun w' hw => runs_loadV rfl (hG.below hw hG.lt)) ?_
      refine ks_is rfl (fun w' hw => runs_move rfl) ?_
      refine ks_is rfl (fun w' hw => runs_sliceToG (k := kk) rfl rfl rfl und22 (by kernel_rfl) (by omega)) ?_
      refine ks_pr rfl (fun v a b h hK => ⟨h.1, hK.2.1 _ _ _ (.inr ⟨rfl, rfl⟩) h.2⟩) (fun w' hw hq => (by obtain ⟨g1, c1, rfl, h1⟩ := hq (7, _) List.mem_cons_self (by kernel_rfl); exact (app_own (n := es.length) (xs := es.drop kk) (c := c1) (g := g1) (hEt w' hw) (by omega) hw.size (by rw [hl5]; rfl) (by rw [hl5]; exact h1) rfl (by intro c5 h5; cases h5) (by omega)).mono (by rintro u w5 ⟨h3, h4⟩; rw [hl5] at h4; exact ⟨h3, hw.trans h4.1, h4⟩))) (fun v48 => ?_)
      refine ks_pr rfl (fun v a b h hK => by obtain ⟨A2, c2, h1, h2⟩ := h; exact ⟨A2, c2, h1, hK.2.1 _ _ _ (.inr ⟨rfl, rfl⟩) h2⟩) (fun w' hw hq => (by obtain ⟨⟨A2, c2, rfl⟩, h8⟩ := hq (12, _) List.mem_cons_self (by kernel_rfl); exact (runs_build24 rfl rfl).mono (by rintro u w5 ⟨rfl, rfl⟩; exact ⟨⟨A2, c2, rfl, h8⟩, hw, KA.of_below (Below.refl _ _) hw.size⟩))) (fun v49 => ?_)
      refine ks_pr rfl (fun v a b h hK => by obtain ⟨g6, h1, h2, h3⟩ := h; exact ⟨g6, h1, h2, hK.2.2 _ _ _ (by decide) h3⟩) (fun w' hw hq => runs_alloc24.mono (by rintro v w5 ⟨rfl, rfl⟩; exact ⟨⟨_, rfl, hw.size, Has.new w' 24 [.int .i64 0, .slice none 0 0]⟩, hw.alloc hw.size _, KA.of_below ((Below.refl _ _).alloc (Nat.le_refl _) _) hw.size⟩)) (fun v6 => ?_)
      refine (fun a5 w5 hS5 hB5 hq => ?_)
      obtain ⟨g6, rfl, hg6, hH6⟩ := hq (14, _) List.mem_cons_self
      obtain ⟨A6, c6, rfl, hown6⟩ := hq (13, _) (List.mem_cons_of_mem _ List.mem_cons_self)
      refine tail_none 15 (by kernel_rfl) rfl hS5 (runs_store24 rfl rfl hH6 rfl) (fun v6 w6 a6 hp6 hS6 => ⟨trivial, ?_⟩)
      obtain ⟨rfl, hw6⟩ := hp6
      have hX6 : Has w6 g6 24 [.int .i64 n, .slice A6 es.length c6] := by rw [hw6]; exact has_setRow hH6
      have hll : (es.drop kk ++ es.take kk).length = es.length := (turn_perm es kk).length_eq
      have hE6 : Edges w6 (.slice A6 es.length c6) (es.drop kk ++ es.take kk) := by rw [hw6]; exact edges_own (owns_setRow hown6 hH6 (by decide) _) hll
      have hB6 : Below w2.heap.size w2 w6 := by rw [hw6]; exact below_rowB hB5 hg6 _
      clear hw6
      have hG := hG.below hB6 hG.lt
      have hE := hE.kept hB6
      have hB := hB.trans (hB6.mono (by have := hB.size; omega))
      have hk6 := hk2.on hB6
      refine wpAnyH_done (by kernel_rfl) ?_ _
      have hS := hS6.only [(6, .pointer (some ⟨g6, 0, none⟩)), (2, .pointer (some ⟨g, 0, none⟩))] ⟨rfl, rfl, trivial⟩
      have hperm := turn_perm es kk
      have hshow := show_perm (n := n) hperm
      have hcheck := check_perm (n := n) hperm
      have hes6 : (es.drop kk ++ es.take kk).length ≤ 1000 := by omega
      generalize es.drop kk ++ es.take kk = fs at *
      clear hEt hEd hS6 hS5 hq hown6
      refine qx_seq (reg_seq ?_)
      refine seq_is hS (by decide) (runs_loadG rfl hG) (fun a1 hS => ?_)
      refine seq_op hS (by decide) (runs_call (args := [gv n (.slice (some ⟨b, o, none⟩) es.length c)]) goes13 rfl (own_any n es (by omega) _ w6 hE)) (fun v7 w7 a7 hp7 hS => ?_)
      obtain ⟨hB7, x7, rfl, hE7⟩ := hp7
      have hE7 := hE7.edges
      have hG := hG.below hB7 hG.lt
      have hX6 := hX6.below hB7 hX6.lt
      have hE := hE.kept hB7
      have hE6 := hE6.kept hB7
      have hB := hB.trans (hB7.mono (by have := hB.size; omega))
      have hk7 := hk6.on hB7
      refine seq_op hS (by decide) (runs_call (args := [gv n x7]) goes12 rfl (norm_any n es x7 w7 hE7)) (fun v8 w8 a8 hp8 hS => ?_)
      obtain ⟨hB8, k1, x8, l1, rfl, hl1, y1, n1⟩ := hp8
      obtain ⟨A8, c8, rfl, _⟩ := id hl1
      have hl1 := hl1.edges
      have hG := hG.below hB8 hG.lt
      have hX6 := hX6.below hB8 hX6.lt
      have hE := hE.kept hB8
      have hE6 := hE6.kept hB8
      have hB := hB.trans (hB8.mono (by have := hB.size; omega))
      have hk8 := hk7.on hB8
      refine seq_is hS (by decide) (runs_move rfl) (fun a1 hS => ?_)
      refine seq_is hS (by decide) (runs_extract rfl rfl) (fun a1 hS => ?_)
      refine seq_is hS (by decide) (runs_extract rfl rfl) (fun a1 hS => ?_)
      refine seq_op hS (by decide) (runs_alloc24) (fun v9 wa9 a1 hp1 hS => ?_)
      obtain ⟨rfl, hwa9⟩ := hp1
      refine seq_none hS (runs_store24 rfl rfl (by rw [hwa9]; exact Has.new w8 24 [.int .i64 0, .slice none 0 0]) rfl) (fun v9 w9 a1 hp1 hS => ?_)
      obtain ⟨rfl, hwb9⟩ := hp1
      obtain ⟨hN1, hB9⟩ : Has w9 w8.heap.size 24 [.int .i64 k1, .slice A8 l1.length c8] ∧ Below w8.heap.size w8 w9 := by rw [hwb9, hwa9]; exact new_row w8 24 [.int .i64 0, .slice none 0 0] [.int .i64 k1, .slice A8 l1.length c8]
      clear hwb9 hwa9
      have hl1 := hl1.kept hB9
      have hG := hG.below hB9 hG.lt
      have hX6 := hX6.below hB9 hX6.lt
      have hE := hE.kept hB9
      have hE6 := hE6.kept hB9
      have hB := hB.trans (hB9.mono (by have := hB.size; omega))
      have hk9 := hk8.on hB9
      refine seq_is hS (by decide) (runs_assign rfl) (fun a1 hS => ?_)
      refine nil_ok (qx_seq (reg_seq ?_))
      refine seq_is hS (by decide) (runs_loadG rfl hX6) (fun a1 hS => ?_)
      refine seq_op hS (by decide) (runs_call (args := [gv n (.slice A6 es.length c6)]) goes12 rfl (norm_any n fs _ w9 hE6)) (fun v10 w10 a10 hp10 hS => ?_)
      obtain ⟨hB10, k2, x10, l2, rfl, hl2, y2, n2⟩ := hp10
      obtain ⟨A10, c10, rfl, _⟩ := id hl2
      have hl2 := hl2.edges
      have hG := hG.below hB10 hG.lt
      have hX6 := hX6.below hB10 hX6.lt
      have hN1 := hN1.below hB10 hN1.lt
      have hE := hE.kept hB10
      have hE6 := hE6.kept hB10
      have hl1 := hl1.kept hB10
      have hB := hB.trans (hB10.mono (by have := hB.size; omega))
      have hk10 := hk9.on hB10
      refine seq_is hS (by decide) (runs_move rfl) (fun a1 hS => ?_)
      refine seq_is hS (by decide) (runs_extract rfl rfl) (fun a1 hS => ?_)
      refine seq_is hS (by decide) (runs_extract rfl rfl) (fun a1 hS => ?_)
      refine seq_op hS (by decide) (runs_alloc24) (fun v11 wa11 a1 hp1 hS => ?_)
      obtain ⟨rfl, hwa11⟩ := hp1
      refine seq_none hS (runs_store24 rfl rfl (by rw [hwa11]; exact Has.new w10 24 [.int .i64 0, .slice none 0 0]) rfl) (fun v11 w11 a1 hp1 hS => ?_)
      obtain ⟨rfl, hwb11⟩ := hp1
      obtain ⟨hN2, hB11⟩ : Has w11 w10.heap.size 24 [.int .i64 k2, .slice A10 l2.length c10] ∧ Below w10.heap.size w10 w11 := by rw [hwb11, hwa11]; exact new_row w10 24 [.int .i64 0, .slice none 0 0] [.int .i64 k2, .slice A10 l2.length c10]
      clear hwb11 hwa11
      have hl2 := hl2.kept hB11
      have hG := hG.below hB11 hG.lt
      have hX6 := hX6.below hB11 hX6.lt
      have hN1 := hN1.below hB11 hN1.lt
      have hE := hE.kept hB11
      have hE6 := hE6.kept hB11
      have hl1 := hl1.kept hB11
      have hB := hB.trans (hB11.mono (by have := hB.size; omega))
      have hk11 := hk10.on hB11
      refine seq_is hS (by decide) (runs_assign rfl) (fun a1 hS => ?_)
      obtain ⟨hk12, hl12⟩ := norm_one hperm y2 n2 y1 n1
      refine nil_ok (qx_seq (reg_seq ?_))
      refine seq_is hS (by decide) (runs_loadG rfl hG) (fun a1 hS => ?_)
      refine seq_op hS (by decide) (runs_call (args := [gv n (.slice (some ⟨b, o, none⟩) es.length c)]) goes13 rfl (own_any n es (by omega) _ w11 hE)) (fun v12 w12 a12 hp12 hS => ?_)
      obtain ⟨hB12, x12, rfl, hE12⟩ := hp12
      have hE12 := hE12.edges
      have hG := hG.below hB12 hG.lt
      have hX6 := hX6.below hB12 hX6.lt
      have hN1 := hN1.below hB12 hN1.lt
      have hN2 := hN2.below hB12 hN2.lt
      have hE := hE.kept hB12
      have hE6 := hE6.kept hB12
      have hl1 := hl1.kept hB12
      have hl2 := hl2.kept hB12
      have hB := hB.trans (hB12.mono (by have := hB.size; omega))
      have hk12' := hk11.on hB12
      refine seq_op hS (by decide) (runs_call (args := [gv n x12]) goes22 rfl (show_any n es x12 w12 hE12 hk12')) (fun v13 w13 a13 hp13 hS => ?_)
      obtain ⟨hB13, rfl⟩ := hp13
      have hG := hG.below hB13 hG.lt
      have hX6 := hX6.below hB13 hX6.lt
      have hN1 := hN1.below hB13 hN1.lt
      have hN2 := hN2.below hB13 hN2.lt
      have hE := hE.kept hB13
      have hE6 := hE6.kept hB13
      have hl1 := hl1.kept hB13
      have hl2 := hl2.kept hB13
      have hB := hB.trans (hB13.mono (by have := hB.size; omega))
      have hk13 := hk12'.on hB13
      refine seq_is hS (by decide) (runs_move rfl) (fun a1 hS => ?_)
      refine seq_is hS (by decide) (runs_extract rfl rfl) (fun a1 hS => ?_)
      refine seq_is hS (by decide) (runs_extract rfl rfl) (fun a1 hS => ?_)
      refine seq_is hS (by decide) (runs_assign rfl) (fun a1 hS => ?_)
      refine seq_is hS (by decide) (runs_assign rfl) (fun a1 hS => ?_)
      refine nil_ok (qx_seq (reg_seq ?_))
      refine seq_is hS (by decide) (runs_loadG rfl hX6) (fun a1 hS => ?_)
      refine seq_op hS (by decide) (runs_call (args := [gv n (.slice A6 es.length c6)]) goes13 rfl (own_any n fs (by omega) _ w13 hE6)) (fun v14 w14 a14 hp14 hS => ?_)
      obtain ⟨hB14, x14, rfl, hE14⟩ := hp14
      have hE14 := hE14.edges
      have hG := hG.below hB14 hG.lt
      have hX6 := hX6.below hB14 hX6.lt
      have hN1 := hN1.below hB14 hN1.lt
      have hN2 := hN2.below hB14 hN2.lt
      have hE := hE.kept hB14
      have hE6 := hE6.kept hB14
      have hl1 := hl1.kept hB14
      have hl2 := hl2.kept hB14
      have hB := hB.trans (hB14.mono (by have := hB.size; omega))
      have hk14 := hk13.on hB14
      refine seq_op hS (by decide) (runs_call (args := [gv n x14]) goes22 rfl (show_any n fs x14 w14 hE14 hk14)) (fun v15 w15 a15 hp15 hS => ?_)
      obtain ⟨hB15, rfl⟩ := hp15
      have hG := hG.below hB15 hG.lt
      have hX6 := hX6.below hB15 hX6.lt
      have hN1 := hN1.below hB15 hN1.lt
      have hN2 := hN2.below hB15 hN2.lt
      have hE := hE.kept hB15
      have hE6 := hE6.kept hB15
      have hl1 := hl1.kept hB15
      have hl2 := hl2.kept hB15
      have hB := hB.trans (hB15.mono (by have := hB.size; omega))
      refine seq_is hS (by decide) (runs_move rfl) (fun a1 hS => ?_)
      refine seq_is hS (by decide) (runs_extract rfl rfl) (fun a1 hS => ?_)
      refine seq_is hS (by decide) (runs_extract rfl rfl) (fun a1 hS => ?_)
      refine seq_is hS (by decide) (runs_assign rfl) (fun a1 hS => ?_)
      refine seq_is hS (by decide) (runs_assign rfl) (fun a1 hS => ?_)
      refine nil_ok (qx_seq (reg_seq ?_))
      refine seq_is hS (by decide) (runs_move rfl) (fun a1 hS => ?_)
      refine seq_is hS (by decide) (runs_move rfl) (fun a1 hS => ?_)
      refine seq_is hS (by decide) (runs_eql (r := true) rfl rfl (by rw [hcheck]; simp)) (fun a1 hS => ?_)
      refine seq_is hS (by decide) (runs_move rfl) (fun a1 hS => ?_)
      refine seq_yis hS (by decide) rfl (by decide) rfl (runs_loadG rfl hN1) (fun a1 hS => ?_)
      refine seq_yis hS (by decide) rfl (by decide) rfl (runs_loadG rfl hN2) (fun a1 hS => ?_)
      refine seq_yes hS (by decide) rfl (by decide) rfl (runs_call (args := [gv k1 (.slice A8 l1.length c8), gv k2 (.slice A10 l2.length c10)]) goes15 rfl (same_any k1 k2 l1 l2 _ _ w15 hl1 hl2)) (fun v16 w16 a16 hp16 hS => ?_)
      obtain ⟨rfl, hB16⟩ := hp16
      rw [decide_eq_true ⟨hk12.symm, hl12.symm⟩] at hS
      have hB := hB.trans (hB16.mono (by have := hB.size; omega))
      refine seq_is hS (by decide) (runs_pick rfl rfl) (fun a1 hS => ?_)
      refine seq_is hS (by decide) (runs_move rfl) (fun a1 hS => ?_)
      refine seq_yis hS (by decide) rfl (by decide) rfl (runs_move rfl) (fun a1 hS => ?_)
      refine seq_yis hS (by decide) rfl (by decide) rfl (runs_move rfl) (fun a1 hS => ?_)
      refine seq_yis hS (by decide) rfl (by decide) rfl (runs_eqStr (r := true) rfl rfl (by rw [hshow]; simp)) (fun a1 hS => ?_)
      refine seq_is hS (by decide) (runs_pick rfl rfl) (fun a1 hS => ?_)
      refine seq_is hS (by decide) (runs_move rfl) (fun a1 hS => ?_)
      refine seq_yis hS (by decide) rfl (by decide) rfl (runs_move rfl) (fun a1 hS => ?_)
      refine seq_yis hS (by decide) rfl (by decide) rfl (runs_move rfl) (fun a1 hS => ?_)
      refine seq_yis hS (by decide) rfl (by decide) rfl (runs_eql (r := true) rfl rfl (by rw [hcheck]; simp)) (fun a1 hS => ?_)
      refine seq_is hS (by decide) (runs_pick rfl rfl) (fun a1 hS => ?_)
      refine seq_is hS (by decide) (runs_assign rfl) (fun a1 hS => ?_)
      exact nil_ok (qx_ret (ret1 (t := 4) (by kernel_rfl) hS rfl ⟨_, rfl, rfl, hB⟩))
end Go.Proofs.YtdbibjcplakelaaDoor
