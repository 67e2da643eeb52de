/- Layer 8: the comparing of messages. Conditions: none of our own. -/
import Derived.Test.YtooeahpkhocaeaaGreatDoorJ21
import Derived.Sort.Grow
namespace Go.Proofs.YtooeahpkhocaeaaGreatDoor
open Go.RowKit
set_option maxRecDepth 100000

set_option maxHeartbeats 1000000 in
theorem or_any (x y z : Int) (g : Nat) (w : World) (hG : Has w g 3 [.int .i64 x, .int .i64 y, .int .i64 z]) : Ans 76 [.slice (some ⟨g, 0, none⟩) 3 3] w (fun v w' => v = .int .i64 (if x = 0 then (if y = 0 then z else y) else x) ∧ w' = w) := by
  refine calls_qx (args := [.slice (some ⟨g, 0, none⟩) 3 3]) 18 Tryz.func76 rfl (by kernel_rfl) (by simp) (fun a hS => ?_)
  refine qx_seq (reg_seq ?_)
  refine seq_is hS (by decide) (runs_assign rfl) (fun a1 hS => ?_)
  refine nil_ok (qx_seq (reg_seq ?_))
  refine seq_is hS (by decide) (runs_assign rfl) (fun a1 hS => ?_)
  refine nil_ok (qx_seq (qx_seq (reg_seq ?_)))
  refine seq_is hS (by decide) (runs_move rfl) (fun a1 hS => ?_)
  refine seq_is hS (by decide) (runs_len rfl und60k) (fun a1 hS => ?_)
  refine seq_is hS (by decide) (runs_move rfl) (fun a1 hS => ?_)
  refine nil_ok (qx_range (fun m a w' => ∃ i : Nat, i ≤ 3 ∧ m = 3 - i ∧ w' = w ∧ (0 < i → x = 0) ∧ (1 < i → y = 0) ∧ (2 < i → z = 0) ∧ Sees 18 [(8, .int .i64 (i : Int)), (7, .int .i64 3), (6, .slice (some ⟨g, 0, none⟩) 3 3), (3, .int .i64 0)] a) 3 ⟨0, by omega, by omega, rfl, by omega, by omega, by omega, hS.only _ ⟨rfl, rfl, rfl, rfl, trivial⟩⟩ ?_)
  rintro m a w' ⟨i, hi, rfl, rfl, hx, hy, hz, hS⟩
  refine reg_seq ?_
  by_cases hlt : i < 3
  · skip
    obtain ⟨u, hu, huu⟩ : ∃ u : Int, w'.cell? ⟨g, 0 + i, none⟩ = some (.int .i64 u) ∧ ((i = 0 ∧ u = x) ∨ (i = 1 ∧ u = y) ∨ (i = 2 ∧ u = z)) := by
      match i, hlt with
      | 0, _ => exact ⟨x, by rw [hG.cell]; rfl, .inl ⟨rfl, rfl⟩⟩
      | 1, _ => exact ⟨y, by rw [hG.cell]; rfl, .inr (.inl ⟨rfl, rfl⟩)⟩
      | 2, _ => exact ⟨z, by rw [hG.cell]; rfl, .inr (.inr ⟨rfl, rfl⟩)⟩
    refine seq_is hS (by decide) (runs_lss (r := true) rfl rfl (by rw [decide_eq_true_eq]; omega)) (fun a1 hS => ?_)
    refine nil_ok ⟨_, hS.eval rfl, fun h => by simp at h, fun _ => ?_⟩
    refine qx_seq (qx_block (qx_seq (reg_seq ?_)))
    refine seq_is hS (by decide) (runs_indexAddr (j := i) rfl rfl und60k siz3 rfl hlt) (fun a1 hS => ?_)
    refine seq_is hS (by decide) (runs_load rfl und_plain3 hu) (fun a1 hS => ?_)
    refine seq_is hS (by decide) (runs_assign rfl) (fun a1 hS => ?_)
    refine nil_ok (qx_seq (reg_seq ?_))
    refine seq_is hS (by decide) (runs_move rfl) (fun a1 hS => ?_)
    refine seq_is hS (by decide) (runs_move rfl) (fun a1 hS => ?_)
    by_cases h0 : u = 0
    · skip
      refine seq_is hS (by decide) (runs_neq (r := false) rfl rfl (by simp [h0])) (fun a1 hS => ?_)
      refine nil_ok (wp_cond_false (hS.eval rfl) (wp_skip (reg_seq ?_)))
      refine seq_is hS (by decide) (runs_add (r := ((i + 1 : Nat) : Int)) rfl rfl (by simp [IntKind.wrap, IntKind.bits, IntKind.signed]; omega)) (fun a1 hS => ?_)
      refine seq_is hS (by decide) (runs_move rfl) (fun a1 hS => ?_)
      exact nil_ok ⟨_, by omega, i + 1, by omega, rfl, rfl, by omega, by omega, by omega, hS.only _ ⟨rfl, rfl, rfl, rfl, trivial⟩⟩
    · skip
      refine seq_is hS (by decide) (runs_neq (r := true) rfl rfl (by simp [h0])) (fun a1 hS => ?_)
      refine nil_ok (wp_cond_true (hS.eval rfl) (qx_seq (reg_seq ?_)))
      refine seq_is hS (by decide) (runs_move rfl) (fun a1 hS => ?_)
      refine seq_is hS (by decide) (runs_assign rfl) (fun a1 hS => ?_)
      refine nil_ok (qx_ret (ret1 (t := 2) (by kernel_rfl) hS rfl ⟨_, rfl, ?_, rfl⟩))
      rcases huu with ⟨rfl, rfl⟩ | ⟨rfl, rfl⟩ | ⟨rfl, rfl⟩
      · rw [if_neg h0]
      · rw [if_pos (hx (by omega)), if_neg h0]
      · rw [if_pos (hx (by omega)), if_pos (hy (by omega))]
  · skip
    refine seq_is hS (by decide) (runs_lss (r := false) rfl rfl (by rw [decide_eq_false_iff_not]; omega)) (fun a1 hS => ?_)
    refine nil_ok ⟨_, hS.eval rfl, fun _ => ?_, fun h => by simp at h⟩
    refine qx_seq (reg_seq ?_)
    refine seq_is hS (by decide) (runs_move rfl) (fun a1 hS => ?_)
    refine seq_is hS (by decide) (runs_assign rfl) (fun a1 hS => ?_)
    exact nil_ok (qx_ret (ret1 (t := 2) (by kernel_rfl) hS rfl ⟨_, rfl, by rw [if_pos (hx (by omega)), if_pos (hy (by omega)), hz (by omega)], rfl⟩))
/-- The world has drawn, and has blocks behind. -/
def Grown (W w : World) : Prop := ∃ q os, w = Sort.grow (W.drewN q) os
theorem Grown.refl (W : World) : Grown W W := ⟨0, #[], by rw [Sort.grow_empty]; rfl⟩
theorem Grown.drew {W w : World} (h : Grown W w) : Grown W w.drew := by
  obtain ⟨q, os, rfl⟩ := h
  exact ⟨q + 1, os, rfl⟩
theorem Grown.alloc {W w : World} (h : Grown W w) (o : Obj) : Grown W (w.alloc o) := by
  obtain ⟨q, os, rfl⟩ := h
  exact ⟨q, os ++ #[o], by rw [Sort.alloc_eq_grow, Sort.grow_grow]⟩
theorem Grown.below {W w : World} (h : Grown W w) : Below W.heap.size W w := by
  obtain ⟨q, os, rfl⟩ := h
  refine ⟨rfl, rfl, rfl, by simp [Sort.grow], fun i hi => ?_⟩
  simp only [Sort.grow, World.heap_drewN]
  rw [Array.getElem?_append_left hi]
def cfM (a b : E) : Int := if cmpI a.2.1 b.2.1 = 0 then (if cmpI a.1 b.1 = 0 then cmpI a.2.2 b.2.2 else cmpI a.1 b.1) else cmpI a.2.1 b.2.1
set_option maxHeartbeats 1000000 in
theorem cmp_any (x y : E) (W : World) : Ans 75 [.agg (encE x).toArray, .agg (encE y).toArray] W (fun v w' => v = .int .i64 (cfM x y) ∧ Grown W w') := by
  obtain ⟨i3, hi3, hz3, hs3, hb3⟩ := info_parts inf3
  refine calls_qx (args := [.agg (encE x).toArray, .agg (encE y).toArray]) 22 Tryz.func75 rfl (by kernel_rfl) (by simp) (fun a hS => ?_)
  refine qx_seq (reg_seq ?_)
  refine seq_op hS (by decide) (runs_box rfl) (fun v1 w1 a1 hp1 hS => ?_)
  obtain ⟨rfl, hw1⟩ := hp1
  have hg1 : Grown W w1 := by rw [hw1]; exact (Grown.refl W).alloc _
  obtain ⟨hX, hB1⟩ : Has w1 W.heap.size 81 (encE x) ∧ Below W.heap.size W w1 := by rw [hw1]; exact new_box W 81 (encE x)
  clear hw1
  refine seq_op hS (by decide) (runs_box rfl) (fun v2 w2 a2 hp2 hS => ?_)
  obtain ⟨rfl, hw2⟩ := hp2
  have hg2 : Grown W w2 := by rw [hw2]; exact hg1.alloc _
  obtain ⟨hY, hB2⟩ : Has w2 w1.heap.size 81 (encE y) ∧ Below w1.heap.size w1 w2 := by rw [hw2]; exact new_box w1 81 (encE y)
  clear hw2
  have hX := hX.below hB2 hX.lt
  generalize W.heap.size = gx at *
  generalize w1.heap.size = gy at *
  refine seq_is hS (by decide) (runs_assign rfl) (fun a1 hS => ?_)
  refine nil_ok ?_
  refine qx_seq (reg_guard (fun w3 => Grown W w3 ∧ Below w2.heap.size w2 w3) [.inl (.pointer (some ⟨gx, 0 + 1, none⟩)), .inl (.int .i64 x.2.1), .inl (.pointer (some ⟨gy, 0 + 1, none⟩)), .inl (.int .i64 y.2.1), .inl (.int .i64 (cmpI x.2.1 y.2.1)), .inl (.pointer (some ⟨gx, 0 + 0, none⟩)), .inl (.int .i64 x.1), .inl (.pointer (some ⟨gy, 0 + 0, none⟩)), .inl (.int .i64 y.1), .inl (.int .i64 (cmpI x.1 y.1)), .inl (.pointer (some ⟨gx, 0 + 2, none⟩)), .inl (.int .i64 x.2.2), .inl (.pointer (some ⟨gy, 0 + 2, none⟩)), .inl (.int .i64 y.2.2), .inl (.int .i64 (cmpI x.2.2 y.2.2)), (.inr (fun v w' => ∃ g, v = .slice (some ⟨g, 0, none⟩) 3 3 ∧ Has w' g 3 [.int .i64 (cmpI x.2.1 y.2.1), .int .i64 (cmpI x.1 y.1), .int .i64 (cmpI x.2.2 y.2.2)])), .inl (.int .i64 (cfM x y)), .inl (.int .i64 (cfM x y))] 18 0 mixed rfl (by kernel_rfl) hS ⟨hg2, Below.refl _ _⟩ (fun _ h => ⟨h.1.drew, h.2.drew⟩) ?_)
  refine hs_is rfl (fun w' hw => runs_fieldK fo41_1 rfl) ?_
  refine hs_is rfl (fun w' hw => runs_load rfl pl3 ((hX.below hw.2 hX.lt).at rfl)) ?_
  refine hs_is rfl (fun w' hw => runs_fieldK fo41_1 rfl) ?_
  refine hs_is rfl (fun w' hw => runs_load rfl pl3 ((hY.below hw.2 hY.lt).at rfl)) ?_
  refine hs_is rfl (fun w' hw => runs_call (args := [.int .i64 x.2.1, .int .i64 y.2.1]) goes77 rfl (compare_any x.2.1 y.2.1 w')) ?_
  refine hs_is rfl (fun w' hw => runs_fieldK fo41_0 rfl) ?_
  refine hs_is rfl (fun w' hw => runs_load rfl pl3 ((hX.below hw.2 hX.lt).at rfl)) ?_
  refine hs_is rfl (fun w' hw => runs_fieldK fo41_0 rfl) ?_
  refine hs_is rfl (fun w' hw => runs_load rfl pl3 ((hY.below hw.2 hY.lt).at rfl)) ?_
  refine hs_is rfl (fun w' hw => runs_call (args := [.int .i64 x.1, .int .i64 y.1]) goes77 rfl (compare_any x.1 y.1 w')) ?_
  refine hs_is rfl (fun w' hw => runs_fieldK fo41_2 rfl) ?_
  refine hs_is rfl (fun w' hw => runs_load rfl pl2 ((hX.below hw.2 hX.lt).at rfl)) ?_
  refine hs_is rfl (fun w' hw => runs_fieldK fo41_2 rfl) ?_
  refine hs_is rfl (fun w' hw => runs_load rfl pl2 ((hY.below hw.2 hY.lt).at rfl)) ?_
  refine hs_is rfl (fun w' hw => runs_call (args := [.int .i64 x.2.2, .int .i64 y.2.2]) goes78 rfl (compare64_any x.2.2 y.2.2 w')) ?_
  refine hs_pr rfl (fun _ _ _ h hb => by obtain ⟨g, h1, h2⟩ := h; exact ⟨g, h1, h2.below hb h2.lt⟩) (fun w' hw hq => (runs_buildSliceG (sz := 1) (pv := [(0, .int .i64 (cmpI x.2.1 y.2.1)), (1, .int .i64 (cmpI x.1 y.1)), (2, .int .i64 (cmpI x.2.2 y.2.2))]) rfl und60k hi3 hz3 hs3 (by omega) (by omega) (cells := #[.int .i64 (cmpI x.2.1 y.2.1), .int .i64 (cmpI x.1 y.1), .int .i64 (cmpI x.2.2 y.2.2)]) (by kernel_rfl)).mono (by rintro v w3 ⟨rfl, rfl⟩; exact ⟨⟨_, rfl, Has.new w' 3 [.int .i64 (cmpI x.2.1 y.2.1), .int .i64 (cmpI x.1 y.1), .int .i64 (cmpI x.2.2 y.2.2)]⟩, ⟨hw.1.alloc _, hw.2.alloc hw.2.size _⟩, (Below.refl _ _).alloc (Nat.le_refl _) _⟩)) (fun v10 => ?_)
  refine hs_val rfl (fun w' hw hq => (by obtain ⟨g, rfl, hg⟩ := hq (15, _) List.mem_cons_self (by kernel_rfl); exact (runs_call (args := [.slice (some ⟨g, 0, none⟩) 3 3]) goes76 rfl (or_any _ _ _ g w' hg)).mono (by rintro v w3 ⟨rfl, rfl⟩; exact ⟨rfl, hw, Below.refl _ _⟩))) ?_
  refine hs_is rfl (fun w' hw => runs_assign rfl) ?_
  refine (fun a5 w5 hS5 hC5 _ => ?_)
  refine wpAnyH_done (by kernel_rfl) ?_ _
  exact qx_ret (ret1 (t := 4) (by kernel_rfl) hS5 rfl ⟨_, rfl, rfl, hC5.1⟩)
end Go.Proofs.YtooeahpkhocaeaaGreatDoor
/- Layer 8: messages picked, as a list of their own; looked through; compared; copied. Conditions: none of our own. -/
namespace Go.Proofs.YtooeahpkhocaeaaGreatDoor
open Go.RowKit
set_option maxRecDepth 100000

theorem edges_row {w : World} {A : Option Addr} {c : Nat} {l : List E} (h : Edges w (.slice A l.length c) l) (h0 : 0 < l.length) : ∃ b o, A = some ⟨b, o, none⟩ ∧ b < w.heap.size ∧ w.rangeAt b o (cellsE l) := by
  obtain ⟨A', c', hv, _, _, h3⟩ := h
  simp only [Value.slice.injEq, true_and] at hv
  obtain ⟨rfl, rfl⟩ := hv
  exact h3 h0
theorem filter_snoc {α : Type} {l : List α} {i : Nat} {e : α} (p : α → Bool) (h : l[i]? = some e) : (l.take (i + 1)).filter p = (l.take i).filter p ++ (if p e = true then [e] else []) := by
  rw [List.take_add_one, h, Option.toList_some, List.filter_append]
  by_cases hp : p e = true
  · rw [if_pos hp, List.filter_cons_of_pos hp]; rfl
  · rw [if_neg hp, List.filter_cons_of_neg hp]; rfl
theorem filter_take_le {α : Type} (p : α → Bool) (l : List α) (i : Nat) : ((l.take i).filter p).length ≤ i := Nat.le_trans (List.length_filter_le _ _) (by simp; omega)
set_option maxHeartbeats 1000000 in
theorem picked_any (es : List E) (hsm : es.length ≤ 10000) (v : Value) (kf : FuncId) (hkf : Goes Tryz.prog kf) (cf : List Value) (p : E → Bool) (w : World) (hE : Edges w v es) (hp : ∀ e w1, Below w.heap.size w w1 → Ans kf ([.agg (encE e).toArray] ++ cf) w1 (fun u w2 => u = .bool (p e) ∧ Below w1.heap.size w1 w2)) : Ans 60 [v, .func (.func kf) #[] cf.toArray] w (fun u w' => Below w.heap.size w w' ∧ w'.ownsRow w.heap.size 81 3 u (es.filter p).length (cellsE (es.filter p))) := by
  obtain ⟨A, c, rfl, h1, h2, hA⟩ := hE
  have hE : Edges w (.slice A es.length c) es := ⟨A, c, rfl, h1, h2, hA⟩
  refine calls_qx (args := [.slice A es.length c, .func (.func kf) #[] cf.toArray]) 23 Tryz.func60 rfl (by kernel_rfl) (by simp) (fun a hS => ?_)
  have hB := Below.refl w.heap.size w
  have hEb := hE
  refine qx_seq (reg_seq ?_)
  refine sI hS (runs_assign rfl) fun _ hS => ?_
  refine nil_ok (qx_seq (reg_seq ?_))
  refine sI hS (runs_assign rfl) fun _ hS => ?_
  refine nil_ok (qx_seq (qx_seq (reg_seq ?_)))
  refine sI hS (runs_move rfl) fun _ hS => ?_
  refine sI hS (runs_len rfl und32) fun _ hS => ?_
  refine sI hS (runs_move rfl) fun _ hS => ?_
  refine nil_ok (?_)
  refine qx_range (fun mm a w' => ∃ (i : Nat) (sv : Value), i ≤ es.length ∧ mm = es.length - i ∧ Below w.heap.size w w' ∧ w'.ownsRow w.heap.size 81 3 sv ((es.take i).filter p).length (cellsE ((es.take i).filter p)) ∧ Sees 23 [(10, .int .i64 (i : Int)), (9, .int .i64 ((es.length : Nat) : Int)), (8, .slice A es.length c), (5, sv), (1, .func (.func kf) #[] cf.toArray)] a) es.length ⟨0, .slice none 0 0, by omega, by omega, hB, ⟨rfl, .inl ⟨rfl, rfl⟩⟩, hS.only _ ⟨rfl, rfl, rfl, rfl, rfl, trivial⟩⟩ ?_
  clear hS 
  rintro mm a wl1 ⟨i, sv, hi1, rfl, hBb1, hown, hS⟩
  have hBsz1 := hBb1.size
  have hE := hEb.kept hBb1
  have hB := Below.refl wl1.heap.size wl1
  refine reg_seq ?_
  by_cases hlt1 : i < es.length
  · skip
    refine sI hS (lssT rfl rfl (by omega)) fun _ hS => ?_
    refine nil_ok ⟨_, hS.eval rfl, fun h => by simp at h, fun _ => ?_⟩
    obtain ⟨e, hei⟩ : ∃ e, es[i]? = some e := ⟨es[i], by simp [hlt1]⟩
    obtain ⟨b, o, rfl, hbw, hr⟩ := edges_row hE (by omega)
    have hre := edges_at hr hei
    have hfl := filter_take_le p es i
    have hownb := hown
    refine qx_seq (qx_block (qx_seq (reg_seq ?_)))
    refine sI hS (runs_indexAddrG (j := i) rfl rfl und32 sz41 rfl hlt1) fun _ hS => ?_
    refine sI hS (runs_loadM rfl hre) fun _ hS => ?_
    refine seq_op hS (by decide) (runs_allocB (cs := [.int .i64 0, .int .i64 0, .int .i64 0]) zo41 rfl) (fun v1 w1 a1 hp hS => ?_)
    obtain ⟨rfl, hM1, hB1⟩ := hp
    have hLhM1 : wl1.heap.size ≤ wl1.heap.size := hB.size
    have hB := hB.trans (hB1.mono hB.size)
    have hown := owns_kept hown hB1
    refine seq_none hS (runs_storeB (cs := encE e) rfl rfl hM1 rfl rfl sz41) (fun v3 w3 a1 hp hS => ?_)
    obtain ⟨hM1, hU3⟩ := hp
    have hB := But.new hB hU3 (fun i e => by rw [e]; exact hLhM1) (Nat.le_refl _)
    have hown := owns_kept hownb hB
    refine nil_ok (qx_seq (reg_seq ?_))
    refine sI hS (runs_move rfl) fun _ hS => ?_
    refine sI hS (runs_loadRow rfl hM1 Tryz.underlying81 rfl (by rw [sz41]; rfl)) fun _ hS => ?_
    refine seq_op hS (by decide) (runs_callv (args := [.agg (encE e).toArray]) (caps := cf) hkf rfl rfl (hp e w3 (hBb1.trans (hB.mono hBb1.size)))) (fun v5 w5 a1 hp hS => ?_)
    obtain ⟨rfl, hB5⟩ := hp
    have hB := hB.trans (hB5.mono hB.size)
    have hM1 := hM1.below hB5 hM1.lt
    have hown := owns_kept hown hB5
    refine nil_ok (?_)
    by_cases hpe : p e = true
    · skip
      rw [hpe] at hS
      refine wp_cond_true (hS.eval rfl) (reg_seq ?_)
      refine sI hS (runs_move rfl) fun _ hS => ?_
      refine sI hS (runs_loadRow rfl hM1 Tryz.underlying81 rfl (by rw [sz41]; rfl)) fun _ hS => ?_
      refine seq_op hS (by decide) (runs_oneM (e := e) rfl) (fun v7 w7 a1 hp hS => ?_)
      obtain ⟨g2, rfl, hX, hB7⟩ := hp
      have hB := hB.trans (hB7.mono hB.size)
      have hown := owns_kept hown hB7
      refine seq_op hS (by decide) (push_ownM (B := w.heap.size) (acc := ((es.take i).filter p)) (e := e) rfl hown rfl hX (by omega) (Nat.le_trans hBsz1 hB.size)) (fun v9 w9 a1 hp hS => ?_)
      obtain ⟨_, hown3, _, hB9⟩ := hp
      refine sI hS (runs_assign rfl) fun _ hS => ?_
      refine nil_ok (reg_seq ?_)
      refine sI hS (runs_add (r := ((i + 1 : Nat) : Int)) rfl rfl (by simp [IntKind.wrap, IntKind.bits, IntKind.signed]; omega)) fun _ hS => ?_
      refine sI hS (runs_move rfl) fun _ hS => ?_
      exact nil_ok ⟨_, by omega, i + 1, v9, by omega, rfl, hBb1.trans ((hB.mono hBb1.size).trans hB9), by rw [filter_snoc p hei, if_pos hpe, List.length_append]; exact hown3, hS.only _ ⟨rfl, rfl, rfl, rfl, rfl, trivial⟩⟩
    · skip
      rw [Bool.eq_false_iff.2 hpe] at hS
      refine wp_cond_false (hS.eval rfl) (wp_skip (reg_seq ?_))
      refine sI hS (runs_add (r := ((i + 1 : Nat) : Int)) rfl rfl (by simp [IntKind.wrap, IntKind.bits, IntKind.signed]; omega)) fun _ hS => ?_
      refine sI hS (runs_move rfl) fun _ hS => ?_
      exact nil_ok ⟨_, by omega, i + 1, sv, by omega, rfl, hBb1.trans (hB.mono hBb1.size), by rw [filter_snoc p hei, if_neg hpe, List.append_nil]; exact hown, hS.only _ ⟨rfl, rfl, rfl, rfl, rfl, trivial⟩⟩
  refine sI hS (lssF rfl rfl (by omega)) fun _ hS => ?_
  obtain rfl : i = es.length := by omega
  refine nil_ok ⟨_, hS.eval rfl, fun _ => ?_, fun h => by simp at h⟩
  have hB := hBb1
  rw [List.take_length] at hown
  refine qx_seq (reg_seq ?_)
  refine sI hS (runs_move rfl) fun _ hS => ?_
  refine sI hS (runs_assign rfl) fun _ hS => ?_
  exact nil_ok (qx_ret (ret1 (t := 4) (by kernel_rfl) hS rfl ⟨_, rfl, hB, hown⟩))
end Go.Proofs.YtooeahpkhocaeaaGreatDoor
