/- GraphChecks, walked. Conditions: none of our own. -/
import Derived.Test.YtdbibjcplakelaaDoorRCheck
import Derived.Test.YtdbibjcplakelaaDoorROut
namespace Go.Proofs.YtdbibjcplakelaaDoor
open Go.RowKit
set_option maxRecDepth 100000

set_option maxHeartbeats 1000000 in
theorem checks_walk (n q : Int) (es : List E) (v : Value) (w : World) (hE : Edges w v es) (hk : Kept w) : Ans 3 [gv n v, .int .i64 q] w (fun u w' => u = .bool true ∧ Below w.heap.size w w') := by
  have hE0 := hE
  obtain ⟨A, c, rfl, hc1, hc2, hA⟩ := id hE
  unfold maxLen at hc2
  refine calls_qx (args := [gv n (.slice A es.length c), .int .i64 q]) 80 Tryd.func3 rfl (by kernel_rfl) (by simp) (fun a hS => ?_)
  refine qx_seq (reg_seq ?_)
  refine seq_op hS (by decide) (runs_box rfl) (fun v1 w1 a1 hp1 hS => ?_)
  obtain ⟨rfl, hw1⟩ := hp1
  obtain ⟨hG, hB1⟩ : Has w1 w.heap.size 24 [.int .i64 n, .slice A es.length c] ∧ Below w.heap.size w w1 := by rw [hw1]; exact new_box w 24 [.int .i64 n, .slice A es.length c]
  clear hw1
  have hE := hE0.kept hB1
  have hk1 := hk.on hB1
  generalize hgg : w.heap.size = g at *
  refine seq_is hS (by decide) (runs_assign rfl) (fun a1 hS => ?_)
  refine nil_ok (qx_seq (qx_seq (reg_seq ?_)))
  refine seq_op hS (by decide) (runs_call (args := []) goes10 rfl (awake_any w1 hk1)) (fun v2 w2 a2 hp2 hS => ?_)
  obtain ⟨rfl, hB2⟩ := hp2
  have hG := hG.below hB2 hG.lt
  have hE := hE.kept hB2
  have hk2 := hk1.on hB2
  have hB : Below g w w2 := hB1.trans (hB2.mono (by have := hB1.size; omega))
  refine seq_is hS (by decide) (runs_not (b := true) rfl) (fun a1 hS => ?_)
  refine seq_is hS (by decide) (runs_move rfl) (fun a1 hS => ?_)
  refine seq_yis hS (by decide) rfl (by decide) rfl (runs_f24 (by decide) rfl) (fun a1 hS => ?_)
  refine seq_yis hS (by decide) rfl (by decide) rfl (runs_loadV rfl hG) (fun a1 hS => ?_)
  refine seq_yis hS (by decide) rfl (by decide) rfl (runs_len rfl und22) (fun a1 hS => ?_)
  by_cases h6 : ((es.length : Nat) : Int) > 600
  · skip
    refine seq_yis hS (by decide) rfl (by decide) rfl (runs_gtr (r := true) rfl rfl (by rw [decide_eq_true_eq]; omega)) (fun a1 hS => ?_)
    refine seq_is hS (by decide) (runs_pick rfl rfl) (fun a1 hS => ?_)
    refine nil_ok (wp_cond_true (hS.eval rfl) (qx_seq (reg_seq ?_)))
    refine seq_op hS (by decide) (runs_call (args := []) goes10 rfl (awake_any w2 hk2)) (fun v9 w9 a9 hp9 hS => ?_)
    obtain ⟨rfl, hB9⟩ := hp9
    refine seq_is hS (by decide) (runs_assign rfl) (fun a1 hS => ?_)
    exact nil_ok (qx_ret (ret1 (t := 4) (by kernel_rfl) hS rfl ⟨_, rfl, rfl, hB.trans (hB9.mono (by have := hB.size; omega))⟩))
  · skip
    refine seq_yis hS (by decide) rfl (by decide) rfl (runs_gtr (r := false) rfl rfl (by rw [decide_eq_false_iff_not]; omega)) (fun a1 hS => ?_)
    refine seq_is hS (by decide) (runs_pick rfl rfl) (fun a1 hS => ?_)
    refine nil_ok (wp_cond_false (hS.eval rfl) (wp_skip (qx_seq (reg_seq ?_))))
    refine seq_is hS (by decide) (runs_loadG rfl hG) (fun a1 hS => ?_)
    refine seq_op hS (by decide) (runs_call (args := [gv n (.slice A es.length c)]) goes11 rfl (rcheck_any n es _ w2 hE)) (fun v3 w3 a3 hp3 hS => ?_)
    obtain ⟨rfl, hB3⟩ := hp3
    have hG := hG.below hB3 hG.lt
    have hE := hE.kept hB3
    have hB := hB.trans (hB3.mono (by have := hB.size; omega))
    refine seq_is hS (by decide) (runs_assign rfl) (fun a1 hS => ?_)
    refine nil_ok (qx_seq (reg_seq ?_))
    refine seq_is hS (by decide) (runs_loadG rfl hG) (fun a1 hS => ?_)
    refine seq_op hS (by decide) (runs_call (args := [gv n (.slice A es.length c)]) goes13 rfl (own_any n es (by omega) _ w3 hE)) (fun v4 w4 a4 hp4 hS => ?_)
    obtain ⟨hB4, x4, rfl, hE4⟩ := hp4
    have hE4 := hE4.edges
    have hG := hG.below hB4 hG.lt
    have hE := hE.kept hB4
    have hB := hB.trans (hB4.mono (by have := hB.size; omega))
    refine seq_op hS (by decide) (runs_call (args := [gv n x4]) goes12 rfl (norm_any n es x4 w4 hE4)) (fun v5 w5 a5 hp5 hS => ?_)
    obtain ⟨hB5, k, x5, l, rfl, hE5, hyes, hno⟩ := hp5
    obtain ⟨A5, c5, rfl, _, _, _⟩ := id hE5
    have hE5 := hE5.edges
    have hG := hG.below hB5 hG.lt
    have hE := hE.kept hB5
    have hB := hB.trans (hB5.mono (by have := hB.size; omega))
    refine seq_is hS (by decide) (runs_move rfl) (fun a1 hS => ?_)
    refine seq_is hS (by decide) (runs_extract rfl rfl) (fun a1 hS => ?_)
    refine seq_is hS (by decide) (runs_extract rfl rfl) (fun a1 hS => ?_)
    refine seq_op hS (by decide) (runs_alloc24) (fun v6 wa6 a1 hp1 hS => ?_)
    obtain ⟨rfl, hwa6⟩ := hp1
    refine seq_none hS (runs_store24 rfl rfl (by rw [hwa6]; exact Has.new w5 24 [.int .i64 0, .slice none 0 0]) rfl) (fun v6 w6 a1 hp1 hS => ?_)
    obtain ⟨rfl, hwb6⟩ := hp1
    obtain ⟨hM, hB6⟩ : Has w6 w5.heap.size 24 [.int .i64 k, .slice A5 l.length c5] ∧ Below w5.heap.size w5 w6 := by rw [hwb6, hwa6]; exact new_row w5 24 [.int .i64 0, .slice none 0 0] [.int .i64 k, .slice A5 l.length c5]
    clear hwb6 hwa6
    have hG := hG.below hB6 hG.lt
    have hE := hE.kept hB6
    have hB := hB.trans (hB6.mono (by have := hB.size; omega))
    have hE5 := hE5.kept hB6
    generalize w5.heap.size = g6 at *
    refine seq_is hS (by decide) (runs_assign rfl) (fun a1 hS => ?_)
    refine nil_ok (qx_seq (qx_seq (reg_seq ?_)))
    refine seq_is hS (by decide) (runs_loadG rfl hG) (fun a1 hS => ?_)
    refine seq_op hS (by decide) (runs_call (args := [gv n (.slice A es.length c)]) goes13 rfl (own_any n es (by omega) _ w6 hE)) (fun v7 w7 a7 hp7 hS => ?_)
    obtain ⟨hB7, x7, rfl, hE7⟩ := hp7
    have hE7 := hE7.edges
    have hG := hG.below hB7 hG.lt
    have hE := hE.kept hB7
    have hB := hB.trans (hB7.mono (by have := hB.size; omega))
    have hM := hM.below hB7 hM.lt
    have hE5 := hE5.kept hB7
    refine seq_op hS (by decide) (runs_call (args := [gv n x7]) goes14 rfl (check_any n es x7 w7 hE7)) (fun v8 w8 a8 hp8 hS => ?_)
    obtain ⟨rfl, hB8⟩ := hp8
    have hG := hG.below hB8 hG.lt
    have hE := hE.kept hB8
    have hB := hB.trans (hB8.mono (by have := hB.size; omega))
    have hM := hM.below hB8 hM.lt
    have hE5 := hE5.kept hB8
    refine seq_is hS (by decide) (runs_move rfl) (fun a1 hS => ?_)
    refine seq_is hS (by decide) (runs_neq (r := false) rfl rfl (by simp)) (fun a1 hS => ?_)
    refine seq_is hS (by decide) (runs_move rfl) (fun a1 hS => ?_)
    refine seq_yis hS (by decide) rfl (by decide) rfl (runs_move rfl) (fun a1 hS => ?_)
    refine seq_yis hS (by decide) rfl (by decide) rfl (runs_move rfl) (fun a1 hS => ?_)
    refine seq_yis hS (by decide) rfl (by decide) rfl (runs_neq (r := false) rfl rfl (by simp)) (fun a1 hS => ?_)
    refine seq_is hS (by decide) (runs_pick rfl rfl) (fun a1 hS => ?_)
    refine nil_ok (wp_cond_false (hS.eval rfl) (wp_skip (qx_seq (qx_seq (reg_seq ?_)))))
    refine seq_is hS (by decide) (runs_move rfl) (fun a1 hS => ?_)
    by_cases hc : checkZ n es = 0
    · skip
      refine seq_is hS (by decide) (runs_neq (r := false) rfl rfl (by simp [hc])) (fun a1 hS => ?_)
      refine nil_ok (wp_cond_false (hS.eval rfl) (wp_skip ?_))
      obtain ⟨rfl, hl⟩ := hyes hc
      have hO : ∀ (x : Int) (u : Value) (w0 : World), Edges w0 u es → Ans 16 [gv k u, .int .i64 x] w0 (fun u' w' => Below w0.heap.size w0 w' ∧ EdgesB w0.heap.size w' u' (l.filter (fun e => e.1 == x))) := fun x u w0 h0 => by
        have := out_any k x es u w0 h0
        rw [if_pos hc, ← hl] at this
        exact this
      have hI : ∀ (x : Int) (u : Value) (w0 : World), Edges w0 u es → Ans 17 [gv k u, .int .i64 x] w0 (fun u' w' => Below w0.heap.size w0 w' ∧ EdgesB w0.heap.size w' u' (l.filter (fun e => e.2.1 == x))) := fun x u w0 h0 => by
        have := in_any k x es u w0 h0
        rw [if_pos hc, ← hl] at this
        exact this
      have hN2 := fun (u : Value) (w0 : World) (h0 : Edges w0 u es) => rnorm_any k es u w0 h0 hc
      have hO2 := fun (u : Value) (w0 : World) (h0 : Edges w0 u es) => rout_any k q es u w0 h0 hc
      have hI2 := fun (u : Value) (w0 : World) (h0 : Edges w0 u es) => rin_any k q es u w0 h0 hc
      rw [← hl] at hN2 hO2 hI2
      clear hyes hno hl
      have hgl := hG.lt
      have hml := hM.lt
      have hB0 := hB.size
      refine qx_seq (reg_guard (fun w4 => Below w8.heap.size w8 w4) [.inl (gv k (.slice A5 l.length c5)), .inl (gv k (.slice A es.length c)), .inr (fun u w4 => ∃ x, u = gv k x ∧ Edges w4 x l), .inl (.bool true), .inl (.bool true), .inl (gv k (.slice A es.length c)), .inr (fun u w4 => ∃ x, u = gv k x ∧ Edges w4 x es), .inl (.int .i64 q), .inr (fun u w4 => Edges w4 u (l.filter (fun e => e.1 == q))), .inl (gv k (.slice A es.length c)), .inl (.int .i64 q), .inr (fun u w4 => Edges w4 u (l.filter (fun e => e.1 == q))), .inl (.bool true), .inl (.bool true), .inl (.bool true), .inl (gv k (.slice A es.length c)), .inr (fun u w4 => ∃ x, u = gv k x ∧ Edges w4 x es), .inl (.int .i64 q), .inr (fun u w4 => Edges w4 u (l.filter (fun e => e.2.1 == q))), .inl (gv k (.slice A es.length c)), .inl (.int .i64 q), .inr (fun u w4 => Edges w4 u (l.filter (fun e => e.2.1 == q))), .inl (.bool true), .inl (.bool true)] 24 1 mixed rfl (by kernel_rfl) hS (Below.refl _ _) (fun _ h => h.drew) ?_)
      refine hs_is rfl (fun w' hw => runs_loadG rfl (hM.below hw hml)) ?_
      refine hs_is rfl (fun w' hw => runs_loadG rfl (hG.below hw hgl)) ?_
      refine hs_pr rfl (fun _ _ _ h hb => by obtain ⟨x, h1, h2⟩ := h; exact ⟨x, h1, h2.kept hb⟩) (fun w' hw hq => (runs_call (args := [gv k (.slice A es.length c)]) goes18 rfl (hN2 _ w' (hE.kept hw))).mono (by rintro u w5 ⟨h1, x, rfl, h2⟩; exact ⟨⟨x, rfl, h2.edges⟩, hw.trans (h1.mono hw.size), h1⟩)) (fun u58 => ?_)
      refine hs_val rfl (fun w' hw hq => (by obtain ⟨x, rfl, hx⟩ := hq (2, _) List.mem_cons_self (by kernel_rfl); exact (runs_call (args := [gv k (.slice A5 l.length c5), gv k x]) goes15 rfl (same_any k k l l _ _ w' (hE5.kept hw) hx)).mono (by rintro u w5 ⟨rfl, h1⟩; exact ⟨by rw [decide_eq_true ⟨rfl, rfl⟩], hw.trans (h1.mono hw.size), h1⟩))) ?_
      refine hs_is rfl (fun w' hw => runs_move rfl) ?_
      refine hs_yis rfl rfl (fun w' hw => runs_loadG rfl (hG.below hw hgl)) ?_
      refine hs_ypr rfl rfl (fun _ _ _ h hb => by obtain ⟨x, h1, h2⟩ := h; exact ⟨x, h1, h2.kept hb⟩) (fun w' hw hq => (runs_call (args := [gv k (.slice A es.length c)]) goes13 rfl (own_any k es (by omega) _ w' (hE.kept hw))).mono (by rintro u w5 ⟨h1, x, rfl, h2⟩; exact ⟨⟨x, rfl, h2.edges⟩, hw.trans (h1.mono hw.size), h1⟩)) (fun u62 => ?_)
      refine hs_yis rfl rfl (fun w' hw => runs_move rfl) ?_
      refine hs_ypr rfl rfl (fun _ _ _ h hb => h.kept hb) (fun w' hw hq => (by obtain ⟨x, rfl, hx⟩ := hq (6, _) List.mem_cons_self (by kernel_rfl); exact (runs_call (args := [gv k x, .int .i64 q]) goes16 rfl (hO q x w' hx)).mono (by rintro u w5 ⟨h1, h2⟩; exact ⟨h2.edges, hw.trans (h1.mono hw.size), h1⟩))) (fun u64 => ?_)
      refine hs_yis rfl rfl (fun w' hw => runs_loadG rfl (hG.below hw hgl)) ?_
      refine hs_yis rfl rfl (fun w' hw => runs_move rfl) ?_
      refine hs_ypr rfl rfl (fun _ _ _ h hb => h.kept hb) (fun w' hw hq => (runs_call (args := [gv k (.slice A es.length c), .int .i64 q]) goes20 rfl (hO2 _ w' (hE.kept hw))).mono (by rintro u w5 ⟨h1, h2⟩; exact ⟨h2, hw.trans (h1.mono hw.size), h1⟩)) (fun u67 => ?_)
      refine hs_yval rfl rfl (fun w' hw hq => (by have e1 := hq (11, _) List.mem_cons_self (by kernel_rfl); have e2 := hq (8, _) (List.mem_cons_of_mem _ List.mem_cons_self) (by kernel_rfl); exact (runs_call (args := [u64, u67]) goes19 rfl (row_any _ _ _ _ w' e2 e1)).mono (by rintro u w5 ⟨rfl, h1⟩; exact ⟨by rw [decide_eq_true rfl], hw.trans (h1.mono hw.size), h1⟩))) ?_
      refine hs_is rfl (fun w' hw => runs_pick rfl rfl) ?_
      refine hs_is rfl (fun w' hw => runs_move rfl) ?_
      refine hs_yis rfl rfl (fun w' hw => runs_loadG rfl (hG.below hw hgl)) ?_
      refine hs_ypr rfl rfl (fun _ _ _ h hb => by obtain ⟨x, h1, h2⟩ := h; exact ⟨x, h1, h2.kept hb⟩) (fun w' hw hq => (runs_call (args := [gv k (.slice A es.length c)]) goes13 rfl (own_any k es (by omega) _ w' (hE.kept hw))).mono (by rintro u w5 ⟨h1, x, rfl, h2⟩; exact ⟨⟨x, rfl, h2.edges⟩, hw.trans (h1.mono hw.size), h1⟩)) (fun u72 => ?_)
      refine hs_yis rfl rfl (fun w' hw => runs_move rfl) ?_
      refine hs_ypr rfl rfl (fun _ _ _ h hb => h.kept hb) (fun w' hw hq => (by obtain ⟨x, rfl, hx⟩ := hq (16, _) List.mem_cons_self (by kernel_rfl); exact (runs_call (args := [gv k x, .int .i64 q]) goes17 rfl (hI q x w' hx)).mono (by rintro u w5 ⟨h1, h2⟩; exact ⟨h2.edges, hw.trans (h1.mono hw.size), h1⟩))) (fun u74 => ?_)
      refine hs_yis rfl rfl (fun w' hw => runs_loadG rfl (hG.below hw hgl)) ?_
      refine hs_yis rfl rfl (fun w' hw => runs_move rfl) ?_
      refine hs_ypr rfl rfl (fun _ _ _ h hb => h.kept hb) (fun w' hw hq => (runs_call (args := [gv k (.slice A es.length c), .int .i64 q]) goes21 rfl (hI2 _ w' (hE.kept hw))).mono (by rintro u w5 ⟨h1, h2⟩; exact ⟨h2, hw.trans (h1.mono hw.size), h1⟩)) (fun u77 => ?_)
      refine hs_yval rfl rfl (fun w' hw hq => (by have e1 := hq (21, _) List.mem_cons_self (by kernel_rfl); have e2 := hq (18, _) (List.mem_cons_of_mem _ List.mem_cons_self) (by kernel_rfl); exact (runs_call (args := [u74, u77]) goes19 rfl (row_any _ _ _ _ w' e2 e1)).mono (by rintro u w5 ⟨rfl, h1⟩; exact ⟨by rw [decide_eq_true rfl], hw.trans (h1.mono hw.size), h1⟩))) ?_
      refine hs_is rfl (fun w' hw => runs_pick rfl rfl) ?_
      refine (fun a9 w9 hS9 hB9 _ => ?_)
      refine tail_op 24 (by kernel_rfl) rfl hS9 (by decide) (runs_assign rfl) (fun v10 w10 a10 hp10 hS10 => ⟨trivial, ?_⟩)
      obtain ⟨rfl, rfl⟩ := hp10
      refine wpAnyH_done (by kernel_rfl) ?_ _
      exact qx_ret (ret1 (t := 4) (by kernel_rfl) hS10 rfl ⟨_, rfl, rfl, hB.trans (hB9.mono (by omega))⟩)
    · skip
      refine seq_is hS (by decide) (runs_neq (r := true) rfl rfl (by simp [hc])) (fun a1 hS => ?_)
      obtain ⟨rfl, rfl⟩ := hno hc
      refine nil_ok (wp_cond_true (hS.eval rfl) (qx_seq (reg_seq ?_)))
      refine seq_is hS (by decide) (runs_loadG rfl hM) (fun a1 hS => ?_)
      refine seq_is hS (by decide) (runs_build24n) (fun a1 hS => ?_)
      refine seq_op hS (by decide) (runs_call (args := [gv 0 (.slice A5 ([] : List E).length c5), gv 0 (.slice none 0 0)]) goes15 rfl (same_any 0 0 [] [] _ _ w8 hE5 (edges_nil w8))) (fun v9 w9 a9 hp9 hS => ?_)
      obtain ⟨rfl, hB9⟩ := hp9
      rw [decide_eq_true ⟨rfl, rfl⟩] at hS
      have hG := hG.below hB9 hG.lt
      have hE := hE.kept hB9
      have hB := hB.trans (hB9.mono (by have := hB.size; omega))
      refine seq_is hS (by decide) (runs_move rfl) (fun a1 hS => ?_)
      refine seq_yis hS (by decide) rfl (by decide) rfl (runs_loadG rfl hG) (fun a1 hS => ?_)
      refine seq_yes hS (by decide) rfl (by decide) rfl (runs_call (args := [gv n (.slice A es.length c)]) goes13 rfl (own_any n es (by omega) _ w9 hE)) (fun v10 w10 a10 hp10 hS => ?_)
      obtain ⟨hB10, x10, rfl, hE10⟩ := hp10
      have hE10 := hE10.edges
      have hG := hG.below hB10 hG.lt
      have hE := hE.kept hB10
      have hB := hB.trans (hB10.mono (by have := hB.size; omega))
      refine seq_yis hS (by decide) rfl (by decide) rfl (runs_move rfl) (fun a1 hS => ?_)
      refine seq_yes hS (by decide) rfl (by decide) rfl (runs_call (args := [gv n x10, .int .i64 q]) goes16 rfl (out_any n q es x10 w10 hE10)) (fun v11 w11 a11 hp11 hS => ?_)
      obtain ⟨hB11, hE11⟩ := hp11
      rw [if_neg hc] at hE11
      obtain ⟨B11, d11, rfl, _⟩ := hE11
      have hG := hG.below hB11 hG.lt
      have hE := hE.kept hB11
      have hB := hB.trans (hB11.mono (by have := hB.size; omega))
      refine seq_yis hS (by decide) rfl (by decide) rfl (runs_len (m := 0) rfl und22) (fun a1 hS => ?_)
      refine seq_yis hS (by decide) rfl (by decide) rfl (runs_eql (r := true) rfl rfl (by simp)) (fun a1 hS => ?_)
      refine seq_is hS (by decide) (runs_pick rfl rfl) (fun a1 hS => ?_)
      refine seq_is hS (by decide) (runs_move rfl) (fun a1 hS => ?_)
      refine seq_yis hS (by decide) rfl (by decide) rfl (runs_loadG rfl hG) (fun a1 hS => ?_)
      refine seq_yes hS (by decide) rfl (by decide) rfl (runs_call (args := [gv n (.slice A es.length c)]) goes13 rfl (own_any n es (by omega) _ w11 hE)) (fun v12 w12 a12 hp12 hS => ?_)
      obtain ⟨hB12, x12, rfl, hE12⟩ := hp12
      have hE12 := hE12.edges
      have hG := hG.below hB12 hG.lt
      have hE := hE.kept hB12
      have hB := hB.trans (hB12.mono (by have := hB.size; omega))
      refine seq_yis hS (by decide) rfl (by decide) rfl (runs_move rfl) (fun a1 hS => ?_)
      refine seq_yes hS (by decide) rfl (by decide) rfl (runs_call (args := [gv n x12, .int .i64 q]) goes17 rfl (in_any n q es x12 w12 hE12)) (fun v13 w13 a13 hp13 hS => ?_)
      obtain ⟨hB13, hE13⟩ := hp13
      rw [if_neg hc] at hE13
      obtain ⟨B13, d13, rfl, _⟩ := hE13
      have hG := hG.below hB13 hG.lt
      have hE := hE.kept hB13
      have hB := hB.trans (hB13.mono (by have := hB.size; omega))
      refine seq_yis hS (by decide) rfl (by decide) rfl (runs_len (m := 0) rfl und22) (fun a1 hS => ?_)
      refine seq_yis hS (by decide) rfl (by decide) rfl (runs_eql (r := true) rfl rfl (by simp)) (fun a1 hS => ?_)
      refine seq_is hS (by decide) (runs_pick rfl rfl) (fun a1 hS => ?_)
      refine seq_is hS (by decide) (runs_assign rfl) (fun a1 hS => ?_)
      exact nil_ok (qx_ret (ret1 (t := 4) (by kernel_rfl) hS rfl ⟨_, rfl, rfl, hB⟩))
end Go.Proofs.YtdbibjcplakelaaDoor
