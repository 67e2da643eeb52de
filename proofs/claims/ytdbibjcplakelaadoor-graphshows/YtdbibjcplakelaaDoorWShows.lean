/- GraphShows, walked. Conditions: none of our own. -/
import Derived.Test.YtdbibjcplakelaaDoorRCheck
import Derived.Test.YtdbibjcplakelaaDoorRShow
namespace Go.Proofs.YtdbibjcplakelaaDoor
open Go.RowKit
set_option maxRecDepth 100000

theorem text_short {n : Nat} {es : List E} (h : checkZ n es = 0) : (textOf (n : Int) (normL n es)).length ≤ 20000 := by
  obtain ⟨k, hk, _, hk2, hel⟩ := norm_small h
  have h1 := edgesT_len (norm_smallE h)
  have h2 := norm_length h
  have h3 := text_nil (n : Int)
  have h4 := dec_len ((n : Int)).toNat (by omega)
  unfold textOf at h3 ⊢
  rw [List.flatMap_nil, List.append_nil] at h3
  rw [h3, List.length_append]
  simp only [List.length_append, List.length_cons, List.length_nil]
  omega
set_option maxHeartbeats 1000000 in
theorem shows_walk (n : Int) (es : List E) (v : Value) (w : World) (hE : Edges w v es) (hk : Kept w) : Ans 4 [gv n v] w (fun u w' => u = .bool true ∧ Below w.heap.size w w') := by
  have hE0 := hE
  obtain ⟨A, c, rfl, hc1, hc2, hA⟩ := id hE
  unfold maxLen at hc2
  refine calls_qx (args := [gv n (.slice A es.length c)]) 63 Tryd.func4 rfl (by kernel_rfl) (by simp) (fun a hS => ?_)
  refine qx_seq (reg_seq ?_)
  refine seq_op hS (by decide) (runs_box rfl) (fun v1 w1 a1 hp1 hS => ?_)
  obtain ⟨rfl, hw1⟩ := hp1
  obtain ⟨hG, hB1⟩ : Has w1 w.heap.size 24 [.int .i64 n, .slice A es.length c] ∧ Below w.heap.size w w1 := by rw [hw1]; exact new_box w 24 [.int .i64 n, .slice A es.length c]
  clear hw1
  have hE := hE0.kept hB1
  have hk1 := hk.on hB1
  generalize hgg : w.heap.size = g at *
  refine seq_is hS (by decide) (runs_assign rfl) (fun a1 hS => ?_)
  refine nil_ok (qx_seq (qx_seq (reg_seq ?_)))
  refine seq_op hS (by decide) (runs_call (args := []) goes10 rfl (awake_any w1 hk1)) (fun v2 w2 a2 hp2 hS => ?_)
  obtain ⟨rfl, hB2⟩ := hp2
  have hG := hG.below hB2 hG.lt
  have hE := hE.kept hB2
  have hk2 := hk1.on hB2
  have hB : Below g w w2 := hB1.trans (hB2.mono (by have := hB1.size; omega))
  refine seq_is hS (by decide) (runs_not (b := true) rfl) (fun a1 hS => ?_)
  refine seq_is hS (by decide) (runs_move rfl) (fun a1 hS => ?_)
  refine seq_yis hS (by decide) rfl (by decide) rfl (runs_f24 (by decide) rfl) (fun a1 hS => ?_)
  refine seq_yis hS (by decide) rfl (by decide) rfl (runs_loadV rfl hG) (fun a1 hS => ?_)
  refine seq_yis hS (by decide) rfl (by decide) rfl (runs_len rfl und22) (fun a1 hS => ?_)
  by_cases h6 : ((es.length : Nat) : Int) > 600
  · skip
    refine seq_yis hS (by decide) rfl (by decide) rfl (runs_gtr (r := true) rfl rfl (by rw [decide_eq_true_eq]; omega)) (fun a1 hS => ?_)
    refine seq_is hS (by decide) (runs_pick rfl rfl) (fun a1 hS => ?_)
    refine nil_ok (wp_cond_true (hS.eval rfl) (qx_seq (reg_seq ?_)))
    refine seq_op hS (by decide) (runs_call (args := []) goes10 rfl (awake_any w2 hk2)) (fun v9 w9 a9 hp9 hS => ?_)
    obtain ⟨rfl, hB9⟩ := hp9
    refine seq_is hS (by decide) (runs_assign rfl) (fun a1 hS => ?_)
    exact nil_ok (qx_ret (ret1 (t := 2) (by kernel_rfl) hS rfl ⟨_, rfl, rfl, hB.trans (hB9.mono (by have := hB.size; omega))⟩))
  · skip
    refine seq_yis hS (by decide) rfl (by decide) rfl (runs_gtr (r := false) rfl rfl (by rw [decide_eq_false_iff_not]; omega)) (fun a1 hS => ?_)
    refine seq_is hS (by decide) (runs_pick rfl rfl) (fun a1 hS => ?_)
    refine nil_ok (wp_cond_false (hS.eval rfl) (wp_skip (qx_seq (reg_seq ?_))))
    refine seq_is hS (by decide) (runs_loadG rfl hG) (fun a1 hS => ?_)
    refine seq_op hS (by decide) (runs_call (args := [gv n (.slice A es.length c)]) goes13 rfl (own_any n es (by omega) _ w2 hE)) (fun v4 w4 a4 hp4 hS => ?_)
    obtain ⟨hB4, x4, rfl, hE4⟩ := hp4
    have hE4 := hE4.edges
    have hG := hG.below hB4 hG.lt
    have hE := hE.kept hB4
    have hB := hB.trans (hB4.mono (by have := hB.size; omega))
    have hk4 := hk2.on hB4
    refine seq_op hS (by decide) (runs_call (args := [gv n x4]) goes22 rfl (show_any n es x4 w4 hE4 hk4)) (fun v5 w5 a5 hp5 hS => ?_)
    obtain ⟨hB5, rfl⟩ := hp5
    have hG := hG.below hB5 hG.lt
    have hE := hE.kept hB5
    have hB := hB.trans (hB5.mono (by have := hB.size; omega))
    have hk5 := hk4.on hB5
    refine seq_is hS (by decide) (runs_move rfl) (fun a1 hS => ?_)
    refine seq_is hS (by decide) (runs_extract rfl rfl) (fun a1 hS => ?_)
    refine seq_is hS (by decide) (runs_extract rfl rfl) (fun a1 hS => ?_)
    refine seq_is hS (by decide) (runs_assign rfl) (fun a1 hS => ?_)
    refine seq_is hS (by decide) (runs_assign rfl) (fun a1 hS => ?_)
    refine nil_ok (qx_seq (reg_seq ?_))
    refine seq_is hS (by decide) (runs_loadG rfl hG) (fun a1 hS => ?_)
    refine seq_op hS (by decide) (runs_call (args := [gv n (.slice A es.length c)]) goes11 rfl (rcheck_any n es _ w5 hE)) (fun v6 w6 a6 hp6 hS => ?_)
    obtain ⟨rfl, hB6⟩ := hp6
    have hG := hG.below hB6 hG.lt
    have hE := hE.kept hB6
    have hB := hB.trans (hB6.mono (by have := hB.size; omega))
    have hk6 := hk5.on hB6
    refine seq_is hS (by decide) (runs_assign rfl) (fun a1 hS => ?_)
    refine nil_ok (qx_seq (qx_seq (reg_seq ?_)))
    refine seq_is hS (by decide) (runs_move rfl) (fun a1 hS => ?_)
    by_cases hc : checkZ n es = 0
    · skip
      refine seq_is hS (by decide) (runs_neq (r := false) rfl rfl (by simp [hc])) (fun a1 hS => ?_)
      refine nil_ok (wp_cond_false (hS.eval rfl) (wp_skip (qx_seq (reg_seq ?_))))
      obtain ⟨kn, rfl, hkn1, hkn2, hel⟩ := norm_small hc
      have hshort := text_short hc
      have hrt := read_text (n := (kn : Int)) (by omega) (by omega) (norm_smallE hc)
      have hcl : checkZ kn (normL kn es) = 0 := by rw [check_perm (norm_perm hc)]; exact hc
      have hnn := norm_norm hc
      have hsh : showL kn es = textOf kn (normL kn es) := by unfold showL; rw [if_pos hc, Int.toNat_natCast]
      have hN2 := fun (u : Value) (w0 : World) (h0 : Edges w0 u es) => rnorm_any kn es u w0 h0 hc
      have hS2 := fun (u : Value) (w0 : World) (h0 : Edges w0 u es) => rshow_any kn es u w0 h0 hc
      simp only [Int.toNat_natCast] at hN2 hS2
      rw [hsh, hc] at hS
      generalize normL kn es = l at *
      refine seq_is hS (by decide) (runs_move rfl) (fun a1 hS => ?_)
      refine seq_op hS (by decide) (runs_call (args := [.string ⟨(textOf (kn : Int) l).toArray⟩]) goes23 rfl (read_any ⟨(textOf (kn : Int) l).toArray⟩ (by rw [mk_size]; omega) w6 hk6)) (fun v7 w7 a7 hp7 hS => ?_)
      obtain ⟨hB7, k, x7, l7, at_, e7, rfl, hE7, hrd⟩ := hp7
      rw [show (ByteArray.mk (textOf (kn : Int) l).toArray).data.toList = textOf (kn : Int) l from rfl, ReadIs, hrt] at hrd
      obtain ⟨rfl, rfl, hy, _⟩ := hrd
      simp only at hy hS
      obtain ⟨rfl, hl7⟩ := hy hcl
      rw [Int.toNat_natCast, hnn] at hl7
      subst hl7
      rw [hcl] at hS
      obtain ⟨A7, c7, rfl, _, _, _⟩ := id hE7
      have hE7 := hE7.edges
      have hG := hG.below hB7 hG.lt
      have hE := hE.kept hB7
      have hB := hB.trans (hB7.mono (by have := hB.size; omega))
      refine seq_is hS (by decide) (runs_move rfl) (fun a1 hS => ?_)
      refine seq_is hS (by decide) (runs_extract rfl rfl) (fun a1 hS => ?_)
      refine seq_is hS (by decide) (runs_extract rfl rfl) (fun a1 hS => ?_)
      refine seq_is hS (by decide) (runs_extract rfl rfl) (fun a1 hS => ?_)
      refine seq_op hS (by decide) (runs_alloc24) (fun v8 wa8 a1 hp1 hS => ?_)
      obtain ⟨rfl, hwa8⟩ := hp1
      refine seq_none hS (runs_store24 rfl rfl (by rw [hwa8]; exact Has.new w7 24 [.int .i64 0, .slice none 0 0]) rfl) (fun v8 w8 a1 hp1 hS => ?_)
      obtain ⟨rfl, hwb8⟩ := hp1
      obtain ⟨hM, hB8⟩ : Has w8 w7.heap.size 24 [.int .i64 (kn : Int), .slice A7 l7.length c7] ∧ Below w7.heap.size w7 w8 := by rw [hwb8, hwa8]; exact new_row w7 24 [.int .i64 0, .slice none 0 0] [.int .i64 (kn : Int), .slice A7 l7.length c7]
      clear hwb8 hwa8
      have hG := hG.below hB8 hG.lt
      have hE := hE.kept hB8
      have hB := hB.trans (hB8.mono (by have := hB.size; omega))
      have hE7 := hE7.kept hB8
      have hgl := hG.lt
      have hml := hM.lt
      have hB0 := hB.size
      generalize w7.heap.size = g6 at *
      refine seq_is hS (by decide) (runs_assign rfl) (fun a1 hS => ?_)
      refine seq_is hS (by decide) (runs_assign rfl) (fun a1 hS => ?_)
      have hS := hS.only [(3, .string ⟨(textOf (kn : Int) l7).toArray⟩), (4, .int .i64 0), (1, .pointer (some ⟨g, 0, none⟩)), (6, .pointer (some ⟨g6, 0, none⟩)), (7, .int .i64 0), (8, .int .i64 0)] ⟨rfl, rfl, rfl, rfl, rfl, rfl, trivial⟩
      refine nil_ok ?_
      refine qx_seq (reg_guard (fun w9 => Below w8.heap.size w8 w9) [.inl (.int .i64 0), .inl (.bool true), .inl (.bool true), .inl (.string ⟨(textOf (kn : Int) l7).toArray⟩), .inl (gv (kn : Int) (.slice A es.length c)), .inl (.string ⟨(textOf (kn : Int) l7).toArray⟩), .inl (.bool true), .inl (.bool true), .inl (.bool true), .inl (gv (kn : Int) (.slice A7 l7.length c7)), .inl (gv (kn : Int) (.slice A es.length c)), .inr (fun u w4 => ∃ x, u = gv (kn : Int) x ∧ Edges w4 x l7), .inl (.bool true), .inl (.bool true), .inl (.bool true), .inl (.int .i64 0), .inl (.bool true), .inl (.bool true), .inl (.bool true), .inl (.int .i64 0), .inl (.bool true), .inl (.bool true)] 22 1 mixed rfl (by kernel_rfl) hS (Below.refl _ _) (fun _ h => h.drew) ?_)
      refine hs_is rfl (fun w' hw => runs_move rfl) ?_
      refine hs_is rfl (fun w' hw => runs_eql (r := true) rfl rfl (by simp)) ?_
      refine hs_is rfl (fun w' hw => runs_move rfl) ?_
      refine hs_yis rfl rfl (fun w' hw => runs_move rfl) ?_
      refine hs_yis rfl rfl (fun w' hw => runs_loadG rfl (hG.below hw hgl)) ?_
      refine hs_yval rfl rfl (fun w' hw hq => (runs_call (args := [gv (kn : Int) (.slice A es.length c)]) goes24 rfl (hS2 _ w' (hE.kept hw))).mono (by rintro u w5 ⟨rfl, h1⟩; exact ⟨rfl, hw.trans (h1.mono hw.size), h1⟩)) ?_
      refine hs_yis rfl rfl (fun w' hw => runs_eqStr (r := true) rfl rfl (by simp)) ?_
      refine hs_is rfl (fun w' hw => runs_pick rfl rfl) ?_
      refine hs_is rfl (fun w' hw => runs_move rfl) ?_
      refine hs_yis rfl rfl (fun w' hw => runs_loadG rfl (hM.below hw hml)) ?_
      refine hs_yis rfl rfl (fun w' hw => runs_loadG rfl (hG.below hw hgl)) ?_
      refine hs_ypr rfl rfl (fun _ _ _ h hb => by obtain ⟨x, h1, h2⟩ := h; exact ⟨x, h1, h2.kept hb⟩) (fun w' hw hq => (runs_call (args := [gv (kn : Int) (.slice A es.length c)]) goes18 rfl (hN2 _ w' (hE.kept hw))).mono (by rintro u w5 ⟨h1, x, rfl, h2⟩; exact ⟨⟨x, rfl, h2.edges⟩, hw.trans (h1.mono hw.size), h1⟩)) (fun u52 => ?_)
      refine hs_yval rfl rfl (fun w' hw hq => (by obtain ⟨x, rfl, hx⟩ := hq (11, _) List.mem_cons_self (by kernel_rfl); exact (runs_call (args := [gv (kn : Int) (.slice A7 l7.length c7), gv (kn : Int) x]) goes15 rfl (same_any kn kn l7 l7 _ _ w' (hE7.kept hw) hx)).mono (by rintro u w5 ⟨rfl, h1⟩; exact ⟨by rw [decide_eq_true ⟨rfl, rfl⟩], hw.trans (h1.mono hw.size), h1⟩))) ?_
      refine hs_is rfl (fun w' hw => runs_pick rfl rfl) ?_
      refine hs_is rfl (fun w' hw => runs_move rfl) ?_
      refine hs_yis rfl rfl (fun w' hw => runs_move rfl) ?_
      refine hs_yis rfl rfl (fun w' hw => runs_eql (r := true) rfl rfl (by simp)) ?_
      refine hs_is rfl (fun w' hw => runs_pick rfl rfl) ?_
      refine hs_is rfl (fun w' hw => runs_move rfl) ?_
      refine hs_yis rfl rfl (fun w' hw => runs_move rfl) ?_
      refine hs_yis rfl rfl (fun w' hw => runs_eql (r := true) rfl rfl (by simp)) ?_
      refine hs_is rfl (fun w' hw => runs_pick rfl rfl) ?_
      refine (fun a9 w9 hS9 hB9 _ => ?_)
      refine tail_op 22 (by kernel_rfl) rfl hS9 (by decide) (runs_assign rfl) (fun v10 w10 a10 hp10 hS10 => ⟨trivial, ?_⟩)
      obtain ⟨rfl, rfl⟩ := hp10
      refine wpAnyH_done (by kernel_rfl) ?_ _
      exact qx_ret (ret1 (t := 2) (by kernel_rfl) hS10 rfl ⟨_, rfl, rfl, hB.trans (hB9.mono (by omega))⟩)
    · skip
      refine seq_is hS (by decide) (runs_neq (r := true) rfl rfl (by simp [hc])) (fun a1 hS => ?_)
      refine nil_ok (wp_cond_true (hS.eval rfl) (qx_seq (reg_seq ?_)))
      refine seq_is hS (by decide) (runs_move rfl) (fun a1 hS => ?_)
      refine seq_is hS (by decide) (runs_eqStr (r := true) rfl rfl (by simp [showL, hc])) (fun a1 hS => ?_)
      refine seq_is hS (by decide) (runs_move rfl) (fun a1 hS => ?_)
      refine seq_yis hS (by decide) rfl (by decide) rfl (runs_move rfl) (fun a1 hS => ?_)
      refine seq_yis hS (by decide) rfl (by decide) rfl (runs_move rfl) (fun a1 hS => ?_)
      refine seq_yis hS (by decide) rfl (by decide) rfl (runs_eql (r := true) rfl rfl (by simp)) (fun a1 hS => ?_)
      refine seq_is hS (by decide) (runs_pick rfl rfl) (fun a1 hS => ?_)
      refine seq_is hS (by decide) (runs_assign rfl) (fun a1 hS => ?_)
      exact nil_ok (qx_ret (ret1 (t := 2) (by kernel_rfl) hS rfl ⟨_, rfl, rfl, hB⟩))
end Go.Proofs.YtdbibjcplakelaaDoor
