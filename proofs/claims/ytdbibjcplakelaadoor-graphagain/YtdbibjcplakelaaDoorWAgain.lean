/- GraphAgain, walked. Conditions: none of our own. -/
import Derived.Test.YtdbibjcplakelaaDoorGAwake
namespace Go.Proofs.YtdbibjcplakelaaDoor
open Go.RowKit
set_option maxRecDepth 100000

/-- A text that is read without an error. -/
theorem again_math {s : Bs} {k at_ : Int} {l : List E} (h : ReadIs s k l at_ 0) : checkZ k l = 0 ∧ showL k l = textOf k l ∧ rdT (textOf k l) = .inr (k, l) ∧ normL k.toNat l = l ∧ (textOf k l).length = s.length := by
  unfold ReadIs at h
  cases hr : rdT s with
  | inl j => rw [hr] at h; exact absurd h.2.2.2 (by decide)
  | inr p =>
    obtain ⟨n, es⟩ := p
    rw [hr] at h
    obtain ⟨_, h1, h2, _⟩ := h
    simp only at h1 h2
    have hc : checkZ n es = 0 := h1.symm
    obtain ⟨rfl, rfl⟩ := h2 hc
    obtain ⟨kn, rfl, hk1, hk2, _⟩ := norm_small hc
    rw [Int.toNat_natCast]
    have hp := norm_perm hc
    have hc2 : checkZ kn (normL kn es) = 0 := by rw [check_perm hp]; exact hc
    have hn := norm_norm hc
    refine ⟨hc2, by rw [showL, if_pos hc2, Int.toNat_natCast, hn], read_text (by omega) (by omega) (norm_smallE hc), hn, ?_⟩
    rw [text_perm hp, (text_read hr).1]
theorem again_wrong {s : Bs} {k at_ e : Int} {l : List E} (h : ReadIs s k l at_ e) (he : e ≠ 0) : k = 0 ∧ l = [] := by
  unfold ReadIs at h
  cases hr : rdT s with
  | inl j => rw [hr] at h; exact ⟨h.1, h.2.1⟩
  | inr p =>
    rw [hr] at h
    exact h.2.2.2 (fun h0 => he (by rw [h.2.1]; exact h0))
set_option maxHeartbeats 1000000 in
theorem again_walk (s : ByteArray) (w : World) (hk : Kept w) : Ans 9 [.string s] w (fun u w' => u = .bool true ∧ Below w.heap.size w w') := by
  have hsl := size_list s
  refine calls_qx (args := [.string s]) 85 Tryd.func9 rfl (by kernel_rfl) (by simp) (fun a hS => ?_)
  refine qx_seq (reg_seq ?_)
  refine seq_is hS (by decide) (runs_assign rfl) (fun a1 hS => ?_)
  refine nil_ok (qx_seq (qx_seq (reg_seq ?_)))
  refine seq_op hS (by decide) (runs_call (args := []) goes10 rfl (awake_any w hk)) (fun v1 w1 a1 hp1 hS => ?_)
  obtain ⟨rfl, hB1⟩ := hp1
  have hk1 := hk.on hB1
  refine seq_is hS (by decide) (runs_not (b := true) rfl) (fun a1 hS => ?_)
  refine seq_is hS (by decide) (runs_move rfl) (fun a1 hS => ?_)
  refine seq_yis hS (by decide) rfl (by decide) rfl (runs_move rfl) (fun a1 hS => ?_)
  refine seq_yis hS (by decide) rfl (by decide) rfl (runs_lens rfl (by kernel_rfl)) (fun a1 hS => ?_)
  by_cases h6 : (s.size : Int) > 2000
  · skip
    refine seq_yis hS (by decide) rfl (by decide) rfl (runs_gtr (r := true) rfl rfl (by rw [decide_eq_true_eq]; omega)) (fun a1 hS => ?_)
    refine seq_is hS (by decide) (runs_pick rfl rfl) (fun a1 hS => ?_)
    refine nil_ok (wp_cond_true (hS.eval rfl) (qx_seq (reg_seq ?_)))
    refine seq_op hS (by decide) (runs_call (args := []) goes10 rfl (awake_any w1 hk1)) (fun v9 w9 a9 hp9 hS => ?_)
    obtain ⟨rfl, hB9⟩ := hp9
    refine seq_is hS (by decide) (runs_assign rfl) (fun a1 hS => ?_)
    exact nil_ok (qx_ret (ret1 (t := 2) (by kernel_rfl) hS rfl ⟨_, rfl, rfl, hB1.trans (hB9.mono hB1.size)⟩))
  · skip
    refine seq_yis hS (by decide) rfl (by decide) rfl (runs_gtr (r := false) rfl rfl (by rw [decide_eq_false_iff_not]; omega)) (fun a1 hS => ?_)
    refine seq_is hS (by decide) (runs_pick rfl rfl) (fun a1 hS => ?_)
    refine nil_ok (wp_cond_false (hS.eval rfl) (wp_skip (qx_seq (reg_seq ?_))))
    refine seq_is hS (by decide) (runs_move rfl) (fun a1 hS => ?_)
    refine seq_op hS (by decide) (runs_call (args := [.string s]) goes23 rfl (read_any s (by omega) w1 hk1)) (fun v2 w2 a2 hp2 hS => ?_)
    obtain ⟨hB2, k, x, l, at_, er, rfl, hE, hrd⟩ := hp2
    obtain ⟨A, c, rfl, _, _, _⟩ := id hE
    have hE := hE.edges
    have hB2 := hB1.trans (hB2.mono hB1.size)
    refine seq_is hS (by decide) (runs_move rfl) (fun a1 hS => ?_)
    refine seq_is hS (by decide) (runs_extract rfl rfl) (fun a1 hS => ?_)
    refine seq_is hS (by decide) (runs_extract rfl rfl) (fun a1 hS => ?_)
    refine seq_is hS (by decide) (runs_extract rfl rfl) (fun a1 hS => ?_)
    refine seq_op hS (by decide) (runs_alloc24) (fun v3 wa3 a1 hp1 hS => ?_)
    obtain ⟨rfl, hwa3⟩ := hp1
    refine seq_none hS (runs_store24 rfl rfl (by rw [hwa3]; exact Has.new w2 24 [.int .i64 0, .slice none 0 0]) rfl) (fun v3 w3 a1 hp1 hS => ?_)
    obtain ⟨rfl, hwb3⟩ := hp1
    obtain ⟨hG, hB3⟩ : Has w3 w2.heap.size 24 [.int .i64 k, .slice A l.length c] ∧ Below w2.heap.size w2 w3 := by rw [hwb3, hwa3]; exact new_row w2 24 [.int .i64 0, .slice none 0 0] [.int .i64 k, .slice A l.length c]
    clear hwb3 hwa3
    have hE := hE.kept hB3
    have hB3 := hB2.trans (hB3.mono hB2.size)
    have hk3 := hk.on hB3
    refine seq_is hS (by decide) (runs_assign rfl) (fun a1 hS => ?_)
    refine seq_is hS (by decide) (runs_assign rfl) (fun a1 hS => ?_)
    refine nil_ok (qx_seq (qx_seq (reg_seq ?_)))
    refine seq_is hS (by decide) (runs_move rfl) (fun a1 hS => ?_)
    by_cases he : er = 0
    · skip
      refine seq_is hS (by decide) (runs_neq (r := false) rfl rfl (by simp [he])) (fun a1 hS => ?_)
      subst he
      obtain ⟨m1, m2, m3, m4, m5⟩ := again_math hrd
      have hlt : (ByteArray.mk (textOf k l).toArray).size = s.size := by rw [mk_size, m5, hsl]
      refine nil_ok (wp_cond_false (hS.eval rfl) (wp_skip (qx_seq (reg_seq ?_))))
      refine seq_is hS (by decide) (runs_loadG rfl hG) (fun a1 hS => ?_)
      refine seq_op hS (by decide) (runs_call (args := [gv k (.slice A l.length c)]) goes22 rfl (show_any k l _ w3 hE hk3)) (fun v4 w4 a4 hp4 hS => ?_)
      obtain ⟨hB4, rfl⟩ := hp4
      rw [m1, m2] at hS
      have hG := hG.below hB4 hG.lt
      have hE := hE.kept hB4
      have hB4 := hB3.trans (hB4.mono hB3.size)
      have hk4 := hk.on hB4
      refine seq_is hS (by decide) (runs_move rfl) (fun a1 hS => ?_)
      refine seq_is hS (by decide) (runs_extract rfl rfl) (fun a1 hS => ?_)
      refine seq_is hS (by decide) (runs_extract rfl rfl) (fun a1 hS => ?_)
      refine seq_is hS (by decide) (runs_assign rfl) (fun a1 hS => ?_)
      refine seq_is hS (by decide) (runs_assign rfl) (fun a1 hS => ?_)
      refine nil_ok (qx_seq (reg_seq ?_))
      refine seq_is hS (by decide) (runs_move rfl) (fun a1 hS => ?_)
      refine seq_op hS (by decide) (runs_call (args := [.string ⟨(textOf k l).toArray⟩]) goes23 rfl (read_any ⟨(textOf k l).toArray⟩ (by omega) w4 hk4)) (fun v5 w5 a5 hp5 hS => ?_)
      obtain ⟨hB5, k2, x2, l2, at2, er2, rfl, hE2, hrd2⟩ := hp5
      rw [show (ByteArray.mk (textOf k l).toArray).data.toList = textOf k l from rfl, ReadIs, m3] at hrd2
      obtain ⟨rfl, rfl, hy2, _⟩ := hrd2
      simp only at hy2 hS
      obtain ⟨hk2, hl2⟩ := hy2 m1
      obtain rfl : k = k2 := hk2.symm
      subst hl2
      rw [m4] at hE2
      rw [m1] at hS
      obtain ⟨A2, c2, rfl, _, _, _⟩ := id hE2
      have hE2 := hE2.edges
      have hE := hE.kept hB5
      have hG := hG.below hB5 hG.lt
      have hB5 := hB4.trans (hB5.mono hB4.size)
      refine seq_is hS (by decide) (runs_move rfl) (fun a1 hS => ?_)
      refine seq_is hS (by decide) (runs_extract rfl rfl) (fun a1 hS => ?_)
      refine seq_is hS (by decide) (runs_extract rfl rfl) (fun a1 hS => ?_)
      refine seq_is hS (by decide) (runs_extract rfl rfl) (fun a1 hS => ?_)
      refine seq_op hS (by decide) (runs_alloc24) (fun v6 wa6 a1 hp1 hS => ?_)
      obtain ⟨rfl, hwa6⟩ := hp1
      refine seq_none hS (runs_store24 rfl rfl (by rw [hwa6]; exact Has.new w5 24 [.int .i64 0, .slice none 0 0]) rfl) (fun v6 w6 a1 hp1 hS => ?_)
      obtain ⟨rfl, hwb6⟩ := hp1
      obtain ⟨hG6, hB6⟩ : Has w6 w5.heap.size 24 [.int .i64 k, .slice A2 l.length c2] ∧ Below w5.heap.size w5 w6 := by rw [hwb6, hwa6]; exact new_row w5 24 [.int .i64 0, .slice none 0 0] [.int .i64 k, .slice A2 l.length c2]
      clear hwb6 hwa6
      have hE := hE.kept hB6
      have hE2 := hE2.kept hB6
      have hG := hG.below hB6 hG.lt
      have hB6 := hB5.trans (hB6.mono hB5.size)
      have hk6 := hk.on hB6
      refine seq_is hS (by decide) (runs_assign rfl) (fun a1 hS => ?_)
      refine seq_is hS (by decide) (runs_assign rfl) (fun a1 hS => ?_)
      refine nil_ok (qx_seq (reg_seq ?_))
      refine seq_is hS (by decide) (runs_loadG rfl hG6) (fun a1 hS => ?_)
      refine seq_op hS (by decide) (runs_call (args := [gv k (.slice A2 l.length c2)]) goes22 rfl (show_any k l _ w6 hE2 hk6)) (fun v7 w7 a7 hp7 hS => ?_)
      obtain ⟨hB7, rfl⟩ := hp7
      rw [m1, m2] at hS
      have hG := hG.below hB7 hG.lt
      have hG6 := hG6.below hB7 hG6.lt
      have hE := hE.kept hB7
      have hE2 := hE2.kept hB7
      have hB7 := hB6.trans (hB7.mono hB6.size)
      refine seq_is hS (by decide) (runs_move rfl) (fun a1 hS => ?_)
      refine seq_is hS (by decide) (runs_extract rfl rfl) (fun a1 hS => ?_)
      refine seq_is hS (by decide) (runs_extract rfl rfl) (fun a1 hS => ?_)
      refine seq_is hS (by decide) (runs_assign rfl) (fun a1 hS => ?_)
      refine seq_is hS (by decide) (runs_assign rfl) (fun a1 hS => ?_)
      refine nil_ok (qx_seq (reg_seq ?_))
      refine seq_is hS (by decide) (runs_move rfl) (fun a1 hS => ?_)
      refine seq_is hS (by decide) (runs_eql (r := true) rfl rfl (by simp)) (fun a1 hS => ?_)
      refine seq_is hS (by decide) (runs_move rfl) (fun a1 hS => ?_)
      refine seq_yis hS (by decide) rfl (by decide) rfl (runs_move rfl) (fun a1 hS => ?_)
      refine seq_yis hS (by decide) rfl (by decide) rfl (runs_eql (r := true) rfl rfl (by simp)) (fun a1 hS => ?_)
      refine seq_is hS (by decide) (runs_pick rfl rfl) (fun a1 hS => ?_)
      refine seq_is hS (by decide) (runs_move rfl) (fun a1 hS => ?_)
      refine seq_yis hS (by decide) rfl (by decide) rfl (runs_move rfl) (fun a1 hS => ?_)
      refine seq_yis hS (by decide) rfl (by decide) rfl (runs_eql (r := true) rfl rfl (by simp)) (fun a1 hS => ?_)
      refine seq_is hS (by decide) (runs_pick rfl rfl) (fun a1 hS => ?_)
      refine seq_is hS (by decide) (runs_move rfl) (fun a1 hS => ?_)
      refine seq_yis hS (by decide) rfl (by decide) rfl (runs_move rfl) (fun a1 hS => ?_)
      refine seq_yis hS (by decide) rfl (by decide) rfl (runs_eql (r := true) rfl rfl (by simp)) (fun a1 hS => ?_)
      refine seq_is hS (by decide) (runs_pick rfl rfl) (fun a1 hS => ?_)
      refine seq_is hS (by decide) (runs_move rfl) (fun a1 hS => ?_)
      refine seq_yis hS (by decide) rfl (by decide) rfl (runs_move rfl) (fun a1 hS => ?_)
      refine seq_yis hS (by decide) rfl (by decide) rfl (runs_move rfl) (fun a1 hS => ?_)
      refine seq_yis hS (by decide) rfl (by decide) rfl (runs_eqStr (r := true) rfl rfl (by simp)) (fun a1 hS => ?_)
      refine seq_is hS (by decide) (runs_pick rfl rfl) (fun a1 hS => ?_)
      refine seq_is hS (by decide) (runs_move rfl) (fun a1 hS => ?_)
      refine seq_yis hS (by decide) rfl (by decide) rfl (runs_loadG rfl hG) (fun a1 hS => ?_)
      refine seq_yis hS (by decide) rfl (by decide) rfl (runs_loadG rfl hG6) (fun a1 hS => ?_)
      refine seq_yes hS (by decide) rfl (by decide) rfl (runs_call (args := [gv k (.slice A l.length c), gv k (.slice A2 l.length c2)]) goes15 rfl (same_any k k l l _ _ w7 hE hE2)) (fun v8 w8 a8 hp8 hS => ?_)
      obtain ⟨rfl, hB8⟩ := hp8
      rw [decide_eq_true ⟨rfl, rfl⟩] at hS
      have hB8 := hB7.trans (hB8.mono hB7.size)
      refine seq_is hS (by decide) (runs_pick rfl rfl) (fun a1 hS => ?_)
      refine seq_is hS (by decide) (runs_move rfl) (fun a1 hS => ?_)
      refine seq_yis hS (by decide) rfl (by decide) rfl (runs_move rfl) (fun a1 hS => ?_)
      refine seq_yis hS (by decide) rfl (by decide) rfl ((runs_lens rfl und9).mono (by rintro v w' ⟨rfl, rfl⟩; exact ⟨by rw [hlt], rfl⟩)) (fun a1 hS => ?_)
      refine seq_yis hS (by decide) rfl (by decide) rfl (runs_move rfl) (fun a1 hS => ?_)
      refine seq_yis hS (by decide) rfl (by decide) rfl (runs_lens rfl und9) (fun a1 hS => ?_)
      refine seq_yis hS (by decide) rfl (by decide) rfl (runs_eql (r := true) rfl rfl (by simp)) (fun a1 hS => ?_)
      refine seq_is hS (by decide) (runs_pick rfl rfl) (fun a1 hS => ?_)
      refine seq_is hS (by decide) (runs_assign rfl) (fun a1 hS => ?_)
      exact nil_ok (qx_ret (ret1 (t := 2) (by kernel_rfl) hS rfl ⟨_, rfl, rfl, hB8⟩))
    · skip
      refine seq_is hS (by decide) (runs_neq (r := true) rfl rfl (by simp [he])) (fun a1 hS => ?_)
      obtain ⟨rfl, rfl⟩ := again_wrong hrd he
      refine nil_ok (wp_cond_true (hS.eval rfl) (qx_seq (reg_seq ?_)))
      refine seq_is hS (by decide) (runs_f24 (by decide) rfl) (fun a1 hS => ?_)
      refine seq_is hS (by decide) (runs_loadN rfl hG) (fun a1 hS => ?_)
      refine seq_is hS (by decide) (runs_eql (r := true) rfl rfl (by simp)) (fun a1 hS => ?_)
      refine seq_is hS (by decide) (runs_move rfl) (fun a1 hS => ?_)
      refine seq_yis hS (by decide) rfl (by decide) rfl (runs_f24 (by decide) rfl) (fun a1 hS => ?_)
      refine seq_yis hS (by decide) rfl (by decide) rfl (runs_loadV rfl hG) (fun a1 hS => ?_)
      refine seq_yis hS (by decide) rfl (by decide) rfl (runs_len (m := 0) rfl und22) (fun a1 hS => ?_)
      refine seq_yis hS (by decide) rfl (by decide) rfl (runs_eql (r := true) rfl rfl (by simp)) (fun a1 hS => ?_)
      refine seq_is hS (by decide) (runs_pick rfl rfl) (fun a1 hS => ?_)
      refine seq_is hS (by decide) (runs_assign rfl) (fun a1 hS => ?_)
      exact nil_ok (qx_ret (ret1 (t := 2) (by kernel_rfl) hS rfl ⟨_, rfl, rfl, hB3⟩))
end Go.Proofs.YtdbibjcplakelaaDoor
