/- GraphReads, walked. Conditions: none of our own. -/
import Derived.Test.YtdbibjcplakelaaDoorRRead
namespace Go.Proofs.YtdbibjcplakelaaDoor
open Go.RowKit
set_option maxRecDepth 100000

theorem readIs_one {s : Bs} {k k' at_ at' e e' : Int} {l l' : List E} (h : ReadIs s k l at_ e) (h' : ReadIs s k' l' at' e') : k = k' ∧ l = l' ∧ at_ = at' ∧ e = e' := by
  unfold ReadIs at h h'
  cases hr : rdT s with
  | inl j =>
    rw [hr] at h h'
    exact ⟨h.1.trans h'.1.symm, h.2.1.trans h'.2.1.symm, h.2.2.1.trans h'.2.2.1.symm, h.2.2.2.trans h'.2.2.2.symm⟩
  | inr p =>
    rw [hr] at h h'
    by_cases hc : checkZ p.1 p.2 = 0
    · obtain ⟨a1, a2⟩ := h.2.2.1 hc
      obtain ⟨b1, b2⟩ := h'.2.2.1 hc
      exact ⟨a1.trans b1.symm, a2.trans b2.symm, h.1.trans h'.1.symm, h.2.1.trans h'.2.1.symm⟩
    · obtain ⟨a1, a2⟩ := h.2.2.2 hc
      obtain ⟨b1, b2⟩ := h'.2.2.2 hc
      exact ⟨a1.trans b1.symm, a2.trans b2.symm, h.1.trans h'.1.symm, h.2.1.trans h'.2.1.symm⟩
set_option maxHeartbeats 1000000 in
theorem reads_walk (s : ByteArray) (w : World) (hk : Kept w) : Ans 5 [.string s] w (fun u w' => u = .bool true ∧ Below w.heap.size w w') := by
  obtain ⟨l, rfl⟩ : ∃ l : Bs, s = ⟨l.toArray⟩ := ⟨s.data.toList, by cases s; simp⟩
  refine calls_qx (args := [.string ⟨l.toArray⟩]) 42 Tryd.func5 rfl (by kernel_rfl) (by simp) (fun a hS => ?_)
  refine qx_seq (reg_seq ?_)
  refine seq_is hS (by decide) (runs_assign rfl) (fun a1 hS => ?_)
  refine nil_ok (qx_seq (qx_seq (reg_seq ?_)))
  refine seq_op hS (by decide) (runs_call (args := []) goes10 rfl (awake_any w hk)) (fun v1 w1 a1 hp1 hS => ?_)
  obtain ⟨rfl, hB1⟩ := hp1
  have hk1 := hk.on hB1
  refine seq_is hS (by decide) (runs_not (b := true) rfl) (fun a1 hS => ?_)
  refine seq_is hS (by decide) (runs_move rfl) (fun a1 hS => ?_)
  refine seq_yis hS (by decide) rfl (by decide) rfl (runs_move rfl) (fun a1 hS => ?_)
  refine seq_yis hS (by decide) rfl (by decide) rfl (runs_lenL rfl) (fun a1 hS => ?_)
  by_cases h6 : ((l.length : Nat) : Int) > 2000
  · skip
    refine seq_yis hS (by decide) rfl (by decide) rfl (runs_gtr (r := true) rfl rfl (by rw [decide_eq_true_eq]; omega)) (fun a1 hS => ?_)
    refine seq_is hS (by decide) (runs_pick rfl rfl) (fun a1 hS => ?_)
    refine nil_ok (wp_cond_true (hS.eval rfl) (qx_seq (reg_seq ?_)))
    refine seq_op hS (by decide) (runs_call (args := []) goes10 rfl (awake_any w1 hk1)) (fun v9 w9 a9 hp9 hS => ?_)
    obtain ⟨rfl, hB9⟩ := hp9
    refine seq_is hS (by decide) (runs_assign rfl) (fun a1 hS => ?_)
    exact nil_ok (qx_ret (ret1 (t := 2) (by kernel_rfl) hS rfl ⟨_, rfl, rfl, hB1.trans (hB9.mono hB1.size)⟩))
  · skip
    refine seq_yis hS (by decide) rfl (by decide) rfl (runs_gtr (r := false) rfl rfl (by rw [decide_eq_false_iff_not]; omega)) (fun a1 hS => ?_)
    refine seq_is hS (by decide) (runs_pick rfl rfl) (fun a1 hS => ?_)
    refine nil_ok (wp_cond_false (hS.eval rfl) (wp_skip (qx_seq (reg_seq ?_))))
    refine seq_is hS (by decide) (runs_move rfl) (fun a1 hS => ?_)
    refine seq_op hS (by decide) (runs_call (args := [.string ⟨l.toArray⟩]) goes23 rfl (read_any ⟨l.toArray⟩ (by rw [mk_size]; omega) w1 hk1)) (fun v2 w2 a2 hp2 hS => ?_)
    obtain ⟨hB2, k, x, l2, at_, e, rfl, hE2, hrd⟩ := hp2
    obtain ⟨A, c, rfl, _, _, _⟩ := id hE2
    have hE2 := hE2.edges
    have hB := hB1.trans (hB2.mono hB1.size)
    change ReadIs l k l2 at_ e at hrd
    refine seq_is hS (by decide) (runs_move rfl) (fun a1 hS => ?_)
    refine seq_is hS (by decide) (runs_extract rfl rfl) (fun a1 hS => ?_)
    refine seq_is hS (by decide) (runs_extract rfl rfl) (fun a1 hS => ?_)
    refine seq_is hS (by decide) (runs_extract rfl rfl) (fun a1 hS => ?_)
    refine seq_op hS (by decide) (runs_alloc24) (fun v3 wa3 a1 hp1 hS => ?_)
    obtain ⟨rfl, hwa3⟩ := hp1
    refine seq_none hS (runs_store24 rfl rfl (by rw [hwa3]; exact Has.new w2 24 [.int .i64 0, .slice none 0 0]) rfl) (fun v3 w3 a1 hp1 hS => ?_)
    obtain ⟨rfl, hwb3⟩ := hp1
    obtain ⟨hG, hB3⟩ : Has w3 w2.heap.size 24 [.int .i64 k, .slice A l2.length c] ∧ Below w2.heap.size w2 w3 := by rw [hwb3, hwa3]; exact new_row w2 24 [.int .i64 0, .slice none 0 0] [.int .i64 k, .slice A l2.length c]
    clear hwb3 hwa3
    have hE2 := hE2.kept hB3
    have hB := hB.trans (hB3.mono hB.size)
    generalize w2.heap.size = g3 at *
    refine seq_is hS (by decide) (runs_assign rfl) (fun a1 hS => ?_)
    refine seq_is hS (by decide) (runs_assign rfl) (fun a1 hS => ?_)
    refine nil_ok (qx_seq (reg_seq ?_))
    refine seq_is hS (by decide) (runs_move rfl) (fun a1 hS => ?_)
    refine seq_op hS (by decide) (runs_call (args := [.string ⟨l.toArray⟩]) goes25 rfl (rread_any l (by omega) w3)) (fun v4 w4 a4 hp4 hS => ?_)
    obtain ⟨hB4, k4, x4, l4, at4, e4, rfl, hE4, hrd4⟩ := hp4
    obtain ⟨h1, h2, h3, h4⟩ := readIs_one hrd hrd4
    subst h1 h2 h3 h4
    obtain ⟨A4, c4, rfl, _, _, _⟩ := id hE4
    have hE2 := hE2.kept hB4
    have hG := hG.below hB4 hG.lt
    have hB := hB.trans (hB4.mono hB.size)
    refine seq_is hS (by decide) (runs_move rfl) (fun a1 hS => ?_)
    refine seq_is hS (by decide) (runs_extract rfl rfl) (fun a1 hS => ?_)
    refine seq_is hS (by decide) (runs_extract rfl rfl) (fun a1 hS => ?_)
    refine seq_is hS (by decide) (runs_extract rfl rfl) (fun a1 hS => ?_)
    refine seq_op hS (by decide) (runs_alloc24) (fun v5 wa5 a1 hp1 hS => ?_)
    obtain ⟨rfl, hwa5⟩ := hp1
    refine seq_none hS (runs_store24 rfl rfl (by rw [hwa5]; exact Has.new w4 24 [.int .i64 0, .slice none 0 0]) rfl) (fun v5 w5 a1 hp1 hS => ?_)
    obtain ⟨rfl, hwb5⟩ := hp1
    obtain ⟨hM, hB5⟩ : Has w5 w4.heap.size 24 [.int .i64 k, .slice A4 l2.length c4] ∧ Below w4.heap.size w4 w5 := by rw [hwb5, hwa5]; exact new_row w4 24 [.int .i64 0, .slice none 0 0] [.int .i64 k, .slice A4 l2.length c4]
    clear hwb5 hwa5
    have hE2 := hE2.kept hB5
    have hE4 := hE4.kept hB5
    have hG := hG.below hB5 hG.lt
    have hB := hB.trans (hB5.mono hB.size)
    generalize w4.heap.size = g5 at *
    refine seq_is hS (by decide) (runs_assign rfl) (fun a1 hS => ?_)
    refine seq_is hS (by decide) (runs_assign rfl) (fun a1 hS => ?_)
    refine nil_ok (qx_seq (reg_seq ?_))
    refine seq_is hS (by decide) (runs_loadG rfl hG) (fun a1 hS => ?_)
    refine seq_is hS (by decide) (runs_loadG rfl hM) (fun a1 hS => ?_)
    refine seq_op hS (by decide) (runs_call (args := [gv k (.slice A l2.length c), gv k (.slice A4 l2.length c4)]) goes15 rfl (same_any k k l2 l2 _ _ w5 hE2 hE4)) (fun v8 w8 a8 hp8 hS => ?_)
    obtain ⟨rfl, hB8⟩ := hp8
    rw [decide_eq_true ⟨rfl, rfl⟩] at hS
    have hB := hB.trans (hB8.mono hB.size)
    refine seq_is hS (by decide) (runs_move rfl) (fun a1 hS => ?_)
    refine seq_yis hS (by decide) rfl (by decide) rfl (runs_move rfl) (fun a1 hS => ?_)
    refine seq_yis hS (by decide) rfl (by decide) rfl (runs_move rfl) (fun a1 hS => ?_)
    refine seq_yis hS (by decide) rfl (by decide) rfl (runs_eql (r := true) rfl rfl (by simp)) (fun a1 hS => ?_)
    refine seq_is hS (by decide) (runs_pick rfl rfl) (fun a1 hS => ?_)
    refine seq_is hS (by decide) (runs_move rfl) (fun a1 hS => ?_)
    refine seq_yis hS (by decide) rfl (by decide) rfl (runs_move rfl) (fun a1 hS => ?_)
    refine seq_yis hS (by decide) rfl (by decide) rfl (runs_move rfl) (fun a1 hS => ?_)
    refine seq_yis hS (by decide) rfl (by decide) rfl (runs_eql (r := true) rfl rfl (by simp)) (fun a1 hS => ?_)
    refine seq_is hS (by decide) (runs_pick rfl rfl) (fun a1 hS => ?_)
    refine seq_is hS (by decide) (runs_assign rfl) (fun a1 hS => ?_)
    exact nil_ok (qx_ret (ret1 (t := 2) (by kernel_rfl) hS rfl ⟨_, rfl, rfl, hB⟩))
end Go.Proofs.YtdbibjcplakelaaDoor
