/- Layer 6 and the document: the vertices of a worker, the place of a vertex, the same numbers. Conditions: none of our own. -/
import Derived.Test.YtfomkgppdcghgaaQCode
namespace Go.Proofs.Ytfomkgppdcghgaa
open Go.RowKit
open Part
set_option maxRecDepth 100000

set_option maxHeartbeats 1000000 in
theorem asks_any (v k x : Int) (g1 g2 : Nat) (w : World) (h1 : Has w g1 3 [.int .i64 k]) (h2 : Has w g2 3 [.int .i64 x]) : Ans 23 [.int .i64 v, .pointer (some ⟨g1, 0, none⟩), .pointer (some ⟨g2, 0, none⟩)] w (fun u w' => u = .bool (own v k == x) ∧ Below w.heap.size w w') := by
  refine calls_qx (args := [.int .i64 v, .pointer (some ⟨g1, 0, none⟩), .pointer (some ⟨g2, 0, none⟩)]) 10 Try.func23 rfl (by kernel_rfl) (by simp) (fun a hS => ?_)
  refine qx_seq (reg_seq ?_)
  refine seq_is hS (by decide) (runs_assign rfl) (fun a1 hS => ?_)
  refine nil_ok ?_
  refine qx_seq (reg_guard (fun w' => Below w.heap.size w w') [.inl (.int .i64 v), .inl (.int .i64 k), .inl (.int .i64 (own v k)), .inl (.int .i64 x), .inl (.bool (own v k == x)), .inl (.bool (own v k == x))] 6 0 mixed rfl (by kernel_rfl) hS (Below.refl _ _) (fun _ h => h.drew) ?_)
  refine hs_is rfl (fun w' hw => runs_move rfl) ?_
  refine hs_is rfl (fun w' hw => runs_load rfl (by kernel_rfl) ((h1.below hw h1.lt).cell 0)) ?_
  refine hs_is rfl (fun w' hw => runs_call (args := [.int .i64 v, .int .i64 k]) goes12 rfl (own_any v k w')) ?_
  refine hs_is rfl (fun w' hw => runs_load rfl (by kernel_rfl) ((h2.below hw h2.lt).cell 0)) ?_
  refine hs_is rfl (fun w' hw => runs_eql (r := own v k == x) rfl rfl rfl) ?_
  refine hs_is rfl (fun w' hw => runs_assign rfl) ?_
  refine (fun a5 w5 hS5 hB5 _ => ?_)
  refine wpAnyH_done (by kernel_rfl) ?_ _
  exact qx_ret (ret1 (t := 4) (by kernel_rfl) hS5 rfl ⟨_, rfl, rfl, hB5⟩)
set_option maxHeartbeats 1000000 in
theorem owned_any (k x : Int) (w : World) : Ans 22 [.int .i64 k, .int .i64 x] w (fun u w' => ∃ g1 g2, u = .func (.func 23) #[] #[.pointer (some ⟨g1, 0, none⟩), .pointer (some ⟨g2, 0, none⟩)] ∧ Has w' g1 3 [.int .i64 k] ∧ Has w' g2 3 [.int .i64 x] ∧ Below w.heap.size w w') := by
  refine calls_qx (args := [.int .i64 k, .int .i64 x]) 6 Try.func22 rfl (by kernel_rfl) (by simp) (fun a hS => ?_)
  refine qx_seq (reg_seq ?_)
  refine seq_op hS (by decide) (runs_box rfl) (fun v1 w1 a1 hp1 hS => ?_)
  obtain ⟨rfl, hw1⟩ := hp1
  obtain ⟨hk, hB1⟩ : Has w1 w.heap.size 3 [.int .i64 k] ∧ Below w.heap.size w w1 := by rw [hw1]; exact new_box w 3 [.int .i64 k]
  clear hw1
  refine seq_op hS (by decide) (runs_box rfl) (fun v2 w2 a2 hp2 hS => ?_)
  obtain ⟨rfl, hw2⟩ := hp2
  obtain ⟨hx, hB2⟩ : Has w2 w1.heap.size 3 [.int .i64 x] ∧ Below w1.heap.size w1 w2 := by rw [hw2]; exact new_box w1 3 [.int .i64 x]
  clear hw2
  refine seq_is hS (by decide) (runs_assign rfl) (fun a1 hS => ?_)
  refine nil_ok (qx_seq (reg_seq ?_))
  refine seq_is hS (by decide) (runs_makeFunc (cs := [.pointer (some ⟨w.heap.size, 0, none⟩), .pointer (some ⟨w1.heap.size, 0, none⟩)]) rfl) (fun a1 hS => ?_)
  refine seq_is hS (by decide) (runs_assign rfl) (fun a1 hS => ?_)
  exact nil_ok (qx_ret (ret1 (t := 4) (by kernel_rfl) hS rfl ⟨_, rfl, _, _, rfl, hk.below hB2 hk.lt, hx, hB1.trans (hB2.mono hB1.size)⟩))
set_option maxHeartbeats 1000000 in
theorem picked_any (n : Nat) (hn : n ≤ 64) (k x : Int) (g1 g2 : Nat) (w : World) (h1 : Has w g1 3 [.int .i64 k]) (h2 : Has w g2 3 [.int .i64 x]) : Ans 21 [.int .i64 (n : Int), .func (.func 23) #[] #[.pointer (some ⟨g1, 0, none⟩), .pointer (some ⟨g2, 0, none⟩)]] w (fun u w' => w'.ownsRow w.heap.size 3 1 u (ofL n k x).length (ivs (ofL n k x)) ∧ Below w.heap.size w w') := by
  refine calls_qx (args := [.int .i64 (n : Int), .func (.func 23) #[] #[.pointer (some ⟨g1, 0, none⟩), .pointer (some ⟨g2, 0, none⟩)]]) 20 Try.func21 rfl (by kernel_rfl) (by simp) (fun a hS => ?_)
  refine qx_seq (reg_seq ?_)
  refine seq_is hS (by decide) (runs_assign rfl) (fun a1 hS => ?_)
  refine nil_ok (qx_seq (reg_seq ?_))
  refine seq_is hS (by decide) (runs_assign rfl) (fun a1 hS => ?_)
  refine nil_ok (qx_seq (qx_seq (reg_seq ?_)))
  refine seq_is hS (by decide) (runs_move rfl) (fun a1 hS => ?_)
  refine seq_is hS (by decide) (runs_move rfl) (fun a1 hS => ?_)
  refine nil_ok (qx_range (fun m a w' => ∃ (i : Nat) (sv : Value), i ≤ n ∧ m = n - i ∧ Below w.heap.size w w' ∧ w'.ownsRow w.heap.size 3 1 sv (ofL i k x).length (ivs (ofL i k x)) ∧ Sees 20 [(8, .int .i64 (i : Int)), (7, .int .i64 (n : Int)), (5, sv), (1, .func (.func 23) #[] #[.pointer (some ⟨g1, 0, none⟩), .pointer (some ⟨g2, 0, none⟩)])] a) n ⟨0, .slice none 0 0, by omega, by omega, Below.refl _ _, owns_empty _ _, hS.only _ ⟨rfl, rfl, rfl, rfl, trivial⟩⟩ ?_)
  clear hS
  rintro m a w' ⟨i, sv, hi, rfl, hB, hown, hS⟩
  have hlen := ofL_len i k x
  refine reg_seq ?_
  by_cases hlt : i < n
  · skip
    refine seq_is hS (by decide) (runs_lss (r := true) rfl rfl (by rw [decide_eq_true_eq]; omega)) (fun a1 hS => ?_)
    refine nil_ok ⟨_, hS.eval rfl, fun h => by simp at h, fun _ => ?_⟩
    refine qx_seq (qx_block (qx_seq (reg_seq ?_)))
    refine seq_is hS (by decide) (runs_move rfl) (fun a1 hS => ?_)
    refine seq_is hS (by decide) (runs_assign rfl) (fun a1 hS => ?_)
    refine nil_ok (qx_seq (reg_seq ?_))
    refine seq_is hS (by decide) (runs_move rfl) (fun a1 hS => ?_)
    refine seq_is hS (by decide) (runs_move rfl) (fun a1 hS => ?_)
    refine seq_op hS (by decide) (runs_callv (args := [.int .i64 (i : Int)]) (caps := [.pointer (some ⟨g1, 0, none⟩), .pointer (some ⟨g2, 0, none⟩)]) goes23 rfl rfl (asks_any (i : Int) k x g1 g2 w' (h1.below hB h1.lt) (h2.below hB h2.lt))) (fun v3 w3 a3 hp3 hS => ?_)
    obtain ⟨rfl, hB3⟩ := hp3
    have hown := owns_kept hown hB3
    have hB := hB.trans (hB3.mono hB.size)
    by_cases hq : own (i : Int) k = x
    · skip
      rw [show (own (i : Int) k == x) = true from beq_iff_eq.2 hq] at hS
      refine nil_ok (wp_cond_true (hS.eval rfl) (reg_seq ?_))
      refine seq_is hS (by decide) (runs_move rfl) (fun a1 hS => ?_)
      refine seq_is hS (by decide) (runs_move rfl) (fun a1 hS => ?_)
      refine seq_op hS (by decide) (runs_oneI rfl) (fun v4 w4 a4 hp4 hS => ?_)
      obtain ⟨g3, rfl, hX, hB4⟩ := hp4
      have hown := owns_kept hown hB4
      have hB := hB.trans (hB4.mono hB.size)
      refine seq_op hS (by decide) (push_own rfl hown rfl hX rfl (by omega) hB.size) (fun v5 w5 a5 hp5 hS => ?_)
      obtain ⟨hown5, hB5⟩ := hp5
      have hB := hB.trans hB5
      refine seq_is hS (by decide) (runs_assign rfl) (fun a1 hS => ?_)
      refine nil_ok (reg_seq ?_)
      refine seq_is hS (by decide) (runs_add (r := ((i + 1 : Nat) : Int)) rfl rfl (by simp [IntKind.wrap, IntKind.bits, IntKind.signed]; omega)) (fun a1 hS => ?_)
      refine seq_is hS (by decide) (runs_move rfl) (fun a1 hS => ?_)
      exact nil_ok ⟨_, by omega, i + 1, v5, by omega, rfl, hB, by rw [ofL_succ, if_pos hq, ivs_one, List.length_append]; exact hown5, hS.only _ ⟨rfl, rfl, rfl, rfl, trivial⟩⟩
    · skip
      rw [show (own (i : Int) k == x) = false from beq_eq_false_iff_ne.2 hq] at hS
      refine nil_ok (wp_cond_false (hS.eval rfl) (wp_skip (reg_seq ?_)))
      refine seq_is hS (by decide) (runs_add (r := ((i + 1 : Nat) : Int)) rfl rfl (by simp [IntKind.wrap, IntKind.bits, IntKind.signed]; omega)) (fun a1 hS => ?_)
      refine seq_is hS (by decide) (runs_move rfl) (fun a1 hS => ?_)
      exact nil_ok ⟨_, by omega, i + 1, sv, by omega, rfl, hB, by rw [ofL_succ, if_neg hq, List.append_nil]; exact hown, hS.only _ ⟨rfl, rfl, rfl, rfl, trivial⟩⟩
  · skip
    refine seq_is hS (by decide) (runs_lss (r := false) rfl rfl (by rw [decide_eq_false_iff_not]; omega)) (fun a1 hS => ?_)
    obtain rfl : i = n := by omega
    refine nil_ok ⟨_, hS.eval rfl, fun _ => ?_, fun h => by simp at h⟩
    refine qx_seq (reg_seq ?_)
    refine seq_is hS (by decide) (runs_move rfl) (fun a1 hS => ?_)
    refine seq_is hS (by decide) (runs_assign rfl) (fun a1 hS => ?_)
    exact nil_ok (qx_ret (ret1 (t := 4) (by kernel_rfl) hS rfl ⟨_, rfl, hown, hB⟩))
set_option maxHeartbeats 1000000 in
theorem rof_any (n : Nat) (hn : n ≤ 64) (k x : Int) (w : World) : Ans 18 [.int .i64 (n : Int), .int .i64 k, .int .i64 x] w (fun u w' => w'.ownsRow w.heap.size 3 1 u (ofL n k x).length (ivs (ofL n k x)) ∧ Below w.heap.size w w') := by
  refine calls_qx (args := [.int .i64 (n : Int), .int .i64 k, .int .i64 x]) 25 Try.func18 rfl (by kernel_rfl) (by simp) (fun a hS => ?_)
  refine qx_seq (reg_seq ?_)
  refine seq_is hS (by decide) (runs_assign rfl) (fun a1 hS => ?_)
  refine nil_ok (qx_seq (reg_seq ?_))
  refine seq_op hS (by decide) (none_own (Nat.le_refl _)) (fun v1 w1 a1 hp1 hS => ?_)
  obtain ⟨hown1, hB1⟩ := hp1
  refine seq_is hS (by decide) (runs_assign rfl) (fun a1 hS => ?_)
  refine nil_ok (qx_seq (qx_seq (reg_seq ?_)))
  refine seq_is hS (by decide) (runs_assign rfl) (fun a1 hS => ?_)
  refine nil_ok (qx_for (fun m a w' => ∃ (i : Nat) (sv : Value), i ≤ n ∧ m = n - i ∧ Below w.heap.size w w' ∧ w'.ownsRow w.heap.size 3 1 sv (ofL i k x).length (ivs (ofL i k x)) ∧ Sees 25 [(8, .int .i64 (i : Int)), (7, sv), (2, .int .i64 x), (1, .int .i64 k), (0, .int .i64 (n : Int))] a) n ⟨0, v1, by omega, by omega, hB1, hown1, hS.only _ ⟨rfl, rfl, rfl, rfl, rfl, trivial⟩⟩ ?_)
  clear hS hown1 hB1
  rintro m a w' ⟨i, sv, hi, rfl, hB, hown, hS⟩
  have hlen := ofL_len i k x
  refine reg_seq ?_
  refine seq_is hS (by decide) (runs_move rfl) (fun a1 hS => ?_)
  refine seq_is hS (by decide) (runs_move rfl) (fun a1 hS => ?_)
  by_cases hlt : i < n
  · skip
    refine seq_is hS (by decide) (runs_lss (r := true) rfl rfl (by rw [decide_eq_true_eq]; omega)) (fun a1 hS => ?_)
    refine nil_ok ⟨_, hS.eval rfl, fun h => by simp at h, fun _ => ?_⟩
    refine qx_seq (qx_block (qx_seq (reg_seq ?_)))
    refine seq_is hS (by decide) (runs_move rfl) (fun a1 hS => ?_)
    refine seq_is hS (by decide) (runs_move rfl) (fun a1 hS => ?_)
    refine seq_is hS (by decide) (runs_call (args := [.int .i64 (i : Int), .int .i64 k]) goes13 rfl (rown_any (i : Int) k (by omega) w')) (fun a1 hS => ?_)
    refine seq_is hS (by decide) (runs_move rfl) (fun a1 hS => ?_)
    by_cases hq : own (i : Int) k = x
    · skip
      refine seq_is hS (by decide) (runs_eql (r := true) rfl rfl (beq_iff_eq.2 hq)) (fun a1 hS => ?_)
      refine nil_ok (wp_cond_true (hS.eval rfl) (reg_seq ?_))
      refine seq_is hS (by decide) (runs_move rfl) (fun a1 hS => ?_)
      refine seq_is hS (by decide) (runs_move rfl) (fun a1 hS => ?_)
      refine seq_op hS (by decide) (runs_oneI rfl) (fun v4 w4 a4 hp4 hS => ?_)
      obtain ⟨g3, rfl, hX, hB4⟩ := hp4
      have hown := owns_kept hown hB4
      have hB := hB.trans (hB4.mono hB.size)
      refine seq_op hS (by decide) (push_own rfl hown rfl hX rfl (by omega) hB.size) (fun v5 w5 a5 hp5 hS => ?_)
      obtain ⟨hown5, hB5⟩ := hp5
      have hB := hB.trans hB5
      refine seq_is hS (by decide) (runs_assign rfl) (fun a1 hS => ?_)
      refine nil_ok (reg_seq ?_)
      refine seq_is hS (by decide) (runs_move rfl) (fun a1 hS => ?_)
      refine seq_is hS (by decide) (runs_add (r := ((i + 1 : Nat) : Int)) rfl rfl (by simp [IntKind.wrap, IntKind.bits, IntKind.signed]; omega)) (fun a1 hS => ?_)
      refine seq_is hS (by decide) (runs_assign rfl) (fun a1 hS => ?_)
      exact nil_ok ⟨_, by omega, i + 1, v5, by omega, rfl, hB, by rw [ofL_succ, if_pos hq, ivs_one, List.length_append]; exact hown5, hS.only _ ⟨rfl, rfl, rfl, rfl, rfl, trivial⟩⟩
    · skip
      refine seq_is hS (by decide) (runs_eql (r := false) rfl rfl (beq_eq_false_iff_ne.2 hq)) (fun a1 hS => ?_)
      refine nil_ok (wp_cond_false (hS.eval rfl) (wp_skip (reg_seq ?_)))
      refine seq_is hS (by decide) (runs_move rfl) (fun a1 hS => ?_)
      refine seq_is hS (by decide) (runs_add (r := ((i + 1 : Nat) : Int)) rfl rfl (by simp [IntKind.wrap, IntKind.bits, IntKind.signed]; omega)) (fun a1 hS => ?_)
      refine seq_is hS (by decide) (runs_assign rfl) (fun a1 hS => ?_)
      exact nil_ok ⟨_, by omega, i + 1, sv, by omega, rfl, hB, by rw [ofL_succ, if_neg hq, List.append_nil]; exact hown, hS.only _ ⟨rfl, rfl, rfl, rfl, rfl, trivial⟩⟩
  · skip
    refine seq_is hS (by decide) (runs_lss (r := false) rfl rfl (by rw [decide_eq_false_iff_not]; omega)) (fun a1 hS => ?_)
    obtain rfl : i = n := by omega
    refine nil_ok ⟨_, hS.eval rfl, fun _ => ?_, fun h => by simp at h⟩
    refine qx_seq (reg_seq ?_)
    refine seq_is hS (by decide) (runs_move rfl) (fun a1 hS => ?_)
    refine seq_is hS (by decide) (runs_assign rfl) (fun a1 hS => ?_)
    exact nil_ok (qx_ret (ret1 (t := 6) (by kernel_rfl) hS rfl ⟨_, rfl, hown, hB⟩))
set_option maxHeartbeats 1000000 in
theorem of_ok (n : Nat) (h1 : 1 ≤ n) (h2 : n ≤ 64) (k x : Int) (h3 : k ≤ 64) (h4 : 0 ≤ x) (h5 : x < k) (w : World) : Ans 14 [.int .i64 (n : Int), .int .i64 k, .int .i64 x] w (fun u w' => ∃ sv, u = .tuple #[sv, .int .i64 0] ∧ w'.ownsRow w.heap.size 3 1 sv (ofL n k x).length (ivs (ofL n k x)) ∧ Below w.heap.size w w') := by
  refine calls_qx (args := [.int .i64 (n : Int), .int .i64 k, .int .i64 x]) 26 Try.func14 rfl (by kernel_rfl) (by simp) (fun a hS => ?_)
  refine qx_seq (reg_seq ?_)
  refine seq_is hS (by decide) (runs_assign rfl) (fun a1 hS => ?_)
  refine seq_is hS (by decide) (runs_assign rfl) (fun a1 hS => ?_)
  refine nil_ok (qx_seq (qx_seq (reg_seq ?_)))
  have hr : right (n : Int) k = true := right_iff.2 ⟨by omega, by omega, by omega, by omega⟩
  refine seq_is hS (by decide) (runs_move rfl) (fun a1 hS => ?_)
  refine seq_is hS (by decide) (runs_move rfl) (fun a1 hS => ?_)
  refine seq_is hS (by decide) (runs_call (args := [.int .i64 (n : Int), .int .i64 k]) goes20 rfl (formed_is w hr)) (fun a1 hS => ?_)
  refine seq_is hS (by decide) (runs_not (b := true) rfl) (fun a1 hS => ?_)
  refine seq_is hS (by decide) (runs_move rfl) (fun a1 hS => ?_)
  refine seq_yis hS (by decide) rfl (by decide) rfl (runs_move rfl) (fun a1 hS => ?_)
  refine seq_yis hS (by decide) rfl (by decide) rfl (runs_lss (r := false) rfl rfl (by rw [decide_eq_false_iff_not]; omega)) (fun a1 hS => ?_)
  refine seq_is hS (by decide) (runs_pick rfl rfl) (fun a1 hS => ?_)
  refine seq_is hS (by decide) (runs_move rfl) (fun a1 hS => ?_)
  refine seq_yis hS (by decide) rfl (by decide) rfl (runs_move rfl) (fun a1 hS => ?_)
  refine seq_yis hS (by decide) rfl (by decide) rfl (runs_move rfl) (fun a1 hS => ?_)
  refine seq_yis hS (by decide) rfl (by decide) rfl (runs_geq (r := false) rfl rfl (by rw [decide_eq_false_iff_not]; omega)) (fun a1 hS => ?_)
  refine seq_is hS (by decide) (runs_pick rfl rfl) (fun a1 hS => ?_)
  refine nil_ok (wp_cond_false (hS.eval rfl) (wp_skip (qx_seq (reg_seq ?_))))
  refine seq_is hS (by decide) (runs_move rfl) (fun a1 hS => ?_)
  refine seq_is hS (by decide) (runs_move rfl) (fun a1 hS => ?_)
  refine seq_is hS (by decide) (runs_move rfl) (fun a1 hS => ?_)
  refine seq_op hS (by decide) (runs_call (args := [.int .i64 k, .int .i64 x]) goes22 rfl (owned_any k x w)) (fun v1 w1 a1 hp1 hS => ?_)
  obtain ⟨g1, g2, rfl, hg1, hg2, hB1⟩ := hp1
  refine seq_op hS (by decide) (runs_call (args := [.int .i64 (n : Int), .func (.func 23) #[] #[.pointer (some ⟨g1, 0, none⟩), .pointer (some ⟨g2, 0, none⟩)]]) goes21 rfl (picked_any n (by omega) k x g1 g2 w1 hg1 hg2)) (fun v2 w2 a2 hp2 hS => ?_)
  obtain ⟨hown, hB2⟩ := hp2
  refine seq_is hS (by decide) (runs_assign rfl) (fun a1 hS => ?_)
  refine seq_is hS (by decide) (runs_assign rfl) (fun a1 hS => ?_)
  exact nil_ok (qx_ret (ret2 (t := 6) (u := 7) (by kernel_rfl) hS rfl rfl ⟨_, rfl, v2, rfl, owns_mono hown hB1.size, hB1.trans (hB2.mono hB1.size)⟩))
set_option maxHeartbeats 1000000 in
theorem of_bad (n k x : Int) (h : right n k = false ∨ x < 0 ∨ x ≥ k) (w : World) : Ans 14 [.int .i64 n, .int .i64 k, .int .i64 x] w (Is (.tuple #[.slice none 0 0, .int .i64 60]) w) := by
  refine calls_qx (args := [.int .i64 n, .int .i64 k, .int .i64 x]) 26 Try.func14 rfl (by kernel_rfl) (by simp) (fun a hS => ?_)
  refine qx_seq (reg_seq ?_)
  refine seq_is hS (by decide) (runs_assign rfl) (fun a1 hS => ?_)
  refine seq_is hS (by decide) (runs_assign rfl) (fun a1 hS => ?_)
  refine nil_ok (qx_seq (qx_seq (reg_seq ?_)))
  refine seq_is hS (by decide) (runs_move rfl) (fun a1 hS => ?_)
  refine seq_is hS (by decide) (runs_move rfl) (fun a1 hS => ?_)
  by_cases h1 : right n k = true
  · skip
    refine seq_is hS (by decide) (runs_call (args := [.int .i64 n, .int .i64 k]) goes20 rfl (formed_is w h1)) (fun a1 hS => ?_)
    refine seq_is hS (by decide) (runs_not (b := true) rfl) (fun a1 hS => ?_)
    refine seq_is hS (by decide) (runs_move rfl) (fun a1 hS => ?_)
    refine seq_yis hS (by decide) rfl (by decide) rfl (runs_move rfl) (fun a1 hS => ?_)
    by_cases h2 : x < 0
    · skip
      refine seq_yis hS (by decide) rfl (by decide) rfl (runs_lss (r := true) rfl rfl (by rw [decide_eq_true_eq]; omega)) (fun a1 hS => ?_)
      refine seq_is hS (by decide) (runs_pick rfl rfl) (fun a1 hS => ?_)
      refine seq_is hS (by decide) (runs_move rfl) (fun a1 hS => ?_)
      refine seq_no hS (by decide) rfl (by decide) rfl rfl (fun a1 hS => ?_)
      refine seq_no hS (by decide) rfl (by decide) rfl rfl (fun a1 hS => ?_)
      refine seq_no hS (by decide) rfl (by decide) rfl rfl (fun a1 hS => ?_)
      refine seq_is hS (by decide) (runs_pick rfl rfl) (fun a1 hS => ?_)
      refine nil_ok (wp_cond_true (hS.eval rfl) (qx_seq (reg_seq ?_)))
      refine seq_is hS (by decide) (runs_assign rfl) (fun a1 hS => ?_)
      refine seq_is hS (by decide) (runs_assign rfl) (fun a1 hS => ?_)
      exact nil_ok (qx_ret (ret2 (t := 6) (u := 7) (by kernel_rfl) hS rfl rfl ⟨_, rfl, rfl, rfl⟩))
    · skip
      refine seq_yis hS (by decide) rfl (by decide) rfl (runs_lss (r := false) rfl rfl (by rw [decide_eq_false_iff_not]; omega)) (fun a1 hS => ?_)
      refine seq_is hS (by decide) (runs_pick rfl rfl) (fun a1 hS => ?_)
      refine seq_is hS (by decide) (runs_move rfl) (fun a1 hS => ?_)
      refine seq_yis hS (by decide) rfl (by decide) rfl (runs_move rfl) (fun a1 hS => ?_)
      refine seq_yis hS (by decide) rfl (by decide) rfl (runs_move rfl) (fun a1 hS => ?_)
      by_cases h3 : x ≥ k
      · skip
        refine seq_yis hS (by decide) rfl (by decide) rfl (runs_geq (r := true) rfl rfl (by rw [decide_eq_true_eq]; omega)) (fun a1 hS => ?_)
        refine seq_is hS (by decide) (runs_pick rfl rfl) (fun a1 hS => ?_)
        refine nil_ok (wp_cond_true (hS.eval rfl) (qx_seq (reg_seq ?_)))
        refine seq_is hS (by decide) (runs_assign rfl) (fun a1 hS => ?_)
        refine seq_is hS (by decide) (runs_assign rfl) (fun a1 hS => ?_)
        exact nil_ok (qx_ret (ret2 (t := 6) (u := 7) (by kernel_rfl) hS rfl rfl ⟨_, rfl, rfl, rfl⟩))
      · skip
        refine seq_yis hS (by decide) rfl (by decide) rfl (runs_geq (r := false) rfl rfl (by rw [decide_eq_false_iff_not]; omega)) (fun a1 hS => ?_)
        refine seq_is hS (by decide) (runs_pick rfl rfl) (fun a1 hS => ?_)
        rcases h with h | h | h <;> first | omega | (rw [h1] at h; cases h)
  · skip
    refine seq_is hS (by decide) (runs_call (args := [.int .i64 n, .int .i64 k]) goes20 rfl (formed_is w (Bool.eq_false_iff.2 h1))) (fun a1 hS => ?_)
    refine seq_is hS (by decide) (runs_not (b := false) rfl) (fun a1 hS => ?_)
    refine seq_is hS (by decide) (runs_move rfl) (fun a1 hS => ?_)
    refine seq_no hS (by decide) rfl (by decide) rfl rfl (fun a1 hS => ?_)
    refine seq_no hS (by decide) rfl (by decide) rfl rfl (fun a1 hS => ?_)
    refine seq_is hS (by decide) (runs_pick rfl rfl) (fun a1 hS => ?_)
    refine seq_is hS (by decide) (runs_move rfl) (fun a1 hS => ?_)
    refine seq_no hS (by decide) rfl (by decide) rfl rfl (fun a1 hS => ?_)
    refine seq_no hS (by decide) rfl (by decide) rfl rfl (fun a1 hS => ?_)
    refine seq_no hS (by decide) rfl (by decide) rfl rfl (fun a1 hS => ?_)
    refine seq_is hS (by decide) (runs_pick rfl rfl) (fun a1 hS => ?_)
    refine nil_ok (wp_cond_true (hS.eval rfl) (qx_seq (reg_seq ?_)))
    refine seq_is hS (by decide) (runs_assign rfl) (fun a1 hS => ?_)
    refine seq_is hS (by decide) (runs_assign rfl) (fun a1 hS => ?_)
    exact nil_ok (qx_ret (ret2 (t := 6) (u := 7) (by kernel_rfl) hS rfl rfl ⟨_, rfl, rfl, rfl⟩))
set_option maxHeartbeats 1000000 in
theorem place_ok (n k : Int) (hr : right n k = true) (v : Nat) (hv : (v : Int) < n) (w : World) : Ans 15 [.int .i64 n, .int .i64 k, .int .i64 (v : Int)] w (fun u w' => u = .tuple #[.int .i64 (own (v : Int) k), .int .i64 (((ofL v k (own (v : Int) k)).length : Nat) : Int), .int .i64 0] ∧ Below w.heap.size w w') := by
  refine calls_qx (args := [.int .i64 n, .int .i64 k, .int .i64 (v : Int)]) 33 Try.func15 rfl (by kernel_rfl) (by simp) (fun a hS => ?_)
  refine qx_seq (reg_seq ?_)
  refine seq_is hS (by decide) (runs_assign rfl) (fun a1 hS => ?_)
  refine seq_is hS (by decide) (runs_assign rfl) (fun a1 hS => ?_)
  refine seq_is hS (by decide) (runs_assign rfl) (fun a1 hS => ?_)
  refine nil_ok (qx_seq (qx_seq (reg_seq ?_)))
  obtain ⟨r1, r2, r3, r4⟩ := right_iff.1 hr
  refine seq_is hS (by decide) (runs_move rfl) (fun a1 hS => ?_)
  refine seq_is hS (by decide) (runs_move rfl) (fun a1 hS => ?_)
  refine seq_is hS (by decide) (runs_call (args := [.int .i64 n, .int .i64 k]) goes20 rfl (formed_is w hr)) (fun a1 hS => ?_)
  refine seq_is hS (by decide) (runs_not (b := true) rfl) (fun a1 hS => ?_)
  refine seq_is hS (by decide) (runs_move rfl) (fun a1 hS => ?_)
  refine seq_yis hS (by decide) rfl (by decide) rfl (runs_move rfl) (fun a1 hS => ?_)
  refine seq_yis hS (by decide) rfl (by decide) rfl (runs_lss (r := false) rfl rfl (by rw [decide_eq_false_iff_not]; omega)) (fun a1 hS => ?_)
  refine seq_is hS (by decide) (runs_pick rfl rfl) (fun a1 hS => ?_)
  refine seq_is hS (by decide) (runs_move rfl) (fun a1 hS => ?_)
  refine seq_yis hS (by decide) rfl (by decide) rfl (runs_move rfl) (fun a1 hS => ?_)
  refine seq_yis hS (by decide) rfl (by decide) rfl (runs_move rfl) (fun a1 hS => ?_)
  refine seq_yis hS (by decide) rfl (by decide) rfl (runs_geq (r := false) rfl rfl (by rw [decide_eq_false_iff_not]; omega)) (fun a1 hS => ?_)
  refine seq_is hS (by decide) (runs_pick rfl rfl) (fun a1 hS => ?_)
  refine nil_ok (wp_cond_false (hS.eval rfl) (wp_skip (qx_seq (reg_seq ?_))))
  refine seq_is hS (by decide) (runs_move rfl) (fun a1 hS => ?_)
  refine seq_is hS (by decide) (runs_move rfl) (fun a1 hS => ?_)
  refine seq_is hS (by decide) (runs_call (args := [.int .i64 (v : Int), .int .i64 k]) goes12 rfl (own_any (v : Int) k w)) (fun a1 hS => ?_)
  refine seq_is hS (by decide) (runs_assign rfl) (fun a1 hS => ?_)
  refine nil_ok (qx_seq (reg_seq ?_))
  refine seq_is hS (by decide) (runs_move rfl) (fun a1 hS => ?_)
  refine seq_is hS (by decide) (runs_move rfl) (fun a1 hS => ?_)
  refine seq_is hS (by decide) (runs_move rfl) (fun a1 hS => ?_)
  refine seq_is hS (by decide) (runs_move rfl) (fun a1 hS => ?_)
  refine seq_op hS (by decide) (runs_call (args := [.int .i64 k, .int .i64 (own (v : Int) k)]) goes22 rfl (owned_any k (own (v : Int) k) w)) (fun v1 w1 a1 hp1 hS => ?_)
  obtain ⟨g1, g2, rfl, hg1, hg2, hB1⟩ := hp1
  refine seq_op hS (by decide) (runs_call (args := [.int .i64 (v : Int), .func (.func 23) #[] #[.pointer (some ⟨g1, 0, none⟩), .pointer (some ⟨g2, 0, none⟩)]]) goes21 rfl (picked_any v (by omega) k (own (v : Int) k) g1 g2 w1 hg1 hg2)) (fun v2 w2 a2 hp2 hS => ?_)
  obtain ⟨hown, hB2⟩ := hp2
  obtain ⟨A, c, rfl⟩ := owns_slice hown
  refine seq_is hS (by decide) (runs_len rfl und27) (fun a1 hS => ?_)
  refine seq_is hS (by decide) (runs_assign rfl) (fun a1 hS => ?_)
  refine seq_is hS (by decide) (runs_assign rfl) (fun a1 hS => ?_)
  refine seq_is hS (by decide) (runs_assign rfl) (fun a1 hS => ?_)
  exact nil_ok (qx_ret (ret3 (t := 6) (u := 7) (r := 8) (by kernel_rfl) hS rfl rfl rfl ⟨_, rfl, rfl, hB1.trans (hB2.mono hB1.size)⟩))
set_option maxHeartbeats 1000000 in
theorem place_bad (n k v : Int) (h : right n k = false ∨ v < 0 ∨ v ≥ n) (w : World) : Ans 15 [.int .i64 n, .int .i64 k, .int .i64 v] w (Is (.tuple #[.int .i64 0, .int .i64 0, .int .i64 60]) w) := by
  refine calls_qx (args := [.int .i64 n, .int .i64 k, .int .i64 v]) 33 Try.func15 rfl (by kernel_rfl) (by simp) (fun a hS => ?_)
  refine qx_seq (reg_seq ?_)
  refine seq_is hS (by decide) (runs_assign rfl) (fun a1 hS => ?_)
  refine seq_is hS (by decide) (runs_assign rfl) (fun a1 hS => ?_)
  refine seq_is hS (by decide) (runs_assign rfl) (fun a1 hS => ?_)
  refine nil_ok (qx_seq (qx_seq (reg_seq ?_)))
  refine seq_is hS (by decide) (runs_move rfl) (fun a1 hS => ?_)
  refine seq_is hS (by decide) (runs_move rfl) (fun a1 hS => ?_)
  by_cases h1 : right n k = true
  · skip
    refine seq_is hS (by decide) (runs_call (args := [.int .i64 n, .int .i64 k]) goes20 rfl (formed_is w h1)) (fun a1 hS => ?_)
    refine seq_is hS (by decide) (runs_not (b := true) rfl) (fun a1 hS => ?_)
    refine seq_is hS (by decide) (runs_move rfl) (fun a1 hS => ?_)
    refine seq_yis hS (by decide) rfl (by decide) rfl (runs_move rfl) (fun a1 hS => ?_)
    by_cases h2 : v < 0
    · skip
      refine seq_yis hS (by decide) rfl (by decide) rfl (runs_lss (r := true) rfl rfl (by rw [decide_eq_true_eq]; omega)) (fun a1 hS => ?_)
      refine seq_is hS (by decide) (runs_pick rfl rfl) (fun a1 hS => ?_)
      refine seq_is hS (by decide) (runs_move rfl) (fun a1 hS => ?_)
      refine seq_no hS (by decide) rfl (by decide) rfl rfl (fun a1 hS => ?_)
      refine seq_no hS (by decide) rfl (by decide) rfl rfl (fun a1 hS => ?_)
      refine seq_no hS (by decide) rfl (by decide) rfl rfl (fun a1 hS => ?_)
      refine seq_is hS (by decide) (runs_pick rfl rfl) (fun a1 hS => ?_)
      refine nil_ok (wp_cond_true (hS.eval rfl) (qx_seq (reg_seq ?_)))
      refine seq_is hS (by decide) (runs_assign rfl) (fun a1 hS => ?_)
      refine seq_is hS (by decide) (runs_assign rfl) (fun a1 hS => ?_)
      refine seq_is hS (by decide) (runs_assign rfl) (fun a1 hS => ?_)
      exact nil_ok (qx_ret (ret3 (t := 6) (u := 7) (r := 8) (by kernel_rfl) hS rfl rfl rfl ⟨_, rfl, rfl, rfl⟩))
    · skip
      refine seq_yis hS (by decide) rfl (by decide) rfl (runs_lss (r := false) rfl rfl (by rw [decide_eq_false_iff_not]; omega)) (fun a1 hS => ?_)
      refine seq_is hS (by decide) (runs_pick rfl rfl) (fun a1 hS => ?_)
      refine seq_is hS (by decide) (runs_move rfl) (fun a1 hS => ?_)
      refine seq_yis hS (by decide) rfl (by decide) rfl (runs_move rfl) (fun a1 hS => ?_)
      refine seq_yis hS (by decide) rfl (by decide) rfl (runs_move rfl) (fun a1 hS => ?_)
      by_cases h3 : v ≥ n
      · skip
        refine seq_yis hS (by decide) rfl (by decide) rfl (runs_geq (r := true) rfl rfl (by rw [decide_eq_true_eq]; omega)) (fun a1 hS => ?_)
        refine seq_is hS (by decide) (runs_pick rfl rfl) (fun a1 hS => ?_)
        refine nil_ok (wp_cond_true (hS.eval rfl) (qx_seq (reg_seq ?_)))
        refine seq_is hS (by decide) (runs_assign rfl) (fun a1 hS => ?_)
        refine seq_is hS (by decide) (runs_assign rfl) (fun a1 hS => ?_)
        refine seq_is hS (by decide) (runs_assign rfl) (fun a1 hS => ?_)
        exact nil_ok (qx_ret (ret3 (t := 6) (u := 7) (r := 8) (by kernel_rfl) hS rfl rfl rfl ⟨_, rfl, rfl, rfl⟩))
      · skip
        refine seq_yis hS (by decide) rfl (by decide) rfl (runs_geq (r := false) rfl rfl (by rw [decide_eq_false_iff_not]; omega)) (fun a1 hS => ?_)
        refine seq_is hS (by decide) (runs_pick rfl rfl) (fun a1 hS => ?_)
        rcases h with h | h | h <;> first | omega | (rw [h1] at h; cases h)
  · skip
    refine seq_is hS (by decide) (runs_call (args := [.int .i64 n, .int .i64 k]) goes20 rfl (formed_is w (Bool.eq_false_iff.2 h1))) (fun a1 hS => ?_)
    refine seq_is hS (by decide) (runs_not (b := false) rfl) (fun a1 hS => ?_)
    refine seq_is hS (by decide) (runs_move rfl) (fun a1 hS => ?_)
    refine seq_no hS (by decide) rfl (by decide) rfl rfl (fun a1 hS => ?_)
    refine seq_no hS (by decide) rfl (by decide) rfl rfl (fun a1 hS => ?_)
    refine seq_is hS (by decide) (runs_pick rfl rfl) (fun a1 hS => ?_)
    refine seq_is hS (by decide) (runs_move rfl) (fun a1 hS => ?_)
    refine seq_no hS (by decide) rfl (by decide) rfl rfl (fun a1 hS => ?_)
    refine seq_no hS (by decide) rfl (by decide) rfl rfl (fun a1 hS => ?_)
    refine seq_no hS (by decide) rfl (by decide) rfl rfl (fun a1 hS => ?_)
    refine seq_is hS (by decide) (runs_pick rfl rfl) (fun a1 hS => ?_)
    refine nil_ok (wp_cond_true (hS.eval rfl) (qx_seq (reg_seq ?_)))
    refine seq_is hS (by decide) (runs_assign rfl) (fun a1 hS => ?_)
    refine seq_is hS (by decide) (runs_assign rfl) (fun a1 hS => ?_)
    refine seq_is hS (by decide) (runs_assign rfl) (fun a1 hS => ?_)
    exact nil_ok (qx_ret (ret3 (t := 6) (u := 7) (r := 8) (by kernel_rfl) hS rfl rfl rfl ⟨_, rfl, rfl, rfl⟩))
set_option maxHeartbeats 1000000 in
theorem row_same (l : List Nat) (hl : l.length ≤ 1000) (u v : Value) (B B' : Nat) (w : World) (ha : w.ownsRow B 3 1 u l.length (ivs l)) (hb : w.ownsRow B' 3 1 v l.length (ivs l)) : Ans 17 [u, v] w (fun r w' => r = .bool true ∧ Below w.heap.size w w') := by
  obtain ⟨A, c, rfl⟩ := owns_slice ha
  obtain ⟨A', c', rfl⟩ := owns_slice hb
  refine calls_qx (args := [.slice A l.length c, .slice A' l.length c']) 26 Try.func17 rfl (by kernel_rfl) (by simp) (fun a hS => ?_)
  refine qx_seq (reg_seq ?_)
  refine seq_is hS (by decide) (runs_assign rfl) (fun a1 hS => ?_)
  refine nil_ok (qx_seq (qx_seq (reg_seq ?_)))
  refine seq_is hS (by decide) (runs_move rfl) (fun a1 hS => ?_)
  refine seq_is hS (by decide) (runs_len rfl und27) (fun a1 hS => ?_)
  refine seq_is hS (by decide) (runs_move rfl) (fun a1 hS => ?_)
  refine seq_is hS (by decide) (runs_len rfl und27) (fun a1 hS => ?_)
  refine seq_is hS (by decide) (runs_neq (r := false) rfl rfl (by first | rfl | (simp; done) | (simp; omega))) (fun a1 hS => ?_)
  refine nil_ok (wp_cond_false (hS.eval rfl) (wp_skip (qx_seq (qx_seq (reg_seq ?_)))))
  refine seq_is hS (by decide) (runs_assign rfl) (fun a1 hS => ?_)
  refine nil_ok (qx_for (fun m a w' => ∃ i : Nat, i ≤ l.length ∧ m = l.length - i ∧ Below w.heap.size w w' ∧ Sees 26 [(5, .int .i64 (i : Int)), (0, .slice A l.length c), (1, .slice A' l.length c')] a) l.length ⟨0, by omega, by omega, Below.refl _ _, hS.only _ ⟨rfl, rfl, rfl, trivial⟩⟩ ?_)
  clear hS
  rintro m a w' ⟨i, hi, rfl, hB, hS⟩
  refine reg_seq ?_
  refine seq_is hS (by decide) (runs_move rfl) (fun a1 hS => ?_)
  refine seq_is hS (by decide) (runs_move rfl) (fun a1 hS => ?_)
  refine seq_is hS (by decide) (runs_len rfl und27) (fun a1 hS => ?_)
  by_cases hlt : i < l.length
  · skip
    refine seq_is hS (by decide) (runs_lss (r := true) rfl rfl (by rw [decide_eq_true_eq]; omega)) (fun a1 hS => ?_)
    obtain ⟨g, c1, e1, _, hg, hr⟩ := owns_at ha (by omega)
    obtain ⟨g', c2, e2, _, hg', hr'⟩ := owns_at hb (by omega)
    simp only [Value.slice.injEq, true_and] at e1 e2
    obtain ⟨rfl, rfl⟩ := e1
    obtain ⟨rfl, rfl⟩ := e2
    obtain ⟨x, hx⟩ : ∃ x, l[i]? = some x := ⟨_, List.getElem?_eq_getElem hlt⟩
    have hc : ∀ w2, Below w'.heap.size w' w2 → w2.cell? ⟨g, 0 + i, none⟩ = some (.int .i64 (x : Int)) := fun w2 h => range_below hr (hB.trans (h.mono hB.size)) hg i _ (ivs_get hx)
    have hc' : ∀ w2, Below w'.heap.size w' w2 → w2.cell? ⟨g', 0 + i, none⟩ = some (.int .i64 (x : Int)) := fun w2 h => range_below hr' (hB.trans (h.mono hB.size)) hg' i _ (ivs_get hx)
    refine nil_ok ⟨_, hS.eval rfl, fun h => by simp at h, fun _ => ?_⟩
    refine qx_seq (qx_block ?_)
    refine qx_seq (reg_guard (fun w2 => Below w'.heap.size w' w2) [.inl (.slice (some ⟨g, 0, none⟩) l.length c), .inl (.int .i64 (i : Int)), .inl (.pointer (some ⟨g, 0 + i, none⟩)), .inl (.int .i64 (x : Int)), .inl (.slice (some ⟨g', 0, none⟩) l.length c'), .inl (.int .i64 (i : Int)), .inl (.pointer (some ⟨g', 0 + i, none⟩)), .inl (.int .i64 (x : Int)), .inl (.bool false)] 9 0 mixed rfl (by kernel_rfl) hS (Below.refl _ _) (fun _ h => h.drew) ?_)
    refine hs_is rfl (fun w' hw => runs_move rfl) ?_
    refine hs_is rfl (fun w' hw => runs_move rfl) ?_
    refine hs_is rfl (fun w' hw => runs_indexAddr (j := i) rfl rfl und27 siz3 rfl hlt) ?_
    refine hs_is rfl (fun w' hw => runs_load rfl (by kernel_rfl) (hc _ hw)) ?_
    refine hs_is rfl (fun w' hw => runs_move rfl) ?_
    refine hs_is rfl (fun w' hw => runs_move rfl) ?_
    refine hs_is rfl (fun w' hw => runs_indexAddr (j := i) rfl rfl und27 siz3 rfl hlt) ?_
    refine hs_is rfl (fun w' hw => runs_load rfl (by kernel_rfl) (hc' _ hw)) ?_
    refine hs_is rfl (fun w' hw => runs_neq (r := false) rfl rfl (by first | rfl | (simp; done) | (simp; omega))) ?_
    refine (fun a5 w5 hS5 hB5 _ => ?_)
    refine wpAnyH_done (by kernel_rfl) ?_ _
    have hB := hB.trans (hB5.mono hB.size)
    have hS := hS5
    refine wp_cond_false (hS.eval rfl) (wp_skip ?_)
    refine reg_seq ?_
    refine seq_is hS (by decide) (runs_move rfl) (fun a1 hS => ?_)
    refine seq_is hS (by decide) (runs_add (r := ((i + 1 : Nat) : Int)) rfl rfl (by simp [IntKind.wrap, IntKind.bits, IntKind.signed]; omega)) (fun a1 hS => ?_)
    refine seq_is hS (by decide) (runs_assign rfl) (fun a1 hS => ?_)
    exact nil_ok ⟨_, by omega, i + 1, by omega, rfl, hB, hS.only _ ⟨rfl, rfl, rfl, trivial⟩⟩
  · skip
    refine seq_is hS (by decide) (runs_lss (r := false) rfl rfl (by rw [decide_eq_false_iff_not]; omega)) (fun a1 hS => ?_)
    refine nil_ok ⟨_, hS.eval rfl, fun _ => ?_, fun h => by simp at h⟩
    refine qx_seq (reg_seq ?_)
    refine seq_is hS (by decide) (runs_assign rfl) (fun a1 hS => ?_)
    exact nil_ok (qx_ret (ret1 (t := 4) (by kernel_rfl) hS rfl ⟨_, rfl, rfl, hB⟩))
end Go.Proofs.Ytfomkgppdcghgaa
