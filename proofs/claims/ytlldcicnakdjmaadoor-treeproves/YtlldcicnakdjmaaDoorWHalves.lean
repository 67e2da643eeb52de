/- The walk of TreeHalves. Conditions: the table of constants lies as it was laid. -/
import Derived.Test.YtlldcicnakdjmaaDoorTAwake
namespace Go.Proofs.YtlldcicnakdjmaaDoor
open Go.RowKit

theorem goes13 : Goes Tryd.prog 13 := goes_of Tryd.func13 (by kernel_rfl) rfl
theorem awake_call (w : World) (hk : Kept w) : Calls Tryd.prog 12 ([] : List Value).toArray w fun e w' => ∃ v, e = .returned v ∧ v = .bool true ∧ Below w.heap.size w w' := bool_call (awake_any w hk)
theorem half_call (n : Int) (w : World) (hn : n ≤ 4294967296) : Calls Tryd.prog 22 [Value.int .i64 n].toArray w fun e w' => ∃ v, e = .returned v ∧ Is (.int .i64 ((halfZ n : Nat) : Int)) w v w' := (half_any n w hn).mono (by rintro e w' ⟨rfl, rfl⟩; exact ⟨_, rfl, rfl, rfl⟩)
noncomputable def blk8 (id : Nat) : Code := ((Tryd.f8.body.bind (blockIn id)).getD .skip)
theorem halves_loop (N R : Act → World → Prop) (X : Nat → Act → World → Prop) (v0 v3 : Value) (q : Nat) (w : World) (a : Act) (hq : q ≤ 40) (hS : Sees 49 [(4, .int .i64 ((2 ^ q : Nat) : Int)), (3, v3), (0, v0)] a)
    (h : ∀ a', Sees 49 [(4, .int .i64 1), (3, v3), (0, v0)] a' → N a' w) : (blk8 0).wp Tryd.prog (Qx N X R) a w := by
  refine qx_for (fun m a w' => ∃ j, j ≤ q ∧ m = j ∧ w' = w ∧ Sees 49 [(4, .int .i64 ((2 ^ j : Nat) : Int)), (3, v3), (0, v0)] a) q ⟨q, Nat.le_refl _, rfl, rfl, hS⟩ ?_
  rintro m a w' ⟨j, hj, hm, rfl, hS⟩
  have hpl : 2 ^ j ≤ 2 ^ 40 := Nat.pow_le_pow_right (by omega) (by omega)
  refine reg_seq ?_
  refine seq_is hS (by decide) (runs_move rfl) (fun a1 hS => ?_)
  cases j with
  | zero =>
    refine seq_is hS (by decide) (runs_gtr (r := false) rfl rfl (by simp)) (fun a1 hS => ?_)
    refine seq_is hS (by decide) (runs_move rfl) (fun a1 hS => ?_)
    refine seq_no hS (by decide) rfl (by decide) rfl rfl (fun a1 hS => ?_)
    refine seq_no hS (by decide) rfl (by decide) rfl rfl (fun a1 hS => ?_)
    refine seq_no hS (by decide) rfl (by decide) rfl rfl (fun a1 hS => ?_)
    refine seq_is hS (by decide) (runs_pick rfl rfl) (fun a1 hS => ?_)
    exact nil_ok ⟨_, hS.eval rfl, fun _ => h _ (hS.only _ ⟨rfl, rfl, rfl, trivial⟩), fun h => by simp at h⟩
  | succ j =>
    have hp : 2 ^ (j + 1) = 2 * 2 ^ j := by rw [Nat.pow_succ, Nat.mul_comm]
    have hp0 : 0 < 2 ^ j := Nat.pow_pos (by omega)
    refine seq_is hS (by decide) (runs_gtr (r := true) rfl rfl (by rw [decide_eq_true_eq]; omega)) (fun a1 hS => ?_)
    refine seq_is hS (by decide) (runs_move rfl) (fun a1 hS => ?_)
    refine seq_yis hS (by decide) rfl (by decide) rfl (runs_move rfl) (fun a1 hS => ?_)
    refine seq_yis hS (by decide) rfl (by decide) rfl (runs_rem (r := 0) rfl rfl (by decide) (by rw [Int.tmod_eq_emod_of_nonneg (by omega)]; omega)) (fun a1 hS => ?_)
    refine seq_yis hS (by decide) rfl (by decide) rfl (runs_eql (r := true) rfl rfl rfl) (fun a1 hS => ?_)
    refine seq_is hS (by decide) (runs_pick rfl rfl) (fun a1 hS => ?_)
    refine nil_ok ⟨_, hS.eval rfl, fun h => by simp at h, fun _ => ?_⟩
    refine qx_block (reg_seq ?_)
    refine seq_is hS (by decide) (runs_move rfl) (fun a1 hS => ?_)
    refine seq_is hS (by decide) (runs_quo (r := ((2 ^ j : Nat) : Int)) rfl rfl (by decide) (by
      rw [Int.tdiv_eq_ediv_of_nonneg (by omega), show ((2 ^ (j + 1) : Nat) : Int) / 2 = ((2 ^ j : Nat) : Int) by omega]
      exact IntWalk.i64_in _ (by omega))) (fun a1 hS => ?_)
    refine seq_is hS (by decide) (runs_assign rfl) (fun a1 hS => ?_)
    exact nil_ok ⟨j, by omega, j, by omega, rfl, rfl, hS.only _ ⟨rfl, rfl, rfl, trivial⟩⟩
set_option maxRecDepth 100000 in
set_option maxHeartbeats 1000000 in
theorem halves_walk (n : Int) (w : World) (hk : Kept w) : Calls Tryd.prog 8 #[.int .i64 n] w fun e w' => e = .returned (.bool true) ∧ Below w.heap.size w w' := by
  refine calls_qx (args := [.int .i64 n]) 49 Tryd.func8 rfl (by kernel_rfl) (by simp) (fun a hS => ?_)
  refine qx_seq (reg_seq ?_)
  refine seq_is hS (by decide) (runs_assign rfl) (fun a1 hS => ?_)
  refine nil_ok (qx_seq (qx_seq (reg_seq ?_)))
  refine seq_is hS (by decide) (runs_move rfl) (fun a1 hS => ?_)
  by_cases h2 : n < 2
  · refine seq_is hS (by decide) (runs_lss (r := true) rfl rfl (by simpa using h2)) (fun a1 hS => ?_)
    refine seq_is hS (by decide) (runs_move rfl) (fun a1 hS => ?_)
    refine seq_no hS (by decide) rfl (by decide) rfl rfl (fun a1 hS => ?_)
    refine seq_no hS (by decide) rfl (by decide) rfl rfl (fun a1 hS => ?_)
    refine seq_is hS (by decide) (runs_pick rfl rfl) (fun a1 hS => ?_)
    refine nil_ok (wp_cond_true (hS.eval rfl) (qx_seq (reg_seq ?_)))
    refine seq_op hS (by decide) (runs_call (args := []) goes12 rfl (awake_call w hk)) (fun v1 w1 a1 hp1 hS => ?_)
    obtain ⟨rfl, hB1⟩ := hp1
    refine seq_is hS (by decide) (runs_move rfl) (fun a1 hS => ?_)
    refine seq_yis hS (by decide) rfl (by decide) rfl (runs_move rfl) (fun a1 hS => ?_)
    refine seq_yis hS (by decide) rfl (by decide) rfl (runs_geq (r := false) rfl rfl (by simpa using h2)) (fun a1 hS => ?_)
    refine seq_yis hS (by decide) rfl (by decide) rfl (runs_move rfl) (fun a1 hS => ?_)
    refine seq_yis hS (by decide) rfl (by decide) rfl (runs_move rfl) (fun a1 hS => ?_)
    have hh := half_call n w1 (by omega)
    rw [show halfZ n = 0 by unfold halfZ; rw [if_pos h2]] at hh
    refine seq_yis hS (by decide) rfl (by decide) rfl (runs_call (args := [.int .i64 n]) goes22 rfl hh) (fun a1 hS => ?_)
    refine seq_yis hS (by decide) rfl (by decide) rfl (runs_eql (r := true) rfl rfl rfl) (fun a1 hS => ?_)
    refine seq_yis hS (by decide) rfl (by decide) rfl (runs_pick rfl rfl) (fun a1 hS => ?_)
    refine seq_is hS (by decide) (runs_pick rfl rfl) (fun a1 hS => ?_)
    refine seq_is hS (by decide) (runs_assign rfl) (fun a1 hS => ?_)
    exact nil_ok (qx_ret (ret1 (t := 2) (by kernel_rfl) hS rfl ⟨rfl, hB1⟩))
  · refine seq_is hS (by decide) (runs_lss (r := false) rfl rfl (by simpa using h2)) (fun a1 hS => ?_)
    refine seq_is hS (by decide) (runs_move rfl) (fun a1 hS => ?_)
    refine seq_yis hS (by decide) rfl (by decide) rfl (runs_move rfl) (fun a1 hS => ?_)
    by_cases h3 : n > 1073741824
    · refine seq_yis hS (by decide) rfl (by decide) rfl (runs_gtr (r := true) rfl rfl (by simpa using h3)) (fun a1 hS => ?_)
      refine seq_is hS (by decide) (runs_pick rfl rfl) (fun a1 hS => ?_)
      refine nil_ok (wp_cond_true (hS.eval rfl) (qx_seq (reg_seq ?_)))
      refine seq_op hS (by decide) (runs_call (args := []) goes12 rfl (awake_call w hk)) (fun v1 w1 a1 hp1 hS => ?_)
      obtain ⟨rfl, hB1⟩ := hp1
      refine seq_is hS (by decide) (runs_move rfl) (fun a1 hS => ?_)
      refine seq_yis hS (by decide) rfl (by decide) rfl (runs_move rfl) (fun a1 hS => ?_)
      refine seq_yis hS (by decide) rfl (by decide) rfl (runs_geq (r := true) rfl rfl (by simp; omega)) (fun a1 hS => ?_)
      refine seq_yis hS (by decide) rfl (by decide) rfl (runs_move rfl) (fun a1 hS => ?_)
      refine seq_no hS (by decide) rfl (by decide) rfl rfl (fun a1 hS => ?_)
      refine seq_no hS (by decide) rfl (by decide) rfl rfl (fun a1 hS => ?_)
      refine seq_no hS (by decide) rfl (by decide) rfl rfl (fun a1 hS => ?_)
      refine seq_yis hS (by decide) rfl (by decide) rfl (runs_pick rfl rfl) (fun a1 hS => ?_)
      refine seq_is hS (by decide) (runs_pick rfl rfl) (fun a1 hS => ?_)
      refine seq_is hS (by decide) (runs_assign rfl) (fun a1 hS => ?_)
      exact nil_ok (qx_ret (ret1 (t := 2) (by kernel_rfl) hS rfl ⟨rfl, hB1⟩))
    · refine seq_yis hS (by decide) rfl (by decide) rfl (runs_gtr (r := false) rfl rfl (by simpa using h3)) (fun a1 hS => ?_)
      refine seq_is hS (by decide) (runs_pick rfl rfl) (fun a1 hS => ?_)
      refine nil_ok (wp_cond_false (hS.eval rfl) (wp_skip ?_))
      obtain ⟨m, rfl⟩ := Int.eq_ofNat_of_zero_le (show 0 ≤ n by omega)
      have hm : 2 ≤ m := by omega
      have hh := half_call (m : Int) w (by omega)
      rw [show halfZ (m : Int) = Tree.half m by unfold halfZ; rw [if_neg (by omega), Int.toNat_natCast]] at hh
      have hlt := Tree.half_lt hm
      have hge := Tree.half_ge hm
      have hq : Nat.log2 (m - 1) ≤ 40 := by
        have := (Nat.log2_lt (n := m - 1) (k := 31) (by omega)).2 (by omega)
        omega
      refine qx_seq (reg_seq ?_)
      refine seq_is hS (by decide) (runs_move rfl) (fun a1 hS => ?_)
      refine seq_is hS (by decide) (runs_call (args := [.int .i64 (m : Int)]) goes22 rfl hh) (fun a1 hS => ?_)
      refine seq_is hS (by decide) (runs_assign rfl) (fun a1 hS => ?_)
      refine nil_ok (qx_seq (reg_seq ?_))
      refine seq_is hS (by decide) (runs_move rfl) (fun a1 hS => ?_)
      refine seq_is hS (by decide) (runs_assign rfl) (fun a1 hS => ?_)
      refine nil_ok (qx_seq ?_)
      refine halves_loop _ _ _ (.int .i64 (m : Int)) (.int .i64 ((Tree.half m : Nat) : Int)) (Nat.log2 (m - 1)) w a1 hq (hS.only _ ⟨rfl, rfl, rfl, trivial⟩) (fun a2 hS => ?_)
      refine qx_seq (reg_seq ?_)
      refine seq_op hS (by decide) (runs_call (args := []) goes12 rfl (awake_call w hk)) (fun v1 w1 a1 hp1 hS => ?_)
      obtain ⟨rfl, hB1⟩ := hp1
      refine seq_is hS (by decide) (runs_move rfl) (fun a1 hS => ?_)
      refine seq_yis hS (by decide) rfl (by decide) rfl (runs_move rfl) (fun a1 hS => ?_)
      refine seq_yis hS (by decide) rfl (by decide) rfl (runs_eql (r := true) rfl rfl rfl) (fun a1 hS => ?_)
      refine seq_is hS (by decide) (runs_pick rfl rfl) (fun a1 hS => ?_)
      refine seq_is hS (by decide) (runs_move rfl) (fun a1 hS => ?_)
      refine seq_yis hS (by decide) rfl (by decide) rfl (runs_move rfl) (fun a1 hS => ?_)
      refine seq_yis hS (by decide) rfl (by decide) rfl (runs_move rfl) (fun a1 hS => ?_)
      refine seq_yis hS (by decide) rfl (by decide) rfl (runs_lss (r := true) rfl rfl (by simp; omega)) (fun a1 hS => ?_)
      refine seq_is hS (by decide) (runs_pick rfl rfl) (fun a1 hS => ?_)
      refine seq_is hS (by decide) (runs_move rfl) (fun a1 hS => ?_)
      refine seq_yis hS (by decide) rfl (by decide) rfl (runs_move rfl) (fun a1 hS => ?_)
      refine seq_yis hS (by decide) rfl (by decide) rfl (runs_mul rfl rfl (IntWalk.i64_in _ (by omega))) (fun a1 hS => ?_)
      refine seq_yis hS (by decide) rfl (by decide) rfl (runs_move rfl) (fun a1 hS => ?_)
      refine seq_yis hS (by decide) rfl (by decide) rfl (runs_geq (r := true) rfl rfl (by rw [decide_eq_true_eq]; omega)) (fun a1 hS => ?_)
      refine seq_is hS (by decide) (runs_pick rfl rfl) (fun a1 hS => ?_)
      refine seq_is hS (by decide) (runs_assign rfl) (fun a1 hS => ?_)
      exact nil_ok (qx_ret (ret1 (t := 2) (by kernel_rfl) hS rfl ⟨rfl, hB1⟩))
end Go.Proofs.YtlldcicnakdjmaaDoor
