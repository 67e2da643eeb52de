/- The walk of TreeDeeps. Conditions: the table of constants lies as it was laid. -/
import Derived.Test.YtlldcicnakdjmaaDoorWHalves
namespace Go.Proofs.YtlldcicnakdjmaaDoor
open Go.RowKit

theorem log2_pow_pred : ∀ k, 0 < k → Nat.log2 (2 ^ k - 1) = k - 1 := fun k hk => by
  have hp : 2 ^ k = 2 * 2 ^ (k - 1) := by rw [Nat.mul_comm, ← Nat.pow_succ, show (k - 1).succ = k by omega]
  have h0 : 0 < 2 ^ (k - 1) := Nat.pow_pos (by omega)
  have hne : 2 ^ k - 1 ≠ 0 := by omega
  rw [Nat.log2_eq_iff hne, show k - 1 + 1 = k by omega]
  omega
theorem path_pow : ∀ (k first at_ : Nat), (Tree.path first (2 ^ k) at_).length = k
  | 0, first, at_ => by rw [Tree.path_small (by simp)]; rfl
  | k + 1, first, at_ => by
    have hp : 2 ^ (k + 1) = 2 * 2 ^ k := by rw [Nat.pow_succ, Nat.mul_comm]
    have h0 : 0 < 2 ^ k := Nat.pow_pos (by omega)
    have hh : Tree.half (2 ^ (k + 1)) = 2 ^ k := by unfold Tree.half; rw [log2_pow_pred (k + 1) (by omega)]; simp
    by_cases ha : at_ < first + Tree.half (2 ^ (k + 1))
    · rw [Tree.path_left (by omega) ha, List.length_append, hh, path_pow k]; rfl
    · rw [Tree.path_right (by omega) ha, List.length_append, hh, show 2 ^ (k + 1) - 2 ^ k = 2 ^ k by omega, path_pow k]; rfl
theorem path_pos {n first at_ : Nat} (h : 2 ≤ n) : 0 < (Tree.path first n at_).length := by
  by_cases ha : at_ < first + Tree.half n
  · rw [Tree.path_left h ha]; simp
  · rw [Tree.path_right h ha]; simp
theorem runs_eqB {L : List (Nat × Value)} {w : World} {ty t' : TypeId} {x y : Operand} {a b r : Bool} (hx : vals L x = some (.bool a)) (hy : vals L y = some (.bool b)) (hr : (a == b) = r) : Runs Tryd.prog (.binOp .eql 4 x y t') ty L w (Is (.bool r) w) :=
  runs_bin hx hy rfl (by rw [run_eql_bool w 4 a b (by kernel_rfl), hr])
theorem deep_call (n at_ : Int) (w : World) : Calls Tryd.prog 28 [Value.int .i64 n, .int .i64 at_].toArray w fun e w' => ∃ v, e = .returned v ∧ v = .int .i64 ((deepZ n at_ : Nat) : Int) ∧ Below w.heap.size w w' := (deep_any n at_ w).mono (by rintro e w' ⟨rfl, h⟩; exact ⟨_, rfl, rfl, h⟩)
noncomputable def blk11 (id : Nat) : Code := ((Tryd.f11.body.bind (blockIn id)).getD .skip)
theorem deeps_loop (N R : Act → World → Prop) (X : Nat → Act → World → Prop) (n : Nat) (v1 : Value) (w : World) (a : Act) (hn : 1 ≤ n) (hn2 : n ≤ 1073741824) (hS : Sees 67 [(5, .int .i64 0), (6, .int .i64 1), (0, .int .i64 (n : Int)), (1, v1)] a)
    (h : ∀ (a' : Act) (d : Nat), d ≤ 30 → n ≤ 2 ^ d → (d = 0 ∨ 2 ^ (d - 1) < n) → Sees 67 [(5, .int .i64 (d : Int)), (6, .int .i64 ((2 ^ d : Nat) : Int)), (0, .int .i64 (n : Int)), (1, v1)] a' → N a' w) : (blk11 0).wp Tryd.prog (Qx N X R) a w := by
  refine qx_for (fun m a w' => ∃ d, d ≤ 30 ∧ m = 30 - d ∧ w' = w ∧ (d = 0 ∨ 2 ^ (d - 1) < n) ∧ Sees 67 [(5, .int .i64 (d : Int)), (6, .int .i64 ((2 ^ d : Nat) : Int)), (0, .int .i64 (n : Int)), (1, v1)] a) 30 ⟨0, by omega, rfl, rfl, .inl rfl, hS⟩ ?_
  rintro m a w' ⟨d, hd, rfl, rfl, hd2, hS⟩
  have hpl : 2 ^ d ≤ 2 ^ 30 := Nat.pow_le_pow_right (by omega) hd
  refine reg_seq ?_
  refine seq_is hS (by decide) (runs_move rfl) (fun a1 hS => ?_)
  refine seq_is hS (by decide) (runs_move rfl) (fun a1 hS => ?_)
  by_cases hlt : 2 ^ d < n
  · have hd30 : d < 30 := by
      apply Classical.byContradiction
      intro hge
      have : 2 ^ 30 ≤ 2 ^ d := Nat.pow_le_pow_right (by omega) (by omega)
      omega
    have hp : 2 ^ (d + 1) = 2 * 2 ^ d := by rw [Nat.pow_succ, Nat.mul_comm]
    refine seq_is hS (by decide) (runs_lss (r := true) rfl rfl (by rw [decide_eq_true_eq]; omega)) (fun a1 hS => ?_)
    refine nil_ok ⟨_, hS.eval rfl, fun h => by simp at h, fun _ => ?_⟩
    refine qx_block (qx_seq (reg_seq ?_))
    refine seq_is hS (by decide) (runs_move rfl) (fun a1 hS => ?_)
    refine seq_is hS (by decide) (runs_mul rfl rfl ((IntWalk.i64_in _ (by omega)).trans (show _ = ((2 ^ (d + 1) : Nat) : Int) by omega))) (fun a1 hS => ?_)
    refine seq_is hS (by decide) (runs_assign rfl) (fun a1 hS => ?_)
    refine nil_ok (reg_seq ?_)
    refine seq_is hS (by decide) (runs_move rfl) (fun a1 hS => ?_)
    refine seq_is hS (by decide) (runs_add rfl rfl ((IntWalk.i64_in _ (by omega)).trans (show (d : Int) + 1 = ((d + 1 : Nat) : Int) by omega))) (fun a1 hS => ?_)
    refine seq_is hS (by decide) (runs_assign rfl) (fun a1 hS => ?_)
    exact nil_ok ⟨30 - (d + 1), by omega, d + 1, by omega, rfl, rfl, .inr (by simpa using hlt), hS.only _ ⟨rfl, rfl, rfl, rfl, trivial⟩⟩
  · refine seq_is hS (by decide) (runs_lss (r := false) rfl rfl (by rw [decide_eq_false_iff_not]; omega)) (fun a1 hS => ?_)
    exact nil_ok ⟨_, hS.eval rfl, fun _ => h _ d hd (by omega) hd2 (hS.only _ ⟨rfl, rfl, rfl, rfl, trivial⟩), fun h => by simp at h⟩
noncomputable def ops11 (id : Nat) : Array Oper := match (Tryd.f11.body.bind (regionIn id)) with | some (.region _ ops _) => ops | _ => #[]
noncomputable def reg11 (id : Nat) : Code := ((Tryd.f11.body.bind (regionIn id)).getD .skip)
def outB (n at_ : Int) : Bool := decide (n < 1) || decide (n > 1073741824) || decide (at_ < 0) || decide (at_ ≥ n)
/-- The test ahead. -/
theorem test11 (N R : Act → World → Prop) (X : Nat → Act → World → Prop) (n at_ : Int) (w : World) (a : Act) (hS : Sees 67 [(0, .int .i64 n), (1, .int .i64 at_)] a) (h : ∀ a', Sees 67 [(22, .bool (outB n at_)), (0, .int .i64 n), (1, .int .i64 at_)] a' → N a' w) : (reg11 1).wp Tryd.prog (Qx N X R) a w := by
  refine reg_seq ?_
  refine seq_is hS (by decide) (runs_move rfl) (fun a1 hS => ?_)
  by_cases h1 : n < 1
  · rw [show outB n at_ = true by simp [outB, h1]] at h
    refine seq_is hS (by decide) (runs_lss (r := true) rfl rfl (by simpa using h1)) (fun a1 hS => ?_)
    refine seq_is hS (by decide) (runs_move rfl) (fun a1 hS => ?_)
    refine seq_no hS (by decide) rfl (by decide) rfl rfl (fun a1 hS => ?_)
    refine seq_no hS (by decide) rfl (by decide) rfl rfl (fun a1 hS => ?_)
    refine seq_is hS (by decide) (runs_pick rfl rfl) (fun a1 hS => ?_)
    refine seq_is hS (by decide) (runs_move rfl) (fun a1 hS => ?_)
    refine seq_no hS (by decide) rfl (by decide) rfl rfl (fun a1 hS => ?_)
    refine seq_no hS (by decide) rfl (by decide) rfl rfl (fun a1 hS => ?_)
    refine seq_is hS (by decide) (runs_pick rfl rfl) (fun a1 hS => ?_)
    refine seq_is hS (by decide) (runs_move rfl) (fun a1 hS => ?_)
    refine seq_no hS (by decide) rfl (by decide) rfl rfl (fun a1 hS => ?_)
    refine seq_no hS (by decide) rfl (by decide) rfl rfl (fun a1 hS => ?_)
    refine seq_no hS (by decide) rfl (by decide) rfl rfl (fun a1 hS => ?_)
    refine seq_is hS (by decide) (runs_pick rfl rfl) (fun a1 hS => ?_)
    exact nil_ok (h _ (hS.only _ ⟨rfl, rfl, rfl, trivial⟩))
  · refine seq_is hS (by decide) (runs_lss (r := false) rfl rfl (by simpa using h1)) (fun a1 hS => ?_)
    refine seq_is hS (by decide) (runs_move rfl) (fun a1 hS => ?_)
    refine seq_yis hS (by decide) rfl (by decide) rfl (runs_move rfl) (fun a1 hS => ?_)
    by_cases h2 : n > 1073741824
    · rw [show outB n at_ = true by simp [outB, h2]] at h
      refine seq_yis hS (by decide) rfl (by decide) rfl (runs_gtr (r := true) rfl rfl (by simpa using h2)) (fun a1 hS => ?_)
      refine seq_is hS (by decide) (runs_pick rfl rfl) (fun a1 hS => ?_)
      refine seq_is hS (by decide) (runs_move rfl) (fun a1 hS => ?_)
      refine seq_no hS (by decide) rfl (by decide) rfl rfl (fun a1 hS => ?_)
      refine seq_no hS (by decide) rfl (by decide) rfl rfl (fun a1 hS => ?_)
      refine seq_is hS (by decide) (runs_pick rfl rfl) (fun a1 hS => ?_)
      refine seq_is hS (by decide) (runs_move rfl) (fun a1 hS => ?_)
      refine seq_no hS (by decide) rfl (by decide) rfl rfl (fun a1 hS => ?_)
      refine seq_no hS (by decide) rfl (by decide) rfl rfl (fun a1 hS => ?_)
      refine seq_no hS (by decide) rfl (by decide) rfl rfl (fun a1 hS => ?_)
      refine seq_is hS (by decide) (runs_pick rfl rfl) (fun a1 hS => ?_)
      exact nil_ok (h _ (hS.only _ ⟨rfl, rfl, rfl, trivial⟩))
    · refine seq_yis hS (by decide) rfl (by decide) rfl (runs_gtr (r := false) rfl rfl (by simpa using h2)) (fun a1 hS => ?_)
      refine seq_is hS (by decide) (runs_pick rfl rfl) (fun a1 hS => ?_)
      refine seq_is hS (by decide) (runs_move rfl) (fun a1 hS => ?_)
      refine seq_yis hS (by decide) rfl (by decide) rfl (runs_move rfl) (fun a1 hS => ?_)
      by_cases h3 : at_ < 0
      · rw [show outB n at_ = true by simp [outB, h3]] at h
        refine seq_yis hS (by decide) rfl (by decide) rfl (runs_lss (r := true) rfl rfl (by simpa using h3)) (fun a1 hS => ?_)
        refine seq_is hS (by decide) (runs_pick rfl rfl) (fun a1 hS => ?_)
        refine seq_is hS (by decide) (runs_move rfl) (fun a1 hS => ?_)
        refine seq_no hS (by decide) rfl (by decide) rfl rfl (fun a1 hS => ?_)
        refine seq_no hS (by decide) rfl (by decide) rfl rfl (fun a1 hS => ?_)
        refine seq_no hS (by decide) rfl (by decide) rfl rfl (fun a1 hS => ?_)
        refine seq_is hS (by decide) (runs_pick rfl rfl) (fun a1 hS => ?_)
        exact nil_ok (h _ (hS.only _ ⟨rfl, rfl, rfl, trivial⟩))
      · rw [show outB n at_ = decide (at_ ≥ n) by simp [outB, h1, h2, h3]] at h
        refine seq_yis hS (by decide) rfl (by decide) rfl (runs_lss (r := false) rfl rfl (by simpa using h3)) (fun a1 hS => ?_)
        refine seq_is hS (by decide) (runs_pick rfl rfl) (fun a1 hS => ?_)
        refine seq_is hS (by decide) (runs_move rfl) (fun a1 hS => ?_)
        refine seq_yis hS (by decide) rfl (by decide) rfl (runs_move rfl) (fun a1 hS => ?_)
        refine seq_yis hS (by decide) rfl (by decide) rfl (runs_move rfl) (fun a1 hS => ?_)
        refine seq_yis hS (by decide) rfl (by decide) rfl (runs_geq rfl rfl rfl) (fun a1 hS => ?_)
        refine seq_is hS (by decide) (runs_pick rfl rfl) (fun a1 hS => ?_)
        exact nil_ok (h _ (hS.only _ ⟨rfl, rfl, rfl, trivial⟩))
set_option maxRecDepth 100000 in
set_option maxHeartbeats 1000000 in
theorem deeps_walk (n at_ : Int) (w : World) (hk : Kept w) : Calls Tryd.prog 11 #[.int .i64 n, .int .i64 at_] w fun e w' => e = .returned (.bool true) ∧ Below w.heap.size w w' := by
  refine calls_qx (args := [.int .i64 n, .int .i64 at_]) 67 Tryd.func11 rfl (by kernel_rfl) (by simp) (fun a hS => ?_)
  refine qx_seq (reg_seq ?_)
  refine seq_is hS (by decide) (runs_assign rfl) (fun a1 hS => ?_)
  refine nil_ok (qx_seq (qx_seq (test11 _ _ _ n at_ w a1 (hS.only _ ⟨rfl, rfl, trivial⟩) (fun a2 hS => ?_))))
  cases ho : outB n at_ with
  | true =>
    rw [ho] at hS
    have hdz : deepZ n at_ = 0 := by
      unfold deepZ
      rw [if_pos ?_]
      simp only [outB, Bool.or_eq_true, decide_eq_true_eq] at ho
      by_cases h2 : n > 1073741824
      · exact .inl h2
      · right
        simp only [thereB, Bool.and_eq_false_iff, decide_eq_false_iff_not]
        omega
    refine wp_cond_true (hS.eval rfl) (qx_seq (reg_seq ?_))
    refine seq_op hS (by decide) (runs_call (args := []) goes12 rfl (awake_call w hk)) (fun v1 w1 a1 hp1 hS => ?_)
    obtain ⟨rfl, hB1⟩ := hp1
    have hd := deep_call n at_ w1
    rw [hdz] at hd
    refine seq_is hS (by decide) (runs_move rfl) (fun a1 hS => ?_)
    refine seq_yis hS (by decide) rfl (by decide) rfl (runs_move rfl) (fun a1 hS => ?_)
    refine seq_yis hS (by decide) rfl (by decide) rfl (runs_move rfl) (fun a1 hS => ?_)
    refine seq_yes hS (by decide) rfl (by decide) rfl (runs_call (args := [.int .i64 n, .int .i64 at_]) goes28 rfl hd) (fun v2 w2 a2 hp2 hS => ?_)
    obtain ⟨rfl, hB2⟩ := hp2
    refine seq_yis hS (by decide) rfl (by decide) rfl (runs_eql (r := true) rfl rfl rfl) (fun a1 hS => ?_)
    refine seq_is hS (by decide) (runs_pick rfl rfl) (fun a1 hS => ?_)
    refine seq_is hS (by decide) (runs_assign rfl) (fun a1 hS => ?_)
    exact nil_ok (qx_ret (ret1 (t := 4) (by kernel_rfl) hS rfl ⟨rfl, hB1.trans (hB2.mono hB1.size)⟩))
  | false =>
    rw [ho] at hS
    simp only [outB, Bool.or_eq_false_iff, decide_eq_false_iff_not] at ho
    obtain ⟨m, rfl⟩ := Int.eq_ofNat_of_zero_le (show 0 ≤ n by omega)
    obtain ⟨p, rfl⟩ := Int.eq_ofNat_of_zero_le (show 0 ≤ at_ by omega)
    have hdz : deepZ (m : Int) (p : Int) = (Tree.path 0 m p).length := by
      unfold deepZ
      rw [if_neg (by simp [thereB]; omega)]
      simp
    refine wp_cond_false (hS.eval rfl) (wp_skip ?_)
    refine qx_seq (reg_seq ?_)
    refine seq_is hS (by decide) (runs_assign rfl) (fun a1 hS => ?_)
    refine seq_is hS (by decide) (runs_assign rfl) (fun a1 hS => ?_)
    refine nil_ok (qx_seq ?_)
    refine deeps_loop _ _ _ m (.int .i64 (p : Int)) w a1 (by omega) (by omega) (hS.only _ ⟨rfl, rfl, rfl, rfl, trivial⟩) (fun a3 d hd30 hdn hd2 hS => ?_)
    have hxd := path_len d m 0 p hdn
    have hd1 := deep_call (m : Int) (p : Int) w
    rw [hdz] at hd1
    refine qx_seq (reg_seq ?_)
    refine seq_is hS (by decide) (runs_move rfl) (fun a1 hS => ?_)
    refine seq_is hS (by decide) (runs_move rfl) (fun a1 hS => ?_)
    refine seq_op hS (by decide) (runs_call (args := [.int .i64 (m : Int), .int .i64 (p : Int)]) goes28 rfl hd1) (fun v2 w2 a2 hp2 hS => ?_)
    obtain ⟨rfl, hB2⟩ := hp2
    refine seq_is hS (by decide) (runs_assign rfl) (fun a1 hS => ?_)
    have hpp : 2 ≤ m → 0 < (Tree.path 0 m p).length := fun h => path_pos h
    have hp1 : m < 2 → (Tree.path 0 m p).length = 0 := fun h => by rw [Tree.path_small h]; rfl
    have hpw : m = 2 ^ d → (Tree.path 0 m p).length = d := fun h => by rw [h]; exact path_pow d 0 p
    generalize (Tree.path 0 m p).length = x at *
    refine nil_ok (qx_seq (reg_seq ?_))
    refine seq_op hS (by decide) (runs_call (args := []) goes12 rfl (awake_call w2 (hk.below hB2 hk.pos))) (fun v1 w3 a1 hp1 hS => ?_)
    obtain ⟨rfl, hB3⟩ := hp1
    refine seq_is hS (by decide) (runs_move rfl) (fun a1 hS => ?_)
    refine seq_yis hS (by decide) rfl (by decide) rfl (runs_move rfl) (fun a1 hS => ?_)
    refine seq_yis hS (by decide) rfl (by decide) rfl (runs_geq (r := true) rfl rfl (by rw [decide_eq_true_eq]; omega)) (fun a1 hS => ?_)
    refine seq_is hS (by decide) (runs_pick rfl rfl) (fun a1 hS => ?_)
    refine seq_is hS (by decide) (runs_move rfl) (fun a1 hS => ?_)
    refine seq_yis hS (by decide) rfl (by decide) rfl (runs_move rfl) (fun a1 hS => ?_)
    refine seq_yis hS (by decide) rfl (by decide) rfl (runs_move rfl) (fun a1 hS => ?_)
    refine seq_yis hS (by decide) rfl (by decide) rfl (runs_leq (r := true) rfl rfl (by rw [decide_eq_true_eq]; omega)) (fun a1 hS => ?_)
    refine seq_is hS (by decide) (runs_pick rfl rfl) (fun a1 hS => ?_)
    refine seq_is hS (by decide) (runs_move rfl) (fun a1 hS => ?_)
    refine seq_yis hS (by decide) rfl (by decide) rfl (runs_move rfl) (fun a1 hS => ?_)
    refine seq_yis hS (by decide) rfl (by decide) rfl (runs_move rfl) (fun a1 hS => ?_)
    have hend : ∀ (L : List (Nat × Value)) (a9 : Act), Sees 67 L a9 → Among L [(58, .bool true), (50, .bool true), (0, .int .i64 (m : Int)), (7, .int .i64 (x : Int))] → wpList Tryd.prog (ops11 8) (Qx (fun a' w' => Code.ret.wp Tryd.prog (Qx (Rets Tryd.prog Tryd.f11 (fun e w' => e = .returned (.bool true) ∧ Below w.heap.size w w')) (fun _ _ _ => False) (Rets Tryd.prog Tryd.f11 (fun e w' => e = .returned (.bool true) ∧ Below w.heap.size w w'))) a' w') (fun _ _ _ => False) (Rets Tryd.prog Tryd.f11 (fun e w' => e = .returned (.bool true) ∧ Below w.heap.size w w'))) ((ops11 8).toList.drop 19) a9 w3 := fun L a9 hS hA => by
      replace hS := hS.only _ hA
      refine seq_is hS (by decide) (runs_pick rfl rfl) (fun a1 hS => ?_)
      refine seq_is hS (by decide) (runs_move rfl) (fun a1 hS => ?_)
      refine seq_yis hS (by decide) rfl (by decide) rfl (runs_move rfl) (fun a1 hS => ?_)
      refine seq_yis hS (by decide) rfl (by decide) rfl (runs_eql (r := decide (m = 1)) rfl rfl (by rw [Bool.eq_iff_iff, beq_iff_eq, decide_eq_true_eq]; omega)) (fun a1 hS => ?_)
      refine seq_yis hS (by decide) rfl (by decide) rfl (runs_move rfl) (fun a1 hS => ?_)
      refine seq_yis hS (by decide) rfl (by decide) rfl (runs_eql (r := decide (x = 0)) rfl rfl (by rw [Bool.eq_iff_iff, beq_iff_eq, decide_eq_true_eq]; omega)) (fun a1 hS => ?_)
      refine seq_yis hS (by decide) rfl (by decide) rfl (runs_eqB (r := true) rfl rfl (by
        rw [beq_iff_eq, Bool.eq_iff_iff, decide_eq_true_eq, decide_eq_true_eq]
        constructor
        · intro h; exact hp1 (by omega)
        · intro h
          apply Classical.byContradiction
          intro hne
          have := hpp (by omega)
          omega)) (fun a1 hS => ?_)
      refine seq_is hS (by decide) (runs_pick rfl rfl) (fun a1 hS => ?_)
      refine seq_is hS (by decide) (runs_assign rfl) (fun a1 hS => ?_)
      exact nil_ok (qx_ret (ret1 (t := 4) (by kernel_rfl) hS rfl ⟨rfl, hB2.trans (hB3.mono hB2.size)⟩))
    by_cases hne : 2 ^ d = m
    · refine seq_yis hS (by decide) rfl (by decide) rfl (runs_neq (r := false) rfl rfl (by rw [bne, hne]; simp)) (fun a1 hS => ?_)
      refine seq_yis hS (by decide) rfl (by decide) rfl (runs_move rfl) (fun a1 hS => ?_)
      refine seq_yis hS (by decide) rfl (by decide) rfl (runs_move rfl) (fun a1 hS => ?_)
      refine seq_yis hS (by decide) rfl (by decide) rfl (runs_move rfl) (fun a1 hS => ?_)
      refine seq_yis hS (by decide) rfl (by decide) rfl (runs_eql (r := true) rfl rfl (by rw [hpw hne.symm]; simp)) (fun a1 hS => ?_)
      refine seq_yis hS (by decide) rfl (by decide) rfl (runs_pick rfl rfl) (fun a1 hS => ?_)
      exact hend _ a1 hS ⟨rfl, rfl, rfl, rfl, trivial⟩
    · refine seq_yis hS (by decide) rfl (by decide) rfl (runs_neq (r := true) rfl rfl (by rw [bne, Bool.not_eq_true', beq_eq_false_iff_ne]; omega)) (fun a1 hS => ?_)
      refine seq_yis hS (by decide) rfl (by decide) rfl (runs_move rfl) (fun a1 hS => ?_)
      refine seq_no hS (by decide) rfl (by decide) rfl rfl (fun a1 hS => ?_)
      refine seq_no hS (by decide) rfl (by decide) rfl rfl (fun a1 hS => ?_)
      refine seq_no hS (by decide) rfl (by decide) rfl rfl (fun a1 hS => ?_)
      refine seq_yis hS (by decide) rfl (by decide) rfl (runs_pick rfl rfl) (fun a1 hS => ?_)
      exact hend _ a1 hS ⟨rfl, rfl, rfl, rfl, trivial⟩
end Go.Proofs.YtlldcicnakdjmaaDoor
