/- Layer 6 and the document: numbers mixed, whose a vertex is. Conditions: none of our own. -/
import Derived.Test.YthenbmalnmaofaaQEng
namespace Go.Proofs.Ythenbmalnmaofaa
open Go.RowKit
open Part
set_option maxRecDepth 100000

set_option maxHeartbeats 1000000 in
theorem within_any (n m : Int) (w : World) : Ans 52 [.int .i64 n, .int .i64 m] w (Is (.bool (decide (1 ≤ n) && decide (n ≤ m))) w) := by
  refine calls_qx (args := [.int .i64 n, .int .i64 m]) 12 Try.func52 rfl (by kernel_rfl) (by simp) (fun a hS => ?_)
  refine qx_seq (reg_seq ?_)
  refine seq_is hS (by decide) (runs_assign rfl) (fun a1 hS => ?_)
  refine nil_ok (qx_seq (reg_seq ?_))
  refine seq_is hS (by decide) (runs_move rfl) (fun a1 hS => ?_)
  by_cases h1 : n ≥ 1
  · skip
    refine seq_is hS (by decide) (runs_geq (r := true) rfl rfl (by rw [decide_eq_true_eq]; omega)) (fun a1 hS => ?_)
    refine seq_is hS (by decide) (runs_move rfl) (fun a1 hS => ?_)
    refine seq_yis hS (by decide) rfl (by decide) rfl (runs_move rfl) (fun a1 hS => ?_)
    refine seq_yis hS (by decide) rfl (by decide) rfl (runs_move rfl) (fun a1 hS => ?_)
    by_cases h2 : n ≤ m
    · skip
      refine seq_yis hS (by decide) rfl (by decide) rfl (runs_leq (r := true) rfl rfl (by rw [decide_eq_true_eq]; omega)) (fun a1 hS => ?_)
      refine seq_is hS (by decide) (runs_pick rfl rfl) (fun a1 hS => ?_)
      refine seq_is hS (by decide) (runs_assign rfl) (fun a1 hS => ?_)
      exact nil_ok (qx_ret (ret1 (t := 4) (by kernel_rfl) hS rfl ⟨_, rfl, by first | (simp; done) | (simp; omega), rfl⟩))
    · skip
      refine seq_yis hS (by decide) rfl (by decide) rfl (runs_leq (r := false) rfl rfl (by rw [decide_eq_false_iff_not]; omega)) (fun a1 hS => ?_)
      refine seq_is hS (by decide) (runs_pick rfl rfl) (fun a1 hS => ?_)
      refine seq_is hS (by decide) (runs_assign rfl) (fun a1 hS => ?_)
      exact nil_ok (qx_ret (ret1 (t := 4) (by kernel_rfl) hS rfl ⟨_, rfl, by first | (simp; done) | (simp; omega), rfl⟩))
  · skip
    refine seq_is hS (by decide) (runs_geq (r := false) rfl rfl (by rw [decide_eq_false_iff_not]; omega)) (fun a1 hS => ?_)
    refine seq_is hS (by decide) (runs_move rfl) (fun a1 hS => ?_)
    refine seq_no hS (by decide) rfl (by decide) rfl rfl (fun a1 hS => ?_)
    refine seq_no hS (by decide) rfl (by decide) rfl rfl (fun a1 hS => ?_)
    refine seq_no hS (by decide) rfl (by decide) rfl rfl (fun a1 hS => ?_)
    refine seq_is hS (by decide) (runs_pick rfl rfl) (fun a1 hS => ?_)
    refine seq_is hS (by decide) (runs_assign rfl) (fun a1 hS => ?_)
    exact nil_ok (qx_ret (ret1 (t := 4) (by kernel_rfl) hS rfl ⟨_, rfl, by first | (simp; done) | (simp; omega), rfl⟩))
theorem within_is {n m : Int} {b : Bool} (w : World) (h : (decide (1 ≤ n) && decide (n ≤ m)) = b) : Ans 52 [.int .i64 n, .int .i64 m] w (Is (.bool b) w) := h ▸ within_any n m w
theorem within_yes {n m : Int} (w : World) (h1 : 1 ≤ n) (h2 : n ≤ m) : Ans 52 [.int .i64 n, .int .i64 m] w (Is (.bool true) w) := within_is w (by simp; omega)
theorem within_no {n m : Int} (w : World) (h : n < 1 ∨ n > m) : Ans 52 [.int .i64 n, .int .i64 m] w (Is (.bool false) w) := within_is w (by simp; omega)
set_option maxHeartbeats 1000000 in
theorem mix_any (v : Nat) (w : World) : Ans 53 [.int .u32 (v : Int)] w (Is (.int .u32 ((mix v : Nat) : Int)) w) := by
  refine calls_qx (args := [.int .u32 ((v : Nat) : Int)]) 15 Try.func53 rfl (by kernel_rfl) (by simp) (fun a hS => ?_)
  refine qx_seq (reg_seq ?_)
  refine seq_is hS (by decide) (runs_assign rfl) (fun a1 hS => ?_)
  refine nil_ok (qx_seq (reg_seq ?_))
  refine seq_is hS (by decide) (runs_move rfl) (fun a1 hS => ?_)
  refine seq_is hS (by decide) (runs_mul32 (a := v) (b := 2654435761) (r := m1 v) rfl rfl rfl) (fun a1 hS => ?_)
  refine seq_is hS (by decide) (runs_assign rfl) (fun a1 hS => ?_)
  refine nil_ok (qx_seq (reg_seq ?_))
  refine seq_is hS (by decide) (runs_move rfl) (fun a1 hS => ?_)
  refine seq_is hS (by decide) (runs_move rfl) (fun a1 hS => ?_)
  refine seq_is hS (by decide) (runs_shr32 (a := m1 v) (b := 15) (r := m1 v / 32768) rfl rfl rfl (by omega) rfl) (fun a1 hS => ?_)
  refine seq_is hS (by decide) (runs_xor32 (a := m1 v) (b := m1 v / 32768) rfl rfl (m1_lt _) (Nat.lt_of_le_of_lt (Nat.div_le_self _ _) (m1_lt _))) (fun a1 hS => ?_)
  refine seq_is hS (by decide) (runs_assign rfl) (fun a1 hS => ?_)
  refine nil_ok (qx_seq (reg_seq ?_))
  refine seq_is hS (by decide) (runs_move rfl) (fun a1 hS => ?_)
  refine seq_is hS (by decide) (runs_mul32 (a := m2 (m1 v)) (b := 2246822519) (r := m3 (m2 (m1 v))) rfl rfl rfl) (fun a1 hS => ?_)
  refine seq_is hS (by decide) (runs_assign rfl) (fun a1 hS => ?_)
  refine nil_ok (qx_seq (reg_seq ?_))
  refine seq_is hS (by decide) (runs_move rfl) (fun a1 hS => ?_)
  refine seq_is hS (by decide) (runs_move rfl) (fun a1 hS => ?_)
  refine seq_is hS (by decide) (runs_shr32 (a := m3 (m2 (m1 v))) (b := 13) (r := m3 (m2 (m1 v)) / 8192) rfl rfl rfl (by omega) rfl) (fun a1 hS => ?_)
  refine seq_is hS (by decide) (runs_xor32 (a := m3 (m2 (m1 v))) (b := m3 (m2 (m1 v)) / 8192) rfl rfl (m3_lt _) (Nat.lt_of_le_of_lt (Nat.div_le_self _ _) (m3_lt _))) (fun a1 hS => ?_)
  refine seq_is hS (by decide) (runs_assign rfl) (fun a1 hS => ?_)
  exact nil_ok (qx_ret (ret1 (t := 2) (by kernel_rfl) hS rfl ⟨_, rfl, rfl, rfl⟩))
set_option maxHeartbeats 1000000 in
theorem rmix_any (v : Nat) (hv : v < 4294967296) (w : World) : Ans 54 [.int .u32 (v : Int)] w (Is (.int .u32 ((mix v : Nat) : Int)) w) := by
  refine calls_qx (args := [.int .u32 ((v : Nat) : Int)]) 20 Try.func54 rfl (by kernel_rfl) (by simp) (fun a hS => ?_)
  refine qx_seq (reg_seq ?_)
  refine seq_is hS (by decide) (runs_assign rfl) (fun a1 hS => ?_)
  have b1 := m1_lt v
  have b2 := m2_lt b1
  have b3 := m3_lt (m2 (m1 v))
  have d1 : m1 v / 32768 < 4294967296 := Nat.lt_of_le_of_lt (Nat.div_le_self _ _) b1
  have d3 : m3 (m2 (m1 v)) / 8192 < 4294967296 := Nat.lt_of_le_of_lt (Nat.div_le_self _ _) b3
  have e4 : mix v < 4294967296 := mix_lt v
  refine nil_ok (qx_seq (reg_seq ?_))
  refine seq_is hS (by decide) (runs_move rfl) (fun a1 hS => ?_)
  refine seq_is hS (by decide) (runs_to64 (a := v) rfl (by rw [undU32]; rfl) (by omega)) (fun a1 hS => ?_)
  refine seq_is hS (by decide) (runs_mul64 (a := v) (b := 2654435761) rfl rfl rfl (by omega)) (fun a1 hS => ?_)
  refine seq_is hS (by decide) (runs_rem64 (a := v * 2654435761) (b := 4294967296) (r := m1 v) rfl rfl (by omega) rfl) (fun a1 hS => ?_)
  refine seq_is hS (by decide) (runs_assign rfl) (fun a1 hS => ?_)
  refine nil_ok (qx_seq (reg_seq ?_))
  refine seq_is hS (by decide) (runs_move rfl) (fun a1 hS => ?_)
  refine seq_is hS (by decide) (runs_move rfl) (fun a1 hS => ?_)
  refine seq_is hS (by decide) (runs_quo64 (a := m1 v) (b := 32768) rfl rfl (by omega) rfl (by omega)) (fun a1 hS => ?_)
  refine seq_is hS (by decide) (runs_xor64 (a := m1 v) (b := m1 v / 32768) rfl rfl b1 d1) (fun a1 hS => ?_)
  refine seq_is hS (by decide) (runs_assign rfl) (fun a1 hS => ?_)
  refine nil_ok (qx_seq (reg_seq ?_))
  refine seq_is hS (by decide) (runs_move rfl) (fun a1 hS => ?_)
  refine seq_is hS (by decide) (runs_mul64 (a := m2 (m1 v)) (b := 2246822519) rfl rfl rfl (by omega)) (fun a1 hS => ?_)
  refine seq_is hS (by decide) (runs_rem64 (a := m2 (m1 v) * 2246822519) (b := 4294967296) (r := m3 (m2 (m1 v))) rfl rfl (by omega) rfl) (fun a1 hS => ?_)
  refine seq_is hS (by decide) (runs_assign rfl) (fun a1 hS => ?_)
  refine nil_ok (qx_seq (reg_seq ?_))
  refine seq_is hS (by decide) (runs_move rfl) (fun a1 hS => ?_)
  refine seq_is hS (by decide) (runs_move rfl) (fun a1 hS => ?_)
  refine seq_is hS (by decide) (runs_quo64 (a := m3 (m2 (m1 v))) (b := 8192) rfl rfl (by omega) rfl (by omega)) (fun a1 hS => ?_)
  refine seq_is hS (by decide) (runs_xor64 (a := m3 (m2 (m1 v))) (b := m3 (m2 (m1 v)) / 8192) rfl rfl b3 d3) (fun a1 hS => ?_)
  refine seq_is hS (by decide) (runs_to32 (a := mix v) (r := mix v) rfl (by rw [undU64]; rfl) (by omega)) (fun a1 hS => ?_)
  refine seq_is hS (by decide) (runs_assign rfl) (fun a1 hS => ?_)
  exact nil_ok (qx_ret (ret1 (t := 2) (by kernel_rfl) hS rfl ⟨_, rfl, rfl, rfl⟩))
set_option maxHeartbeats 1000000 in
theorem owner_any (v k : Int) (w : World) : Ans 38 [.int .i64 v, .int .i64 k] w (Is (.int .i64 (own v k)) w) := by
  refine calls_qx (args := [.int .i64 v, .int .i64 k]) 19 Try.func38 rfl (by kernel_rfl) (by simp) (fun a hS => ?_)
  refine qx_seq (reg_seq ?_)
  refine seq_is hS (by decide) (runs_assign rfl) (fun a1 hS => ?_)
  refine nil_ok (qx_seq (qx_seq (reg_seq ?_)))
  refine seq_is hS (by decide) (runs_move rfl) (fun a1 hS => ?_)
  by_cases h1 : v < 0
  · skip
    refine seq_is hS (by decide) (runs_lss (r := true) rfl rfl (by rw [decide_eq_true_eq]; omega)) (fun a1 hS => ?_)
    refine seq_is hS (by decide) (runs_move rfl) (fun a1 hS => ?_)
    refine seq_no hS (by decide) rfl (by decide) rfl rfl (fun a1 hS => ?_)
    refine seq_no hS (by decide) rfl (by decide) rfl rfl (fun a1 hS => ?_)
    refine seq_no hS (by decide) rfl (by decide) rfl rfl (fun a1 hS => ?_)
    refine seq_is hS (by decide) (runs_pick rfl rfl) (fun a1 hS => ?_)
    refine nil_ok (wp_cond_true (hS.eval rfl) (qx_seq (reg_seq ?_)))
    refine seq_is hS (by decide) (runs_assign rfl) (fun a1 hS => ?_)
    exact nil_ok (qx_ret (ret1 (t := 4) (by kernel_rfl) hS rfl ⟨_, rfl, by rw [own_none (by omega)], rfl⟩))
  · skip
    refine seq_is hS (by decide) (runs_lss (r := false) rfl rfl (by rw [decide_eq_false_iff_not]; omega)) (fun a1 hS => ?_)
    refine seq_is hS (by decide) (runs_move rfl) (fun a1 hS => ?_)
    refine seq_yis hS (by decide) rfl (by decide) rfl (runs_move rfl) (fun a1 hS => ?_)
    by_cases h2 : 1 ≤ k ∧ k ≤ 64
    · skip
      refine seq_yis hS (by decide) rfl (by decide) rfl (runs_call (args := [.int .i64 k, .int .i64 64]) goes52 rfl (within_yes w (by omega) (by omega))) (fun a1 hS => ?_)
      refine seq_yis hS (by decide) rfl (by decide) rfl (runs_not (b := true) rfl) (fun a1 hS => ?_)
      refine seq_is hS (by decide) (runs_pick rfl rfl) (fun a1 hS => ?_)
      obtain ⟨n, rfl⟩ : ∃ n : Nat, v = (n : Int) := ⟨v.toNat, by omega⟩
      obtain ⟨j, rfl⟩ : ∃ j : Nat, k = (j : Int) := ⟨k.toNat, by omega⟩
      have hmod : mix (n % 4294967296) % j < 4294967296 := Nat.lt_of_le_of_lt (Nat.mod_le _ _) (mix_lt _)
      have hown : own (n : Int) (j : Int) = ((mix (n % 4294967296) % j : Nat) : Int) := by rw [own_some (by omega) (by omega) (by omega), Int.toNat_natCast, Int.toNat_natCast]
      refine nil_ok (wp_cond_false (hS.eval rfl) (wp_skip (qx_seq (reg_seq ?_))))
      refine seq_is hS (by decide) (runs_move rfl) (fun a1 hS => ?_)
      refine seq_is hS (by decide) (runs_to32 (a := n) (r := n % 4294967296) rfl (by rw [und3]; rfl) rfl) (fun a1 hS => ?_)
      refine seq_is hS (by decide) (runs_call (args := [.int .u32 ((n % 4294967296 : Nat) : Int)]) goes53 rfl (mix_any (n % 4294967296) w)) (fun a1 hS => ?_)
      refine seq_is hS (by decide) (runs_move rfl) (fun a1 hS => ?_)
      refine seq_is hS (by decide) (runs_to32 (a := j) (r := j) rfl (by rw [und3]; rfl) (by omega)) (fun a1 hS => ?_)
      refine seq_is hS (by decide) (runs_rem64 (a := mix (n % 4294967296)) (b := j) rfl rfl (by omega) rfl) (fun a1 hS => ?_)
      refine seq_is hS (by decide) (runs_toInt (a := mix (n % 4294967296) % j) rfl (by rw [undU32]; rfl) hmod) (fun a1 hS => ?_)
      refine seq_is hS (by decide) (runs_assign rfl) (fun a1 hS => ?_)
      exact nil_ok (qx_ret (ret1 (t := 4) (by kernel_rfl) hS rfl ⟨_, rfl, by rw [hown], rfl⟩))
    · skip
      refine seq_yis hS (by decide) rfl (by decide) rfl (runs_call (args := [.int .i64 k, .int .i64 64]) goes52 rfl (within_no w (by omega))) (fun a1 hS => ?_)
      refine seq_yis hS (by decide) rfl (by decide) rfl (runs_not (b := false) rfl) (fun a1 hS => ?_)
      refine seq_is hS (by decide) (runs_pick rfl rfl) (fun a1 hS => ?_)
      refine nil_ok (wp_cond_true (hS.eval rfl) (qx_seq (reg_seq ?_)))
      refine seq_is hS (by decide) (runs_assign rfl) (fun a1 hS => ?_)
      exact nil_ok (qx_ret (ret1 (t := 4) (by kernel_rfl) hS rfl ⟨_, rfl, by rw [own_none (by omega)], rfl⟩))
set_option maxHeartbeats 1000000 in
theorem rowner_any (v k : Int) (hv : v < 9223372036854775808) (w : World) : Ans 39 [.int .i64 v, .int .i64 k] w (Is (.int .i64 (own v k)) w) := by
  refine calls_qx (args := [.int .i64 v, .int .i64 k]) 24 Try.func39 rfl (by kernel_rfl) (by simp) (fun a hS => ?_)
  refine qx_seq (reg_seq ?_)
  refine seq_is hS (by decide) (runs_assign rfl) (fun a1 hS => ?_)
  refine nil_ok (qx_seq (qx_seq (reg_seq ?_)))
  refine seq_is hS (by decide) (runs_move rfl) (fun a1 hS => ?_)
  by_cases h1 : v < 0
  · skip
    refine seq_is hS (by decide) (runs_lss (r := true) rfl rfl (by rw [decide_eq_true_eq]; omega)) (fun a1 hS => ?_)
    refine seq_is hS (by decide) (runs_move rfl) (fun a1 hS => ?_)
    refine seq_no hS (by decide) rfl (by decide) rfl rfl (fun a1 hS => ?_)
    refine seq_no hS (by decide) rfl (by decide) rfl rfl (fun a1 hS => ?_)
    refine seq_is hS (by decide) (runs_pick rfl rfl) (fun a1 hS => ?_)
    refine seq_is hS (by decide) (runs_move rfl) (fun a1 hS => ?_)
    refine seq_no hS (by decide) rfl (by decide) rfl rfl (fun a1 hS => ?_)
    refine seq_no hS (by decide) rfl (by decide) rfl rfl (fun a1 hS => ?_)
    refine seq_is hS (by decide) (runs_pick rfl rfl) (fun a1 hS => ?_)
    refine nil_ok (wp_cond_true (hS.eval rfl) (qx_seq (reg_seq ?_)))
    refine seq_is hS (by decide) (runs_assign rfl) (fun a1 hS => ?_)
    exact nil_ok (qx_ret (ret1 (t := 4) (by kernel_rfl) hS rfl ⟨_, rfl, by rw [own_none (by omega)], rfl⟩))
  · skip
    refine seq_is hS (by decide) (runs_lss (r := false) rfl rfl (by rw [decide_eq_false_iff_not]; omega)) (fun a1 hS => ?_)
    refine seq_is hS (by decide) (runs_move rfl) (fun a1 hS => ?_)
    refine seq_yis hS (by decide) rfl (by decide) rfl (runs_move rfl) (fun a1 hS => ?_)
    by_cases h2 : k < 1
    · skip
      refine seq_yis hS (by decide) rfl (by decide) rfl (runs_lss (r := true) rfl rfl (by rw [decide_eq_true_eq]; omega)) (fun a1 hS => ?_)
      refine seq_is hS (by decide) (runs_pick rfl rfl) (fun a1 hS => ?_)
      refine seq_is hS (by decide) (runs_move rfl) (fun a1 hS => ?_)
      refine seq_no hS (by decide) rfl (by decide) rfl rfl (fun a1 hS => ?_)
      refine seq_no hS (by decide) rfl (by decide) rfl rfl (fun a1 hS => ?_)
      refine seq_is hS (by decide) (runs_pick rfl rfl) (fun a1 hS => ?_)
      refine nil_ok (wp_cond_true (hS.eval rfl) (qx_seq (reg_seq ?_)))
      refine seq_is hS (by decide) (runs_assign rfl) (fun a1 hS => ?_)
      exact nil_ok (qx_ret (ret1 (t := 4) (by kernel_rfl) hS rfl ⟨_, rfl, by rw [own_none (by omega)], rfl⟩))
    · skip
      refine seq_yis hS (by decide) rfl (by decide) rfl (runs_lss (r := false) rfl rfl (by rw [decide_eq_false_iff_not]; omega)) (fun a1 hS => ?_)
      refine seq_is hS (by decide) (runs_pick rfl rfl) (fun a1 hS => ?_)
      refine seq_is hS (by decide) (runs_move rfl) (fun a1 hS => ?_)
      refine seq_yis hS (by decide) rfl (by decide) rfl (runs_move rfl) (fun a1 hS => ?_)
      by_cases h3 : k > 64
      · skip
        refine seq_yis hS (by decide) rfl (by decide) rfl (runs_gtr (r := true) rfl rfl (by rw [decide_eq_true_eq]; omega)) (fun a1 hS => ?_)
        refine seq_is hS (by decide) (runs_pick rfl rfl) (fun a1 hS => ?_)
        refine nil_ok (wp_cond_true (hS.eval rfl) (qx_seq (reg_seq ?_)))
        refine seq_is hS (by decide) (runs_assign rfl) (fun a1 hS => ?_)
        exact nil_ok (qx_ret (ret1 (t := 4) (by kernel_rfl) hS rfl ⟨_, rfl, by rw [own_none (by omega)], rfl⟩))
      · skip
        refine seq_yis hS (by decide) rfl (by decide) rfl (runs_gtr (r := false) rfl rfl (by rw [decide_eq_false_iff_not]; omega)) (fun a1 hS => ?_)
        refine seq_is hS (by decide) (runs_pick rfl rfl) (fun a1 hS => ?_)
        obtain ⟨n, rfl⟩ : ∃ n : Nat, v = (n : Int) := ⟨v.toNat, by omega⟩
        obtain ⟨j, rfl⟩ : ∃ j : Nat, k = (j : Int) := ⟨k.toNat, by omega⟩
        have hmod : mix (n % 4294967296) % j < 4294967296 := Nat.lt_of_le_of_lt (Nat.mod_le _ _) (mix_lt _)
        have hown : own (n : Int) (j : Int) = ((mix (n % 4294967296) % j : Nat) : Int) := by rw [own_some (by omega) (by omega) (by omega), Int.toNat_natCast, Int.toNat_natCast]
        refine nil_ok (wp_cond_false (hS.eval rfl) (wp_skip (qx_seq (reg_seq ?_))))
        refine seq_is hS (by decide) (runs_move rfl) (fun a1 hS => ?_)
        refine seq_is hS (by decide) (runs_to64 (a := n) rfl (by rw [und3]; rfl) (by omega)) (fun a1 hS => ?_)
        refine seq_is hS (by decide) (runs_rem64 (a := n) (b := 4294967296) rfl rfl (by omega) rfl) (fun a1 hS => ?_)
        refine seq_is hS (by decide) (runs_to32 (a := n % 4294967296) (r := n % 4294967296) rfl (by rw [undU64]; rfl) (Nat.mod_mod _ _)) (fun a1 hS => ?_)
        refine seq_is hS (by decide) (runs_call (args := [.int .u32 ((n % 4294967296 : Nat) : Int)]) goes54 rfl (rmix_any (n % 4294967296) (Nat.mod_lt _ (by omega)) w)) (fun a1 hS => ?_)
        refine seq_is hS (by decide) (runs_move rfl) (fun a1 hS => ?_)
        refine seq_is hS (by decide) (runs_to32 (a := j) (r := j) rfl (by rw [und3]; rfl) (by omega)) (fun a1 hS => ?_)
        refine seq_is hS (by decide) (runs_rem64 (a := mix (n % 4294967296)) (b := j) rfl rfl (by omega) rfl) (fun a1 hS => ?_)
        refine seq_is hS (by decide) (runs_toInt (a := mix (n % 4294967296) % j) rfl (by rw [undU32]; rfl) hmod) (fun a1 hS => ?_)
        refine seq_is hS (by decide) (runs_assign rfl) (fun a1 hS => ?_)
        exact nil_ok (qx_ret (ret1 (t := 4) (by kernel_rfl) hS rfl ⟨_, rfl, by rw [hown], rfl⟩))
end Go.Proofs.Ythenbmalnmaofaa
