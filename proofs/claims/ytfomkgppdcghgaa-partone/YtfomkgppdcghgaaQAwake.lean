/- What the chapter fixes. Conditions: none of our own. -/
import Derived.Test.YtfomkgppdcghgaaQOf
namespace Go.Proofs.Ytfomkgppdcghgaa
open Go.RowKit
open Part
set_option maxRecDepth 100000

set_option maxHeartbeats 1000000 in
theorem awake_any (w : World) : Ans 9 [] w (fun u w' => u = .bool true ∧ Below w.heap.size w w') := by
  obtain ⟨i3, hi3, hz3, hs3, hb3⟩ := info_parts inf3
  refine calls_qx (args := []) 47 Try.func9 rfl (by kernel_rfl) (by simp) (fun a hS => ?_)
  refine qx_seq (reg_seq ?_)
  refine seq_is hS (by decide) (runs_assign rfl) (fun a1 hS => ?_)
  refine nil_ok (qx_seq (reg_seq ?_))
  refine seq_op hS (by decide) (runs_call (args := [.int .i64 3, .int .i64 1, .int .i64 0]) goes14 rfl (of_ok 3 (by omega) (by omega) 1 0 (by omega) (by omega) (by omega) w)) (fun v1 w1 a1 hp1 hS => ?_)
  obtain ⟨sv, rfl, hown, hB1⟩ := hp1
  rw [ofL_one] at hown
  refine seq_is hS (by decide) (runs_move rfl) (fun a1 hS => ?_)
  refine seq_is hS (by decide) (runs_extract rfl rfl) (fun a1 hS => ?_)
  refine seq_is hS (by decide) (runs_extract rfl rfl) (fun a1 hS => ?_)
  refine seq_is hS (by decide) (runs_assign rfl) (fun a1 hS => ?_)
  refine seq_is hS (by decide) (runs_assign rfl) (fun a1 hS => ?_)
  refine nil_ok (qx_seq (reg_seq ?_))
  refine seq_op hS (by decide) (runs_call (args := [.int .i64 3, .int .i64 1, .int .i64 2]) goes15 rfl (place_ok 3 1 (right_iff.2 ⟨by omega, by omega, by omega, by omega⟩) 2 (by omega) w1)) (fun v2 w2 a2 hp2 hS => ?_)
  obtain ⟨rfl, hB2⟩ := hp2
  have hown := owns_kept hown hB2
  have hB := hB1.trans (hB2.mono hB1.size)
  refine seq_is hS (by decide) (runs_move rfl) (fun a1 hS => ?_)
  refine seq_is hS (by decide) (runs_extract rfl rfl) (fun a1 hS => ?_)
  refine seq_is hS (by decide) (runs_extract rfl rfl) (fun a1 hS => ?_)
  refine seq_is hS (by decide) (runs_extract rfl rfl) (fun a1 hS => ?_)
  refine seq_is hS (by decide) (runs_assign rfl) (fun a1 hS => ?_)
  refine seq_is hS (by decide) (runs_assign rfl) (fun a1 hS => ?_)
  refine seq_is hS (by decide) (runs_assign rfl) (fun a1 hS => ?_)
  refine nil_ok (qx_seq (reg_seq ?_))
  refine seq_is hS (by decide) (runs_call (args := [.int .u32 1]) goes10 rfl (mix_any 1 w2)) (fun a1 hS => ?_)
  refine seq_is hS (by decide) (runs_call (args := [.int .u32 1]) goes11 rfl (rmix_any 1 (by omega) w2)) (fun a1 hS => ?_)
  refine seq_is hS (by decide) (runs_eql (r := true) rfl rfl (beq_self_eq_true _)) (fun a1 hS => ?_)
  refine seq_is hS (by decide) (runs_move rfl) (fun a1 hS => ?_)
  refine seq_yis hS (by decide) rfl (by decide) rfl (runs_call (args := [.int .u32 1]) goes10 rfl (mix_any 1 w2)) (fun a1 hS => ?_)
  refine seq_yis hS (by decide) rfl (by decide) rfl (runs_neq (r := true) rfl rfl (by decide +kernel)) (fun a1 hS => ?_)
  refine seq_is hS (by decide) (runs_pick rfl rfl) (fun a1 hS => ?_)
  refine seq_is hS (by decide) (runs_move rfl) (fun a1 hS => ?_)
  refine seq_yis hS (by decide) rfl (by decide) rfl (runs_move rfl) (fun a1 hS => ?_)
  refine seq_yes hS (by decide) rfl (by decide) rfl (runs_buildSliceG (sz := 1) (pv := [(0, .int .i64 0), (1, .int .i64 1), (2, .int .i64 2)]) rfl und27 hi3 hz3 hs3 (by omega) (by omega) (cells := #[.int .i64 0, .int .i64 1, .int .i64 2]) (by kernel_rfl)) (fun v3 w3 a3 hp3 hS => ?_)
  obtain ⟨rfl, hw3⟩ := hp3
  obtain ⟨hX, hB3⟩ : Has w3 w2.heap.size 3 (ivs (List.range 3)) ∧ Below w2.heap.size w2 w3 := by rw [hw3]; exact new_box w2 3 [.int .i64 0, .int .i64 1, .int .i64 2]
  clear hw3
  have hown := owns_kept hown hB3
  have hB := hB.trans (hB3.mono hB.size)
  refine seq_yes hS (by decide) rfl (by decide) rfl (runs_call (args := [sv, .slice (some ⟨w2.heap.size, 0, none⟩) 3 3]) goes17 rfl (row_same (List.range 3) (by decide) sv _ w.heap.size w2.heap.size w3 hown (owns_has hX (Nat.le_refl _) (by decide)))) (fun v4 w4 a4 hp4 hS => ?_)
  obtain ⟨rfl, hB4⟩ := hp4
  have hB := hB.trans (hB4.mono hB.size)
  refine seq_is hS (by decide) (runs_pick rfl rfl) (fun a1 hS => ?_)
  refine seq_is hS (by decide) (runs_move rfl) (fun a1 hS => ?_)
  refine seq_yis hS (by decide) rfl (by decide) rfl (runs_move rfl) (fun a1 hS => ?_)
  refine seq_yis hS (by decide) rfl (by decide) rfl (runs_eql (r := true) rfl rfl rfl) (fun a1 hS => ?_)
  refine seq_is hS (by decide) (runs_pick rfl rfl) (fun a1 hS => ?_)
  refine seq_is hS (by decide) (runs_move rfl) (fun a1 hS => ?_)
  refine seq_yis hS (by decide) rfl (by decide) rfl (runs_move rfl) (fun a1 hS => ?_)
  refine seq_yis hS (by decide) rfl (by decide) rfl (runs_eql (r := true) rfl rfl (by rw [own_one (by omega)]; rfl)) (fun a1 hS => ?_)
  refine seq_is hS (by decide) (runs_pick rfl rfl) (fun a1 hS => ?_)
  refine seq_is hS (by decide) (runs_move rfl) (fun a1 hS => ?_)
  refine seq_yis hS (by decide) rfl (by decide) rfl (runs_move rfl) (fun a1 hS => ?_)
  refine seq_yis hS (by decide) rfl (by decide) rfl (runs_eql (r := true) rfl rfl (by rw [own_one (by omega), ofL_one]; rfl)) (fun a1 hS => ?_)
  refine seq_is hS (by decide) (runs_pick rfl rfl) (fun a1 hS => ?_)
  refine seq_is hS (by decide) (runs_move rfl) (fun a1 hS => ?_)
  refine seq_yis hS (by decide) rfl (by decide) rfl (runs_move rfl) (fun a1 hS => ?_)
  refine seq_yis hS (by decide) rfl (by decide) rfl (runs_eql (r := true) rfl rfl rfl) (fun a1 hS => ?_)
  refine seq_is hS (by decide) (runs_pick rfl rfl) (fun a1 hS => ?_)
  refine seq_is hS (by decide) (runs_move rfl) (fun a1 hS => ?_)
  refine seq_yis hS (by decide) rfl (by decide) rfl (runs_call (args := [.int .i64 5, .int .i64 1]) goes12 rfl (own_any 5 1 w4)) (fun a1 hS => ?_)
  refine seq_yis hS (by decide) rfl (by decide) rfl (runs_eql (r := true) rfl rfl (by rw [own_one (by omega)]; rfl)) (fun a1 hS => ?_)
  refine seq_is hS (by decide) (runs_pick rfl rfl) (fun a1 hS => ?_)
  refine seq_is hS (by decide) (runs_assign rfl) (fun a1 hS => ?_)
  exact nil_ok (qx_ret (ret1 (t := 0) (by kernel_rfl) hS rfl ⟨_, rfl, rfl, hB⟩))
end Go.Proofs.Ytfomkgppdcghgaa
