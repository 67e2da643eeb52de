/- PartMixes, walked. Conditions: none of our own. -/
import Derived.Test.YtfomkgppdcghgaaQAwake
namespace Go.Proofs.Ytfomkgppdcghgaa
open Go.RowKit
open Part
set_option maxRecDepth 100000

set_option maxHeartbeats 1000000 in
theorem mixes_walk (v : Nat) (hv : v < 4294967296) (n : Int) (hn : n ≤ 9223372036854775807) (k : Int) (w : World) : Ans 3 [.int .u32 (v : Int), .int .i64 n, .int .i64 k] w (fun u w' => u = .bool true ∧ Below w.heap.size w w') := by
  refine calls_qx (args := [.int .u32 (v : Int), .int .i64 n, .int .i64 k]) 24 Try.func3 rfl (by kernel_rfl) (by simp) (fun a hS => ?_)
  refine qx_seq (reg_seq ?_)
  refine seq_is hS (by decide) (runs_assign rfl) (fun a1 hS => ?_)
  refine nil_ok (qx_seq (reg_seq ?_))
  refine seq_op hS (by decide) (runs_call (args := []) goes9 rfl (awake_any w)) (fun v1 w1 a1 hp1 hS => ?_)
  obtain ⟨rfl, hB1⟩ := hp1
  refine seq_is hS (by decide) (runs_move rfl) (fun a1 hS => ?_)
  refine seq_yis hS (by decide) rfl (by decide) rfl (runs_move rfl) (fun a1 hS => ?_)
  refine seq_yis hS (by decide) rfl (by decide) rfl (runs_call (args := [.int .u32 (v : Int)]) goes10 rfl (mix_any v w1)) (fun a1 hS => ?_)
  refine seq_yis hS (by decide) rfl (by decide) rfl (runs_move rfl) (fun a1 hS => ?_)
  refine seq_yis hS (by decide) rfl (by decide) rfl (runs_call (args := [.int .u32 (v : Int)]) goes11 rfl (rmix_any v hv w1)) (fun a1 hS => ?_)
  refine seq_yis hS (by decide) rfl (by decide) rfl (runs_eql (r := true) rfl rfl (beq_self_eq_true _)) (fun a1 hS => ?_)
  refine seq_is hS (by decide) (runs_pick rfl rfl) (fun a1 hS => ?_)
  refine seq_is hS (by decide) (runs_move rfl) (fun a1 hS => ?_)
  refine seq_yis hS (by decide) rfl (by decide) rfl (runs_move rfl) (fun a1 hS => ?_)
  refine seq_yis hS (by decide) rfl (by decide) rfl (runs_move rfl) (fun a1 hS => ?_)
  refine seq_yis hS (by decide) rfl (by decide) rfl (runs_call (args := [.int .i64 n, .int .i64 k]) goes12 rfl (own_any n k w1)) (fun a1 hS => ?_)
  refine seq_yis hS (by decide) rfl (by decide) rfl (runs_move rfl) (fun a1 hS => ?_)
  refine seq_yis hS (by decide) rfl (by decide) rfl (runs_move rfl) (fun a1 hS => ?_)
  refine seq_yis hS (by decide) rfl (by decide) rfl (runs_call (args := [.int .i64 n, .int .i64 k]) goes13 rfl (rown_any n k (by omega) w1)) (fun a1 hS => ?_)
  refine seq_yis hS (by decide) rfl (by decide) rfl (runs_eql (r := true) rfl rfl (beq_self_eq_true _)) (fun a1 hS => ?_)
  refine seq_is hS (by decide) (runs_pick rfl rfl) (fun a1 hS => ?_)
  refine seq_is hS (by decide) (runs_assign rfl) (fun a1 hS => ?_)
  exact nil_ok (qx_ret (ret1 (t := 6) (by kernel_rfl) hS rfl ⟨_, rfl, rfl, hB1⟩))
end Go.Proofs.Ytfomkgppdcghgaa
