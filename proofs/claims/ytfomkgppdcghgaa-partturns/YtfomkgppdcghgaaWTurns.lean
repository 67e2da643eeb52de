/- PartTurns, walked. Conditions: none of our own. -/
import Derived.Test.YtfomkgppdcghgaaQAwake
namespace Go.Proofs.Ytfomkgppdcghgaa
open Go.RowKit
open Part
set_option maxRecDepth 100000

theorem runs_eqBool {ty t' : TypeId} {L : List (Nat × Value)} {w : World} {x y : Operand} {a b r : Bool} (hx : vals L x = some (.bool a)) (hy : vals L y = some (.bool b)) (hr : (a == b) = r) : Runs Try.prog (.binOp .eql 4 x y t') ty L w (Is (.bool r) w) :=
  runs_bin hx hy rfl (by subst hr; cases a <;> cases b <;> rfl)
set_option maxHeartbeats 1000000 in
theorem turns_walk (x : Nat) (hx : x < 4294967296) (y : Nat) (hy : y < 4294967296) (w : World) : Ans 6 [.int .u32 (x : Int), .int .u32 (y : Int)] w (fun u w' => u = .bool true ∧ Below w.heap.size w w') := by
  refine calls_qx (args := [.int .u32 (x : Int), .int .u32 (y : Int)]) 17 Try.func6 rfl (by kernel_rfl) (by simp) (fun a hS => ?_)
  refine qx_seq (reg_seq ?_)
  refine seq_is hS (by decide) (runs_assign rfl) (fun a1 hS => ?_)
  refine nil_ok (qx_seq (reg_seq ?_))
  refine seq_op hS (by decide) (runs_call (args := []) goes9 rfl (awake_any w)) (fun v1 w1 a1 hp1 hS => ?_)
  obtain ⟨rfl, hB1⟩ := hp1
  refine seq_is hS (by decide) (runs_move rfl) (fun a1 hS => ?_)
  refine seq_yis hS (by decide) rfl (by decide) rfl (runs_move rfl) (fun a1 hS => ?_)
  refine seq_yis hS (by decide) rfl (by decide) rfl (runs_call (args := [.int .u32 (x : Int)]) goes10 rfl (mix_any x w1)) (fun a1 hS => ?_)
  refine seq_yis hS (by decide) rfl (by decide) rfl (runs_move rfl) (fun a1 hS => ?_)
  refine seq_yis hS (by decide) rfl (by decide) rfl (runs_call (args := [.int .u32 (y : Int)]) goes10 rfl (mix_any y w1)) (fun a1 hS => ?_)
  by_cases hab : x = y
  · subst hab
    refine seq_yis hS (by decide) rfl (by decide) rfl (runs_eql (r := true) rfl rfl (beq_self_eq_true _)) (fun a1 hS => ?_)
    refine seq_yis hS (by decide) rfl (by decide) rfl (runs_move rfl) (fun a1 hS => ?_)
    refine seq_yis hS (by decide) rfl (by decide) rfl (runs_move rfl) (fun a1 hS => ?_)
    refine seq_yis hS (by decide) rfl (by decide) rfl (runs_eql (r := true) rfl rfl (beq_self_eq_true _)) (fun a1 hS => ?_)
    refine seq_yis hS (by decide) rfl (by decide) rfl (runs_eqBool (r := true) rfl rfl rfl) (fun a1 hS => ?_)
    refine seq_is hS (by decide) (runs_pick rfl rfl) (fun a1 hS => ?_)
    refine seq_is hS (by decide) (runs_assign rfl) (fun a1 hS => ?_)
    exact nil_ok (qx_ret (ret1 (t := 4) (by kernel_rfl) hS rfl ⟨_, rfl, rfl, hB1⟩))
  · have hm : mix x ≠ mix y := fun h => hab (mix_inj hx hy h)
    refine seq_yis hS (by decide) rfl (by decide) rfl (runs_eql (r := false) rfl rfl (by rw [beq_eq_false_iff_ne]; omega)) (fun a1 hS => ?_)
    refine seq_yis hS (by decide) rfl (by decide) rfl (runs_move rfl) (fun a1 hS => ?_)
    refine seq_yis hS (by decide) rfl (by decide) rfl (runs_move rfl) (fun a1 hS => ?_)
    refine seq_yis hS (by decide) rfl (by decide) rfl (runs_eql (r := false) rfl rfl (by rw [beq_eq_false_iff_ne]; omega)) (fun a1 hS => ?_)
    refine seq_yis hS (by decide) rfl (by decide) rfl (runs_eqBool (r := true) rfl rfl rfl) (fun a1 hS => ?_)
    refine seq_is hS (by decide) (runs_pick rfl rfl) (fun a1 hS => ?_)
    refine seq_is hS (by decide) (runs_assign rfl) (fun a1 hS => ?_)
    exact nil_ok (qx_ret (ret1 (t := 4) (by kernel_rfl) hS rfl ⟨_, rfl, rfl, hB1⟩))
end Go.Proofs.Ytfomkgppdcghgaa
