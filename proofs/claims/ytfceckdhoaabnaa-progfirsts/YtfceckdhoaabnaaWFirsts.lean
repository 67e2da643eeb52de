/- modillionlaw07.ProgFirsts, walked. Conditions: none of our own. -/
import Derived.Test.YtfceckdhoaabnaaSAwake
namespace Go.Proofs.Ytfceckdhoaabnaa
open Go.RowKit
set_option maxRecDepth 100000

theorem runs_eqBool {ty t' : TypeId} {L : List (Nat × Value)} {w : World} {x y : Operand} {a b r : Bool} (hx : vals L x = some (.bool a)) (hy : vals L y = some (.bool b)) (hr : (a == b) = r) : Runs Try.prog (.binOp .eql 4 x y t') ty L w (Is (.bool r) w) :=
  runs_bin hx hy rfl (by subst hr; cases a <;> cases b <;> rfl)
set_option maxHeartbeats 1000000 in
theorem firsts_any (tg : ByteArray) (src steps v : Int) (s0 : ByteArray) (w : World) : Ans 4 [jv tg src steps, .int .i64 v, .string s0] w (fun u w' => u = .bool true ∧ Below w.heap.size w w') := by
  obtain ⟨X, hXd⟩ : ∃ X : Vx, (if kindL tg.data.toList = 0 then noVx else ⟨v, firstV (kindL tg.data.toList) src v, true, false, 0⟩) = X := ⟨_, rfl⟩
  refine calls_qx (args := [.agg (jc tg src steps).toArray, .int .i64 v, .string s0]) 31 Try.func4 rfl (by kernel_rfl) (by simp) (fun a hS => ?_)
  have hB := Below.refl w.heap.size w
  refine qx_seq (reg_seq ?_)
  refine seq_op hS (by decide) (runs_boxB (cs := jc tg src steps) rfl rfl) (fun v1 w1 a1 hp hS => ?_)
  obtain ⟨rfl, hM1, hB1⟩ := hp
  have hB := hB.trans (hB1.mono hB.size)
  refine seq_is hS (by decide) (runs_assign rfl) (fun a1 hS => ?_)
  refine nil_ok (qx_seq (qx_seq (reg_seq ?_)))
  refine seq_is hS (by decide) (runs_move rfl) (fun a1 hS => ?_)
  by_cases h1 : v < 0
  · skip
    refine seq_is hS (by decide) (runs_lss (r := true) rfl rfl (by rw [decide_eq_true_eq]; omega)) (fun a1 hS => ?_)
    refine seq_is hS (by decide) (runs_move rfl) (fun a1 hS => ?_)
    refine seq_no hS (by decide) rfl (by decide) rfl rfl (fun a1 hS => ?_)
    refine seq_no hS (by decide) rfl (by decide) rfl rfl (fun a1 hS => ?_)
    refine seq_is hS (by decide) (runs_pick rfl rfl) (fun a1 hS => ?_)
    refine nil_ok (wp_cond_true (hS.eval rfl) (qx_seq (reg_seq ?_)))
    refine seq_op hS (by decide) (runs_call (args := []) goes10 rfl (awake_any w1)) (fun v3 w3 a1 hp hS => ?_)
    obtain ⟨rfl, hB3⟩ := hp
    have hB := hB.trans (hB3.mono hB.size)
    have hM1 := hM1.below hB3 hM1.lt
    refine seq_is hS (by decide) (runs_assign rfl) (fun a1 hS => ?_)
    exact nil_ok (qx_ret (ret1 (t := 6) (by kernel_rfl) hS rfl ⟨_, rfl, rfl, hB⟩))
  · skip
    refine seq_is hS (by decide) (runs_lss (r := false) rfl rfl (by rw [decide_eq_false_iff_not]; omega)) (fun a1 hS => ?_)
    refine seq_is hS (by decide) (runs_move rfl) (fun a1 hS => ?_)
    refine seq_yis hS (by decide) rfl (by decide) rfl (runs_move rfl) (fun a1 hS => ?_)
    by_cases h2 : v > 1048576
    · skip
      refine seq_yis hS (by decide) rfl (by decide) rfl (runs_gtr (r := true) rfl rfl (by rw [decide_eq_true_eq]; omega)) (fun a1 hS => ?_)
      refine seq_is hS (by decide) (runs_pick rfl rfl) (fun a1 hS => ?_)
      refine nil_ok (wp_cond_true (hS.eval rfl) (qx_seq (reg_seq ?_)))
      refine seq_op hS (by decide) (runs_call (args := []) goes10 rfl (awake_any w1)) (fun v5 w5 a1 hp hS => ?_)
      obtain ⟨rfl, hB5⟩ := hp
      have hB := hB.trans (hB5.mono hB.size)
      have hM1 := hM1.below hB5 hM1.lt
      refine seq_is hS (by decide) (runs_assign rfl) (fun a1 hS => ?_)
      exact nil_ok (qx_ret (ret1 (t := 6) (by kernel_rfl) hS rfl ⟨_, rfl, rfl, hB⟩))
    · skip
      refine seq_yis hS (by decide) rfl (by decide) rfl (runs_gtr (r := false) rfl rfl (by rw [decide_eq_false_iff_not]; omega)) (fun a1 hS => ?_)
      refine seq_is hS (by decide) (runs_pick rfl rfl) (fun a1 hS => ?_)
      refine nil_ok (wp_cond_false (hS.eval rfl) (wp_skip (qx_seq (reg_guard (fun w' => Below w1.heap.size w1 w') [.inl (.bool true), .inl (.bool true), .inl (.agg (jc tg src steps).toArray), .inl (.int .i64 v), .inl (.agg (vc X).toArray), .inl (.agg (jc tg src steps).toArray), .inl (.int .i64 v), .inl (.agg (vc X).toArray), .inl (.bool true), .inl (.bool true), .inl (.bool true), .inl (.string s0), .inl (.bool (kindL s0.data.toList != 0)), .inl (.string s0), .inl (.bool (kindL s0.data.toList != 0)), .inl (.bool true), .inl (.bool true), .inl (.bool true)] 18 0 mixed rfl (by kernel_rfl) hS (Below.refl _ _) (fun _ h => h.drew) ?_))))
      refine hs_val rfl (fun w' hw hq => (runs_call (args := []) goes10 rfl (awake_any w')).mono (by rintro u w5 ⟨rfl, hb⟩; exact ⟨rfl, hw.trans (hb.mono hw.size), hb⟩)) ?_
      refine hs_is rfl (fun w' hw => runs_move rfl) ?_
      refine hs_yis rfl rfl (fun w' hw => runs_loadRow rfl (hM1.below hw hM1.lt) Try.underlying26 rfl (by rw [sz26]; rfl)) ?_
      refine hs_yis rfl rfl (fun w' hw => runs_move rfl) ?_
      refine hs_yval rfl rfl (fun w' hw hq => (runs_call (args := [.agg (jc tg src steps).toArray, .int .i64 v]) goes17 rfl (first_any tg src steps v (by omega) (by omega) w')).mono (by rintro u w5 ⟨rfl, hb⟩; exact ⟨by rw [hXd], hw.trans (hb.mono hw.size), hb⟩)) ?_
      refine hs_yis rfl rfl (fun w' hw => runs_loadRow rfl (hM1.below hw hM1.lt) Try.underlying26 rfl (by rw [sz26]; rfl)) ?_
      refine hs_yis rfl rfl (fun w' hw => runs_move rfl) ?_
      refine hs_yval rfl rfl (fun w' hw hq => (runs_call (args := [.agg (jc tg src steps).toArray, .int .i64 v]) goes18 rfl (rfirst_any tg src steps v (by omega) (by omega) w')).mono (by rintro u w5 ⟨rfl, hb⟩; exact ⟨by rw [hXd], hw.trans (hb.mono hw.size), hb⟩)) ?_
      refine hs_yis rfl rfl (fun w' hw => runs_eqV (a := X) (b := X) (r := true) rfl rfl (by simp)) ?_
      refine hs_is rfl (fun w' hw => runs_pick rfl rfl) ?_
      refine hs_is rfl (fun w' hw => runs_move rfl) ?_
      refine hs_yis rfl rfl (fun w' hw => runs_move rfl) ?_
      refine hs_yis rfl rfl (fun w' hw => runs_call (args := [.string s0]) goes19 rfl (known_any s0 w')) ?_
      refine hs_yis rfl rfl (fun w' hw => runs_move rfl) ?_
      refine hs_yis rfl rfl (fun w' hw => runs_call (args := [.string s0]) goes20 rfl (rknown_any s0 w')) ?_
      refine hs_yis rfl rfl (fun w' hw => runs_eqBool (r := true) rfl rfl (by simp)) ?_
      refine hs_is rfl (fun w' hw => runs_pick rfl rfl) ?_
      refine hs_is rfl (fun w' hw => runs_assign rfl) ?_
      refine (fun a7 w7 hS hB7 hq => ?_)
      clear hq
      have hB := hB.trans (hB7.mono hB.size)
      refine wpAnyH_done (by kernel_rfl) ?_ _
      exact qx_ret (ret1 (t := 6) (by kernel_rfl) hS rfl ⟨_, rfl, rfl, hB⟩)
end Go.Proofs.Ytfceckdhoaabnaa
