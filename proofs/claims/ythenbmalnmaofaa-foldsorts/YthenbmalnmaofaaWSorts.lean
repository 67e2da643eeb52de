/- modillionlaw08.FoldSorts, walked. Conditions: none of our own. -/
import Derived.Test.YthenbmalnmaofaaFAwake
import Derived.Test.YthenbmalnmaofaaFRTo
namespace Go.Proofs.Ythenbmalnmaofaa
open Go.RowKit
set_option maxRecDepth 100000

set_option maxHeartbeats 1000000 in
theorem sorts_any (l : List E) (x : Int) (v : Value) (w : World) (hE : Edges w v l) : Ans 3 [v, .int .i64 x] w (fun u w' => u = .bool true ∧ Below w.heap.size w w') := by
  obtain ⟨A, c, rfl, h1, h2, hA⟩ := hE
  have hE : Edges w (.slice A l.length c) l := ⟨A, c, rfl, h1, h2, hA⟩
  refine calls_qx (args := [.slice A l.length c, .int .i64 x]) 40 Try.func3 rfl (by kernel_rfl) (by simp) (fun a hS => ?_)
  have hB := Below.refl w.heap.size w
  have hEb := hE
  refine qx_seq (reg_seq ?_)
  refine sI hS (runs_assign rfl) fun _ hS => ?_
  refine nil_ok (qx_seq (qx_seq (reg_seq ?_)))
  refine sI hS (runs_move rfl) fun _ hS => ?_
  refine sI hS (runs_len rfl und32) fun _ hS => ?_
  by_cases h40 : ((l.length : Nat) : Int) > 40
  · skip
    refine sI hS (gtrT rfl rfl (by omega)) fun _ hS => ?_
    refine nil_ok (wp_cond_true (hS.eval rfl) (qx_seq (reg_seq ?_)))
    refine sI hS (runs_move rfl) fun _ hS => ?_
    refine seq_op hS (by decide) (runs_call (args := [.slice A l.length c]) goes9 rfl (awakes_any _ w)) (fun v1 w1 a1 hp hS => ?_)
    obtain ⟨rfl, hB1⟩ := hp
    have hB := hB.trans (hB1.mono hB.size)
    have hE := hEb.kept hB
    refine sI hS (runs_assign rfl) fun _ hS => ?_
    exact nil_ok (qx_ret (ret1 (t := 4) (by kernel_rfl) hS rfl ⟨_, rfl, rfl, hB⟩))
  refine sI hS (gtrF rfl rfl (by omega)) fun _ hS => ?_
  refine nil_ok (wp_cond_false (hS.eval rfl) (wp_skip (qx_seq (reg_seq ?_))))
  refine sI hS (runs_move rfl) fun _ hS => ?_
  refine seq_op hS (by decide) (runs_call (args := [.slice A l.length c]) goes9 rfl (awakes_any _ w)) (fun v3 w3 a1 hp hS => ?_)
  obtain ⟨rfl, hB3⟩ := hp
  have hB := hB.trans (hB3.mono hB.size)
  have hE := hEb.kept hB
  refine sI hS (runs_move rfl) fun _ hS => ?_
  refine sY hS (runs_move rfl) fun _ hS => ?_
  refine seq_yes hS (by decide) rfl (by decide) rfl (runs_call (args := [.slice A l.length c]) goes12 rfl (own_any l (by omega) _ w3 hE)) (fun v5 w5 a1 hp hS => ?_)
  obtain ⟨hB5, hown1⟩ := hp
  have hO1 := edges_ownE hown1 rfl
  have hB := hB.trans (hB5.mono hB.size)
  have hE := hEb.kept hB
  refine seq_yes hS (by decide) rfl (by decide) rfl (runs_call (args := [v5]) goes11 rfl (msort_any l (by omega) _ w5 hO1)) (fun v7 w7 a1 hp hS => ?_)
  obtain ⟨hB7, hP1⟩ := hp
  have hQ1 := hP1.edges
  have hB := hB.trans (hB7.mono hB.size)
  have hE := hEb.kept hB
  refine sY hS (runs_move rfl) fun _ hS => ?_
  refine seq_yes hS (by decide) rfl (by decide) rfl (runs_call (args := [.slice A l.length c]) goes13 rfl (rsort_any l (by omega) _ w7 hE)) (fun v9 w9 a1 hp hS => ?_)
  obtain ⟨hB9, _, hR1⟩ := hp
  have hT1 := edges_ownE hR1 rfl
  have hB := hB.trans (hB9.mono hB.size)
  have hE := hEb.kept hB
  have hQ1 := hQ1.kept hB9
  refine seq_yes hS (by decide) rfl (by decide) rfl (runs_call (args := [v7, v9]) goes10 rfl (msame_any (sortM l) (sortM l) (v7) (v9) w9 hQ1 hT1)) (fun v11 w11 a1 hp hS => ?_)
  obtain ⟨rfl, hB11⟩ := hp
  rw [show decide (sortM l = sortM l) = true by simp] at hS
  have hB := hB.trans (hB11.mono hB.size)
  have hE := hEb.kept hB
  refine sI hS (runs_pick rfl rfl) fun _ hS => ?_
  refine sI hS (runs_move rfl) fun _ hS => ?_
  refine sY hS (runs_move rfl) fun _ hS => ?_
  refine seq_yes hS (by decide) rfl (by decide) rfl (runs_call (args := [.slice A l.length c]) goes12 rfl (own_any l (by omega) _ w11 hE)) (fun v13 w13 a1 hp hS => ?_)
  obtain ⟨hB13, hown2⟩ := hp
  have hO2 := edges_ownE hown2 rfl
  have hB := hB.trans (hB13.mono hB.size)
  have hE := hEb.kept hB
  refine sY hS (runs_move rfl) fun _ hS => ?_
  refine seq_yes hS (by decide) rfl (by decide) rfl (runs_call (args := [v13, .int .i64 x]) goes14 rfl (to_any l (by omega) x _ w13 hO2)) (fun v15 w15 a1 hp hS => ?_)
  obtain ⟨hB15, hP2⟩ := hp
  have hQ2 := hP2.edges
  have hB := hB.trans (hB15.mono hB.size)
  have hE := hEb.kept hB
  refine sY hS (runs_move rfl) fun _ hS => ?_
  refine sY hS (runs_move rfl) fun _ hS => ?_
  refine seq_yes hS (by decide) rfl (by decide) rfl (runs_call (args := [.slice A l.length c, .int .i64 x]) goes15 rfl (rto_any l (by omega) x _ w15 hE)) (fun v17 w17 a1 hp hS => ?_)
  obtain ⟨hB17, _, hR2⟩ := hp
  have hT2 := edges_ownE hR2 rfl
  have hB := hB.trans (hB17.mono hB.size)
  have hE := hEb.kept hB
  have hQ2 := hQ2.kept hB17
  refine seq_yes hS (by decide) rfl (by decide) rfl (runs_call (args := [v15, v17]) goes10 rfl (msame_any (toL l x) (toL l x) (v15) (v17) w17 hQ2 hT2)) (fun v19 w19 a1 hp hS => ?_)
  obtain ⟨rfl, hB19⟩ := hp
  rw [show decide (toL l x = toL l x) = true by simp] at hS
  have hB := hB.trans (hB19.mono hB.size)
  have hE := hEb.kept hB
  refine sI hS (runs_pick rfl rfl) fun _ hS => ?_
  refine sI hS (runs_move rfl) fun _ hS => ?_
  refine sY hS (runs_move rfl) fun _ hS => ?_
  refine seq_yes hS (by decide) rfl (by decide) rfl (runs_call (args := [.slice A l.length c]) goes12 rfl (own_any l (by omega) _ w19 hE)) (fun v21 w21 a1 hp hS => ?_)
  obtain ⟨hB21, hown3⟩ := hp
  have hO3 := edges_ownE hown3 rfl
  have hB := hB.trans (hB21.mono hB.size)
  have hE := hEb.kept hB
  refine sY hS (runs_move rfl) fun _ hS => ?_
  refine seq_yes hS (by decide) rfl (by decide) rfl (runs_call (args := [v21, .int .i64 x]) goes16 rfl (from_any l (by omega) x _ w21 hO3)) (fun v23 w23 a1 hp hS => ?_)
  obtain ⟨hB23, hP3⟩ := hp
  have hQ3 := hP3.edges
  have hB := hB.trans (hB23.mono hB.size)
  have hE := hEb.kept hB
  refine sY hS (runs_move rfl) fun _ hS => ?_
  refine sY hS (runs_move rfl) fun _ hS => ?_
  refine seq_yes hS (by decide) rfl (by decide) rfl (runs_call (args := [.slice A l.length c, .int .i64 x]) goes17 rfl (rfrom_any l (by omega) x _ w23 hE)) (fun v25 w25 a1 hp hS => ?_)
  obtain ⟨hB25, _, hR3⟩ := hp
  have hT3 := edges_ownE hR3 rfl
  have hB := hB.trans (hB25.mono hB.size)
  have hQ3 := hQ3.kept hB25
  refine seq_yes hS (by decide) rfl (by decide) rfl (runs_call (args := [v23, v25]) goes10 rfl (msame_any (fromL l x) (fromL l x) (v23) (v25) w25 hQ3 hT3)) (fun v27 w27 a1 hp hS => ?_)
  obtain ⟨rfl, hB27⟩ := hp
  rw [show decide (fromL l x = fromL l x) = true by simp] at hS
  have hB := hB.trans (hB27.mono hB.size)
  refine sI hS (runs_pick rfl rfl) fun _ hS => ?_
  refine sI hS (runs_assign rfl) fun _ hS => ?_
  exact nil_ok (qx_ret (ret1 (t := 4) (by kernel_rfl) hS rfl ⟨_, rfl, rfl, hB⟩))
end Go.Proofs.Ythenbmalnmaofaa
