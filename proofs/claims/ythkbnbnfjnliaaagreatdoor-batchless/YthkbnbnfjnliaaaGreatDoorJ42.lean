/- Layer 11: BatchPuts and BatchGets, walked over the contracts of what they call. -/
import Derived.Test.YthkbnbnfjnliaaaGreatDoorBRGet
import Derived.Test.YthkbnbnfjnliaaaGreatDoorJ29
import Derived.Test.YthkbnbnfjnliaaaGreatDoorBProg
import Derived.Test.YthkbnbnfjnliaaaGreatDoorBGet
import Derived.Test.YthkbnbnfjnliaaaGreatDoorBAwake
namespace Go.Proofs.YthkbnbnfjnliaaaGreatDoor
open Go.RowKit
set_option maxRecDepth 100000

theorem run_neHash (a b : List Nat) (la : a.length = 32) (lb : b.length = 32) (w : World) : (binOp .neq 29 (.agg (U8 a).toArray) (.agg (U8 b).toArray)).run Tryz.prog w = .ok (.bool (!(a == b))) w := by
  rw [run_neq_struct]
  rw [run_eqArr 9998 a b la lb w]
  rfl
section
variable {L : List (Nat × Value)} {w : World} {ty : TypeId}
theorem runs_neHash {t' : TypeId} {X Y : Operand} {x y : List Nat} {r : Bool} (hx : vals L X = some (.agg (U8 x).toArray)) (hy : vals L Y = some (.agg (U8 y).toArray)) (lx : x.length = 32) (ly : y.length = 32) (hr : (!(x == y)) = r) : Runs Tryz.prog (.binOp .neq 29 X Y t') ty L w (Is (.bool r) w) := fun o a K Q ho _ hL hK => by
  have ex := hL X (by simp [Op.operands]) _ hx
  have ey := hL Y (by simp [Op.operands]) _ hy
  have h := run_neHash x y lx ly w
  have hg : (eqGuard .neq 29 X Y (.agg (U8 x).toArray) (.agg (U8 y).toArray)).run Tryz.prog w = .ok () w := by
    have hp : Tryz.prog.eqGuardType Tryz.prog.depth 29 = false := by kernel_rfl
    simp [eqGuard, hp]
  unfold Oper.wp
  have : (execOp a.eval o).run Tryz.prog w = .ok (.value (.bool r)) w := by
    simp only [execOp, ho, ex, ey]
    simp only [Sem.run_bind, hg, Result.andThen_ok, h, hr, Sem.run_pure]
  rw [this]
  exact hK _ w ⟨rfl, rfl⟩
end
theorem bytesM_size {l : List E} (hf : FitsM l) (hl : l.length ≤ 60) : (bytesM l).length ≤ 3000 := by
  have h1 := flat_len (rowsM l) (rowsM_small hf)
  have h2 := Wire.num_len10 l.length (by omega)
  rw [rowsM_length] at h1
  unfold bytesM
  rw [List.length_append]
  omega
theorem putM_size {l : List E} (hf : FitsM l) (hl : l.length ≤ 60) : (putM l).size ≤ 3000 := by
  unfold putM
  by_cases h : rightM l = true
  · rw [if_pos h, S_size]; exact bytesM_size hf hl
  · rw [if_neg h, S_size]; simp
set_option maxHeartbeats 1000000 in
theorem puts_law (hAw : AwkC) (hP : PutC) (hG : GetC) (hC : ChkC) (hT : RootC) (l : List E) (v : Value) (w : World) (hE : Edges w v l) (hf : FitsM l) (hk : Kept w) : Ans 3 [v] w (fun u w' => u = .bool true ∧ Below w.heap.size w w') := by
  obtain ⟨A, c, rfl, hc1, hc2, hA⟩ := hE
  have hE : Edges w (.slice A l.length c) l := ⟨A, c, rfl, hc1, hc2, hA⟩
  have hcm := hc2
  unfold maxLen at hcm
  refine calls_qx (args := [.slice A l.length c]) 71 Tryz.func3 rfl (by kernel_rfl) (by simp) (fun a hS => ?_)
  have hB := Below.refl w.heap.size w
  have hEb := hE
  refine qx_seq (reg_seq ?_)
  refine sI hS (runs_assign rfl) fun _ hS => ?_
  refine nil_ok (qx_seq (qx_seq (reg_seq ?_)))
  refine seq_op hS (by decide) (runs_call (args := []) goes9 rfl (hAw w (hk.below hB hk.pos))) (fun v1 w1 a1 hp hS => ?_)
  obtain ⟨rfl, hB1⟩ := hp
  have hB := hB.trans (hB1.mono hB.size)
  have hE := hEb.kept hB
  refine sI hS (runs_not (b := true) rfl) fun _ hS => ?_
  refine sI hS (runs_move rfl) fun _ hS => ?_
  refine sY hS (runs_move rfl) fun _ hS => ?_
  refine sY hS (runs_len rfl und32) fun _ hS => ?_
  by_cases h60 : 60 < l.length
  · skip
    refine sY hS (gtrT rfl rfl (by omega)) fun _ hS => ?_
    refine sI hS (runs_pick rfl rfl) fun _ hS => ?_
    refine nil_ok (wp_cond_true (hS.eval rfl) (qx_seq (reg_seq ?_)))
    refine seq_op hS (by decide) (runs_call (args := []) goes9 rfl (hAw w1 (hk.below hB hk.pos))) (fun v3 w3 a1 hp hS => ?_)
    obtain ⟨rfl, hB3⟩ := hp
    have hB := hB.trans (hB3.mono hB.size)
    have hE := hEb.kept hB
    refine sI hS (runs_assign rfl) fun _ hS => ?_
    exact nil_ok (qx_ret (ret1 (t := 2) (by kernel_rfl) hS rfl ⟨_, rfl, rfl, hB⟩))
  refine sY hS (gtrF rfl rfl (by omega)) fun _ hS => ?_
  refine sI hS (runs_pick rfl rfl) fun _ hS => ?_
  refine nil_ok (wp_cond_false (hS.eval rfl) (wp_skip (qx_seq (reg_seq ?_))))
  refine sI hS (runs_move rfl) fun _ hS => ?_
  refine seq_op hS (by decide) (runs_call (args := [.slice A l.length c]) goes11 rfl (own_any l (by omega) _ w1 hE)) (fun v5 w5 a1 hp hS => ?_)
  obtain ⟨hB5, ho5⟩ := hp
  have hO1 := edges_ownE ho5 rfl
  have hB := hB.trans (hB5.mono hB.size)
  have hE := hEb.kept hB
  refine seq_op hS (by decide) (runs_call (args := [v5]) goes10 rfl (hP l _ w5 hO1 (by omega))) (fun v7 w7 a1 hp hS => ?_)
  obtain ⟨rfl, hB7⟩ := hp
  have hB := hB.trans (hB7.mono hB.size)
  have hE := hEb.kept hB
  refine sI hS (runs_move rfl) fun _ hS => ?_
  refine sI hS (runs_extract rfl rfl) fun _ hS => ?_
  refine sI hS (runs_extract rfl rfl) fun _ hS => ?_
  refine sI hS (runs_assign rfl) fun _ hS => ?_
  refine sI hS (runs_assign rfl) fun _ hS => ?_
  refine nil_ok (qx_seq (qx_seq (reg_seq ?_)))
  refine sI hS (runs_move rfl) fun _ hS => ?_
  refine seq_op hS (by decide) (runs_call (args := [.slice A l.length c]) goes11 rfl (own_any l (by omega) _ w7 hE)) (fun v9 w9 a1 hp hS => ?_)
  obtain ⟨hB9, ho9⟩ := hp
  have hO2 := edges_ownE ho9 rfl
  have hB := hB.trans (hB9.mono hB.size)
  have hE := hEb.kept hB
  refine seq_op hS (by decide) (runs_call (args := [v9]) goes12 rfl (hT l _ w9 hO2 (by omega) hf (hk.below hB hk.pos))) (fun v11 w11 a1 hp hS => ?_)
  obtain ⟨rfl, hB11⟩ := hp
  have hB := hB.trans (hB11.mono hB.size)
  have hE := hEb.kept hB
  refine sI hS (runs_move rfl) fun _ hS => ?_
  refine seq_op hS (by decide) (runs_call (args := [.slice A l.length c]) goes13 rfl (rroot_any l (by omega) hf _ w11 hE)) (fun v13 w13 a1 hp hS => ?_)
  obtain ⟨rfl, hB13⟩ := hp
  have hB := hB.trans (hB13.mono hB.size)
  have hE := hEb.kept hB
  refine sI hS (runs_neHash (r := false) rfl rfl (rootM_len _) (rootM_len _) (by simp)) fun _ hS => ?_
  refine nil_ok (wp_cond_false (hS.eval rfl) (wp_skip (qx_seq (qx_seq (reg_seq ?_)))))
  refine sI hS (runs_move rfl) fun _ hS => ?_
  refine seq_op hS (by decide) (runs_call (args := [.slice A l.length c]) goes14 rfl (rright_any l _ w13 hE)) (fun v15 w15 a1 hp hS => ?_)
  obtain ⟨rfl, hB15⟩ := hp
  have hB := hB.trans (hB15.mono hB.size)
  have hE := hEb.kept hB
  by_cases hr : rightM l = true
  · skip
    rw [hr] at hS
    refine sI hS (runs_not (b := true) rfl) fun _ hS => ?_
    refine nil_ok (wp_cond_false (hS.eval rfl) (wp_skip (qx_seq (reg_seq ?_))))
    refine sI hS (runs_move rfl) fun _ hS => ?_
    refine seq_op hS (by decide) (runs_call (args := [.string (putM l)]) goes16 rfl (hG (putM l) w15 (by have := putM_size hf (Nat.le_of_not_lt h60); omega))) (fun v17 w17 a1 hp hS => ?_)
    rw [bl_putM hr, getM_bytes hr] at hp
    obtain ⟨v9, rfl, hV, hB17⟩ := hp
    have hB := hB.trans (hB17.mono hB.size)
    have hE := hEb.kept hB
    refine sI hS (runs_move rfl) fun _ hS => ?_
    refine sI hS (runs_extract rfl rfl) fun _ hS => ?_
    refine sI hS (runs_extract rfl rfl) fun _ hS => ?_
    refine sI hS (runs_assign rfl) fun _ hS => ?_
    refine sI hS (runs_assign rfl) fun _ hS => ?_
    refine nil_ok (qx_seq (reg_seq ?_))
    refine sI hS (runs_move rfl) fun _ hS => ?_
    refine sI hS (runs_move rfl) fun _ hS => ?_
    refine seq_op hS (by decide) (runs_call (args := [.slice A l.length c]) goes17 rfl (rput_any l (by omega) hf _ w17 hE)) (fun v19 w19 a1 hp hS => ?_)
    obtain ⟨rfl, hB19⟩ := hp
    have hB := hB.trans (hB19.mono hB.size)
    have hE := hEb.kept hB
    have hV := hV.kept hB19
    refine sI hS (runs_eqStr (r := true) rfl rfl (by rw [bl_putM hr, bl_S (bytesM_lt l)]; simp)) fun _ hS => ?_
    refine sI hS (runs_move rfl) fun _ hS => ?_
    refine sY hS (runs_move rfl) fun _ hS => ?_
    refine sY hS (runs_eql (r := true) rfl rfl (by rw [chkM_ok hr]; rfl)) fun _ hS => ?_
    refine sI hS (runs_pick rfl rfl) fun _ hS => ?_
    refine sI hS (runs_move rfl) fun _ hS => ?_
    refine sY hS (runs_move rfl) fun _ hS => ?_
    refine seq_yes hS (by decide) rfl (by decide) rfl (runs_call (args := [.slice A l.length c]) goes11 rfl (own_any l (by omega) _ w19 hE)) (fun v21 w21 a1 hp hS => ?_)
    obtain ⟨hB21, ho21⟩ := hp
    have hO4 := edges_ownE ho21 rfl
    have hB := hB.trans (hB21.mono hB.size)
    have hE := hEb.kept hB
    have hV := hV.kept hB21
    refine seq_yes hS (by decide) rfl (by decide) rfl (runs_call (args := [v21]) goes15 rfl (hC l _ w21 hO4 (by omega))) (fun v23 w23 a1 hp hS => ?_)
    obtain ⟨rfl, hB23⟩ := hp
    have hB := hB.trans (hB23.mono hB.size)
    have hE := hEb.kept hB
    have hV := hV.kept hB23
    refine sY hS (runs_eql (r := true) rfl rfl (by rw [chkM_ok hr]; rfl)) fun _ hS => ?_
    refine sI hS (runs_pick rfl rfl) fun _ hS => ?_
    refine sI hS (runs_move rfl) fun _ hS => ?_
    refine sY hS (runs_move rfl) fun _ hS => ?_
    refine sY hS (runs_move rfl) fun _ hS => ?_
    refine seq_yes hS (by decide) rfl (by decide) rfl (runs_call (args := [.slice A l.length c]) goes19 rfl (rsort_any l (by omega) _ w23 hE)) (fun v25 w25 a1 hp hS => ?_)
    obtain ⟨hB25, _, ho25⟩ := hp
    have hS1 := edges_ownE ho25 rfl
    have hB := hB.trans (hB25.mono hB.size)
    have hE := hEb.kept hB
    have hV := hV.kept hB25
    refine seq_yes hS (by decide) rfl (by decide) rfl (runs_call (args := [v9, v25]) goes18 rfl (msame_any (sortM l) (sortM l) _ _ w25 hV hS1)) (fun v27 w27 a1 hp hS => ?_)
    obtain ⟨rfl, hB27⟩ := hp
    rw [show decide (sortM l = sortM l) = true by simp] at hS
    have hB := hB.trans (hB27.mono hB.size)
    have hE := hEb.kept hB
    refine sI hS (runs_pick rfl rfl) fun _ hS => ?_
    refine sI hS (runs_move rfl) fun _ hS => ?_
    refine sY hS (runs_move rfl) fun _ hS => ?_
    refine sY hS (runs_eql (r := true) rfl rfl rfl) fun _ hS => ?_
    refine sI hS (runs_pick rfl rfl) fun _ hS => ?_
    refine sI hS (runs_assign rfl) fun _ hS => ?_
    exact nil_ok (qx_ret (ret1 (t := 2) (by kernel_rfl) hS rfl ⟨_, rfl, rfl, hB⟩))
  · skip
    rw [Bool.eq_false_iff.2 hr] at hS
    refine sI hS (runs_not (b := false) rfl) fun _ hS => ?_
    refine nil_ok (wp_cond_true (hS.eval rfl) (qx_seq (reg_seq ?_)))
    refine sI hS (runs_move rfl) fun _ hS => ?_
    refine sI hS (runs_eqStr (r := true) rfl rfl (by unfold putM; rw [if_neg hr]; rfl)) fun _ hS => ?_
    refine sI hS (runs_move rfl) fun _ hS => ?_
    refine sY hS (runs_move rfl) fun _ hS => ?_
    refine sY hS (runs_eql (r := true) rfl rfl (by rw [chkM_bad hr]; rfl)) fun _ hS => ?_
    refine sI hS (runs_pick rfl rfl) fun _ hS => ?_
    refine sI hS (runs_move rfl) fun _ hS => ?_
    refine sY hS (runs_move rfl) fun _ hS => ?_
    refine seq_yes hS (by decide) rfl (by decide) rfl (runs_call (args := [.slice A l.length c]) goes11 rfl (own_any l (by omega) _ w15 hE)) (fun v29 w29 a1 hp hS => ?_)
    obtain ⟨hB29, ho29⟩ := hp
    have hO3 := edges_ownE ho29 rfl
    have hB := hB.trans (hB29.mono hB.size)
    refine seq_yes hS (by decide) rfl (by decide) rfl (runs_call (args := [v29]) goes15 rfl (hC l _ w29 hO3 (by omega))) (fun v31 w31 a1 hp hS => ?_)
    obtain ⟨rfl, hB31⟩ := hp
    have hB := hB.trans (hB31.mono hB.size)
    refine sY hS (runs_eql (r := true) rfl rfl (by rw [chkM_bad hr]; rfl)) fun _ hS => ?_
    refine sI hS (runs_pick rfl rfl) fun _ hS => ?_
    refine sI hS (runs_assign rfl) fun _ hS => ?_
    exact nil_ok (qx_ret (ret1 (t := 2) (by kernel_rfl) hS rfl ⟨_, rfl, rfl, hB⟩))
set_option maxHeartbeats 1000000 in
theorem gets_law (hAw : AwkC) (hG : GetC) (s : ByteArray) (w : World) (hk : Kept w) : Ans 4 [.string s] w (fun u w' => u = .bool true ∧ Below w.heap.size w w') := by
  refine calls_qx (args := [.string s]) 33 Tryz.func4 rfl (by kernel_rfl) (by simp) (fun a hS => ?_)
  have hB := Below.refl w.heap.size w
  refine qx_seq (reg_seq ?_)
  refine sI hS (runs_assign rfl) fun _ hS => ?_
  refine nil_ok (qx_seq (qx_seq (reg_seq ?_)))
  refine seq_op hS (by decide) (runs_call (args := []) goes9 rfl (hAw w (hk.below hB hk.pos))) (fun v1 w1 a1 hp hS => ?_)
  obtain ⟨rfl, hB1⟩ := hp
  have hB := hB.trans (hB1.mono hB.size)
  refine sI hS (runs_not (b := true) rfl) fun _ hS => ?_
  refine sI hS (runs_move rfl) fun _ hS => ?_
  refine sY hS (runs_move rfl) fun _ hS => ?_
  refine sY hS (runs_lens rfl und9) fun _ hS => ?_
  by_cases hbig : 500 < s.size
  · skip
    refine sY hS (gtrT rfl rfl (by omega)) fun _ hS => ?_
    refine sI hS (runs_pick rfl rfl) fun _ hS => ?_
    refine nil_ok (wp_cond_true (hS.eval rfl) (qx_seq (reg_seq ?_)))
    refine seq_op hS (by decide) (runs_call (args := []) goes9 rfl (hAw w1 (hk.below hB hk.pos))) (fun v3 w3 a1 hp hS => ?_)
    obtain ⟨rfl, hB3⟩ := hp
    have hB := hB.trans (hB3.mono hB.size)
    refine sI hS (runs_assign rfl) fun _ hS => ?_
    exact nil_ok (qx_ret (ret1 (t := 2) (by kernel_rfl) hS rfl ⟨_, rfl, rfl, hB⟩))
  refine sY hS (gtrF rfl rfl (by omega)) fun _ hS => ?_
  refine sI hS (runs_pick rfl rfl) fun _ hS => ?_
  refine nil_ok (wp_cond_false (hS.eval rfl) (wp_skip (qx_seq (reg_seq ?_))))
  refine sI hS (runs_move rfl) fun _ hS => ?_
  refine seq_op hS (by decide) (runs_call (args := [.string s]) goes16 rfl (hG s w1 (by omega))) (fun v5 w5 a1 hp hS => ?_)
  obtain ⟨v8, rfl, hV1, hB5⟩ := hp
  have hB := hB.trans (hB5.mono hB.size)
  refine sI hS (runs_move rfl) fun _ hS => ?_
  refine sI hS (runs_extract rfl rfl) fun _ hS => ?_
  refine sI hS (runs_extract rfl rfl) fun _ hS => ?_
  refine sI hS (runs_assign rfl) fun _ hS => ?_
  refine sI hS (runs_assign rfl) fun _ hS => ?_
  refine nil_ok (qx_seq (reg_seq ?_))
  refine sI hS (runs_move rfl) fun _ hS => ?_
  refine seq_op hS (by decide) (runs_call (args := [.string s]) goes20 rfl (rget_any s (by omega) w5)) (fun v7 w7 a1 hp hS => ?_)
  obtain ⟨v9, rfl, hV2, hB7⟩ := hp
  have hB := hB.trans (hB7.mono hB.size)
  have hV1 := hV1.kept hB7
  refine sI hS (runs_move rfl) fun _ hS => ?_
  refine sI hS (runs_extract rfl rfl) fun _ hS => ?_
  refine sI hS (runs_extract rfl rfl) fun _ hS => ?_
  refine sI hS (runs_assign rfl) fun _ hS => ?_
  refine sI hS (runs_assign rfl) fun _ hS => ?_
  refine nil_ok (qx_seq (reg_seq ?_))
  refine sI hS (runs_move rfl) fun _ hS => ?_
  refine sI hS (runs_move rfl) fun _ hS => ?_
  refine seq_op hS (by decide) (runs_call (args := [v8, v9]) goes18 rfl (msame_any ((getM (bl s)).1) ((getM (bl s)).1) _ _ w7 hV1 hV2)) (fun v9 w9 a1 hp hS => ?_)
  obtain ⟨rfl, hB9⟩ := hp
  rw [show decide ((getM (bl s)).1 = (getM (bl s)).1) = true by simp] at hS
  have hB := hB.trans (hB9.mono hB.size)
  refine sI hS (runs_move rfl) fun _ hS => ?_
  refine sY hS (runs_move rfl) fun _ hS => ?_
  refine sY hS (runs_move rfl) fun _ hS => ?_
  refine sY hS (runs_eql (r := true) rfl rfl (by simp)) fun _ hS => ?_
  refine sI hS (runs_pick rfl rfl) fun _ hS => ?_
  refine sI hS (runs_assign rfl) fun _ hS => ?_
  exact nil_ok (qx_ret (ret1 (t := 2) (by kernel_rfl) hS rfl ⟨_, rfl, rfl, hB⟩))
end Go.Proofs.YthkbnbnfjnliaaaGreatDoor
/- Layer 11: what the program answers, all together. No condition. -/
namespace Go.Proofs.YthkbnbnfjnliaaaGreatDoor
open Go.RowKit
set_option maxRecDepth 100000

theorem put0 : PutC := bput_c bcheck_c
theorem get0 : GetC := bget_c put0
theorem awk0 : AwkC := bawake_c put0 get0 bcheck_c brows_c broot_c
end Go.Proofs.YthkbnbnfjnliaaaGreatDoor
