/- Layer 11: five of its laws, walked over the contracts of what they call. -/
import Derived.Test.YthkbnbnfjnliaaaGreatDoorJ29
namespace Go.Proofs.YthkbnbnfjnliaaaGreatDoor
open Go.RowKit
set_option maxRecDepth 100000

set_option maxHeartbeats 1000000 in
theorem rows_law (hAw : AwkC) (hR : RowsC) (hT : RootC) (l : List E) (v : Value) (w : World) (hE : Edges w v l) (hf : FitsM l) (hk : Kept w) : Ans 7 [v] w (fun u w' => u = .bool true ∧ Below w.heap.size w w') := by
  obtain ⟨A, c, rfl, hc1, hc2, hA⟩ := hE
  have hE : Edges w (.slice A l.length c) l := ⟨A, c, rfl, hc1, hc2, hA⟩
  have hcm := hc2
  unfold maxLen at hcm
  refine calls_qx (args := [.slice A l.length c]) 28 Tryz.func7 rfl (by kernel_rfl) (by simp) (fun a hS => ?_)
  have hB := Below.refl w.heap.size w
  have hEb := hE
  refine qx_seq (reg_seq ?_)
  refine sI hS (runs_assign rfl) fun _ hS => ?_
  refine nil_ok (qx_seq (qx_seq (reg_seq ?_)))
  refine seq_op hS (by decide) (runs_call (args := []) goes9 rfl (hAw w (hk.below hB hk.pos))) (fun v1 w1 a1 hp hS => ?_)
  obtain ⟨rfl, hB1⟩ := hp
  have hB := hB.trans (hB1.mono hB.size)
  have hE := hEb.kept hB
  refine sI hS (runs_not (b := true) rfl) fun _ hS => ?_
  refine sI hS (runs_move rfl) fun _ hS => ?_
  refine sY hS (runs_move rfl) fun _ hS => ?_
  refine sY hS (runs_len rfl und32) fun _ hS => ?_
  by_cases h60 : 60 < l.length
  · skip
    refine sY hS (gtrT rfl rfl (by omega)) fun _ hS => ?_
    refine sI hS (runs_pick rfl rfl) fun _ hS => ?_
    refine nil_ok (wp_cond_true (hS.eval rfl) (qx_seq (reg_seq ?_)))
    refine seq_op hS (by decide) (runs_call (args := []) goes9 rfl (hAw w1 (hk.below hB hk.pos))) (fun v3 w3 a1 hp hS => ?_)
    obtain ⟨rfl, hB3⟩ := hp
    have hB := hB.trans (hB3.mono hB.size)
    have hE := hEb.kept hB
    refine sI hS (runs_assign rfl) fun _ hS => ?_
    exact nil_ok (qx_ret (ret1 (t := 2) (by kernel_rfl) hS rfl ⟨_, rfl, rfl, hB⟩))
  refine sY hS (gtrF rfl rfl (by omega)) fun _ hS => ?_
  refine sI hS (runs_pick rfl rfl) fun _ hS => ?_
  refine nil_ok (wp_cond_false (hS.eval rfl) (wp_skip (qx_seq (reg_seq ?_))))
  refine sI hS (runs_move rfl) fun _ hS => ?_
  refine seq_op hS (by decide) (runs_call (args := [.slice A l.length c]) goes11 rfl (own_any l (by omega) _ w1 hE)) (fun v5 w5 a1 hp hS => ?_)
  obtain ⟨hB5, ho5⟩ := hp
  have hO1 := edges_ownE ho5 rfl
  have hB := hB.trans (hB5.mono hB.size)
  have hE := hEb.kept hB
  refine seq_op hS (by decide) (runs_call (args := [v5]) goes21 rfl (hR l _ w5 hO1 (by omega) hf)) (fun v7 w7 a1 hp hS => ?_)
  obtain ⟨hSr, hB7⟩ := hp
  obtain ⟨Ar, cr, rfl, _⟩ := id hSr
  have hB := hB.trans (hB7.mono hB.size)
  have hE := hEb.kept hB
  refine sI hS (runs_assign rfl) fun _ hS => ?_
  refine nil_ok (qx_seq (reg_seq ?_))
  refine sI hS (runs_move rfl) fun _ hS => ?_
  refine sI hS (runs_len rfl undStrs) fun _ hS => ?_
  refine sI hS (runs_move rfl) fun _ hS => ?_
  refine sI hS (runs_len rfl und32) fun _ hS => ?_
  refine sI hS (runs_eql (r := true) rfl rfl (by rw [List.length_map, rowsM_length]; simp)) fun _ hS => ?_
  refine sI hS (runs_move rfl) fun _ hS => ?_
  refine sY hS (runs_move rfl) fun _ hS => ?_
  refine seq_yes hS (by decide) rfl (by decide) rfl (runs_call (args := [.slice A l.length c]) goes11 rfl (own_any l (by omega) _ w7 hE)) (fun v9 w9 a1 hp hS => ?_)
  obtain ⟨hB9, ho9⟩ := hp
  have hO2 := edges_ownE ho9 rfl
  have hB := hB.trans (hB9.mono hB.size)
  have hSr := hSr.kept hB9
  refine seq_yes hS (by decide) rfl (by decide) rfl (runs_call (args := [v9]) goes12 rfl (hT l _ w9 hO2 (by omega) hf (hk.below hB hk.pos))) (fun v11 w11 a1 hp hS => ?_)
  obtain ⟨rfl, hB11⟩ := hp
  have hB := hB.trans (hB11.mono hB.size)
  have hSr := hSr.kept hB11
  refine sY hS (runs_move rfl) fun _ hS => ?_
  refine seq_yes hS (by decide) rfl (by decide) rfl (runs_call (args := [.slice Ar (((rowsM l).map S).length) cr]) goes22 rfl (rowsS_root l ▸ hash_post (fun w' => Below w11.heap.size w11 w') (root_any ((rowsM l).map S) _ w11 hSr (fun s hs => Nat.le_trans (rowsS_small hf s hs) (by omega)) (by rw [List.length_map, rowsM_length]; omega) (hk.below hB hk.pos)) (fun _ h => h))) (fun v13 w13 a1 hp hS => ?_)
  obtain ⟨rfl, hB13⟩ := hp
  have hB := hB.trans (hB13.mono hB.size)
  refine sY hS (runs_eqHash (r := true) rfl rfl (rootM_len _) (rootM_len _) (by simp)) fun _ hS => ?_
  refine sI hS (runs_pick rfl rfl) fun _ hS => ?_
  refine sI hS (runs_assign rfl) fun _ hS => ?_
  exact nil_ok (qx_ret (ret1 (t := 2) (by kernel_rfl) hS rfl ⟨_, rfl, rfl, hB⟩))
set_option maxHeartbeats 1000000 in
theorem apart_law (hAw : AwkC) (hP : PutC) (l m : List E) (v vm : Value) (w : World) (hE : Edges w v l) (hM : Edges w vm m) (hk : Kept w) : Ans 6 [v, vm] w (fun u w' => u = .bool true ∧ Below w.heap.size w w') := by
  obtain ⟨A, c, rfl, hc1, hc2, hA⟩ := hE
  have hE : Edges w (.slice A l.length c) l := ⟨A, c, rfl, hc1, hc2, hA⟩
  obtain ⟨Am, cm, rfl, hm1, hm2, hAm⟩ := hM
  have hM : Edges w (.slice Am m.length cm) m := ⟨Am, cm, rfl, hm1, hm2, hAm⟩
  refine calls_qx (args := [.slice A l.length c, .slice Am m.length cm]) 49 Tryz.func6 rfl (by kernel_rfl) (by simp) (fun a hS => ?_)
  have hB := Below.refl w.heap.size w
  have hEb := hE
  have hMb := hM
  refine qx_seq (reg_seq ?_)
  refine sI hS (runs_assign rfl) fun _ hS => ?_
  refine nil_ok (qx_seq (qx_seq (reg_seq ?_)))
  refine seq_op hS (by decide) (runs_call (args := []) goes9 rfl (hAw w (hk.below hB hk.pos))) (fun v1 w1 a1 hp hS => ?_)
  obtain ⟨rfl, hB1⟩ := hp
  have hB := hB.trans (hB1.mono hB.size)
  have hE := hEb.kept hB
  have hM := hMb.kept hB
  refine sI hS (runs_not (b := true) rfl) fun _ hS => ?_
  refine sI hS (runs_move rfl) fun _ hS => ?_
  refine sY hS (runs_move rfl) fun _ hS => ?_
  refine sY hS (runs_len rfl und32) fun _ hS => ?_
  by_cases h60 : 60 < l.length
  · skip
    refine sY hS (gtrT rfl rfl (by omega)) fun _ hS => ?_
    refine sI hS (runs_pick rfl rfl) fun _ hS => ?_
    refine sI hS (runs_move rfl) fun _ hS => ?_
    refine sN hS fun _ hS => ?_
    refine sN hS fun _ hS => ?_
    refine sN hS fun _ hS => ?_
    refine sI hS (runs_pick rfl rfl) fun _ hS => ?_
    refine nil_ok (wp_cond_true (hS.eval rfl) (qx_seq (reg_seq ?_)))
    refine seq_op hS (by decide) (runs_call (args := []) goes9 rfl (hAw w1 (hk.below hB hk.pos))) (fun v3 w3 a1 hp hS => ?_)
    obtain ⟨rfl, hB3⟩ := hp
    have hB := hB.trans (hB3.mono hB.size)
    have hE := hEb.kept hB
    have hM := hMb.kept hB
    refine sI hS (runs_assign rfl) fun _ hS => ?_
    exact nil_ok (qx_ret (ret1 (t := 4) (by kernel_rfl) hS rfl ⟨_, rfl, rfl, hB⟩))
  refine sY hS (gtrF rfl rfl (by omega)) fun _ hS => ?_
  refine sI hS (runs_pick rfl rfl) fun _ hS => ?_
  refine sI hS (runs_move rfl) fun _ hS => ?_
  refine sY hS (runs_move rfl) fun _ hS => ?_
  refine sY hS (runs_len rfl und32) fun _ hS => ?_
  by_cases m60 : 60 < m.length
  · skip
    refine sY hS (gtrT rfl rfl (by omega)) fun _ hS => ?_
    refine sI hS (runs_pick rfl rfl) fun _ hS => ?_
    refine nil_ok (wp_cond_true (hS.eval rfl) (qx_seq (reg_seq ?_)))
    refine seq_op hS (by decide) (runs_call (args := []) goes9 rfl (hAw w1 (hk.below hB hk.pos))) (fun v5 w5 a1 hp hS => ?_)
    obtain ⟨rfl, hB5⟩ := hp
    have hB := hB.trans (hB5.mono hB.size)
    have hE := hEb.kept hB
    have hM := hMb.kept hB
    refine sI hS (runs_assign rfl) fun _ hS => ?_
    exact nil_ok (qx_ret (ret1 (t := 4) (by kernel_rfl) hS rfl ⟨_, rfl, rfl, hB⟩))
  refine sY hS (gtrF rfl rfl (by omega)) fun _ hS => ?_
  refine sI hS (runs_pick rfl rfl) fun _ hS => ?_
  refine nil_ok (wp_cond_false (hS.eval rfl) (wp_skip (qx_seq (reg_seq ?_))))
  refine sI hS (runs_move rfl) fun _ hS => ?_
  refine seq_op hS (by decide) (runs_call (args := [.slice A l.length c]) goes11 rfl (own_any l (by omega) _ w1 hE)) (fun v7 w7 a1 hp hS => ?_)
  obtain ⟨hB7, ho7⟩ := hp
  have hO1 := edges_ownE ho7 rfl
  have hB := hB.trans (hB7.mono hB.size)
  have hE := hEb.kept hB
  have hM := hMb.kept hB
  refine seq_op hS (by decide) (runs_call (args := [v7]) goes10 rfl (hP l _ w7 hO1 (by omega))) (fun v9 w9 a1 hp hS => ?_)
  obtain ⟨rfl, hB9⟩ := hp
  have hB := hB.trans (hB9.mono hB.size)
  have hE := hEb.kept hB
  have hM := hMb.kept hB
  refine sI hS (runs_move rfl) fun _ hS => ?_
  refine sI hS (runs_extract rfl rfl) fun _ hS => ?_
  refine sI hS (runs_extract rfl rfl) fun _ hS => ?_
  refine sI hS (runs_assign rfl) fun _ hS => ?_
  refine sI hS (runs_assign rfl) fun _ hS => ?_
  refine nil_ok (qx_seq (reg_seq ?_))
  refine sI hS (runs_move rfl) fun _ hS => ?_
  refine seq_op hS (by decide) (runs_call (args := [.slice Am m.length cm]) goes11 rfl (own_any m (by omega) _ w9 hM)) (fun v11 w11 a1 hp hS => ?_)
  obtain ⟨hB11, ho11⟩ := hp
  have hO2 := edges_ownE ho11 rfl
  have hB := hB.trans (hB11.mono hB.size)
  have hE := hEb.kept hB
  have hM := hMb.kept hB
  refine seq_op hS (by decide) (runs_call (args := [v11]) goes10 rfl (hP m _ w11 hO2 (by omega))) (fun v13 w13 a1 hp hS => ?_)
  obtain ⟨rfl, hB13⟩ := hp
  have hB := hB.trans (hB13.mono hB.size)
  have hE := hEb.kept hB
  have hM := hMb.kept hB
  refine sI hS (runs_move rfl) fun _ hS => ?_
  refine sI hS (runs_extract rfl rfl) fun _ hS => ?_
  refine sI hS (runs_extract rfl rfl) fun _ hS => ?_
  refine sI hS (runs_assign rfl) fun _ hS => ?_
  refine sI hS (runs_assign rfl) fun _ hS => ?_
  refine nil_ok (qx_seq (qx_seq (reg_seq ?_)))
  refine sI hS (runs_move rfl) fun _ hS => ?_
  by_cases hr1 : ¬ rightM l = true
  · skip
    refine sI hS (runs_neq (r := true) rfl rfl (by rw [chkM_bad hr1]; rfl)) fun _ hS => ?_
    refine sI hS (runs_move rfl) fun _ hS => ?_
    refine sN hS fun _ hS => ?_
    refine sN hS fun _ hS => ?_
    refine sI hS (runs_pick rfl rfl) fun _ hS => ?_
    refine nil_ok (wp_cond_true (hS.eval rfl) (qx_seq (reg_seq ?_)))
    refine sI hS (runs_assign rfl) fun _ hS => ?_
    exact nil_ok (qx_ret (ret1 (t := 4) (by kernel_rfl) hS rfl ⟨_, rfl, rfl, hB⟩))
  refine sI hS (runs_neq (r := false) rfl rfl (by rw [chkM_ok (Classical.not_not.1 hr1)]; rfl)) fun _ hS => ?_
  refine sI hS (runs_move rfl) fun _ hS => ?_
  refine sY hS (runs_move rfl) fun _ hS => ?_
  by_cases hr2 : ¬ rightM m = true
  · skip
    refine sY hS (runs_neq (r := true) rfl rfl (by rw [chkM_bad hr2]; rfl)) fun _ hS => ?_
    refine sI hS (runs_pick rfl rfl) fun _ hS => ?_
    refine nil_ok (wp_cond_true (hS.eval rfl) (qx_seq (reg_seq ?_)))
    refine sI hS (runs_assign rfl) fun _ hS => ?_
    exact nil_ok (qx_ret (ret1 (t := 4) (by kernel_rfl) hS rfl ⟨_, rfl, rfl, hB⟩))
  refine sY hS (runs_neq (r := false) rfl rfl (by rw [chkM_ok (Classical.not_not.1 hr2)]; rfl)) fun _ hS => ?_
  refine sI hS (runs_pick rfl rfl) fun _ hS => ?_
  refine nil_ok (wp_cond_false (hS.eval rfl) (wp_skip (qx_seq (?_))))
  replace hr1 := Classical.not_not.1 hr1
  replace hr2 := Classical.not_not.1 hr2
  have hap : (bl (putM l) == bl (putM m)) = decide (sortM l = sortM m) := by
    rw [bl_putM hr1, bl_putM hr2]
    by_cases e : sortM l = sortM m
    · simp [e, (bytesM_inj hr1 hr2).2 e]
    · simp only [e, decide_false, beq_eq_false_iff_ne, ne_eq]; exact fun h => e ((bytesM_inj hr1 hr2).1 h)
  refine reg_seq ?_
  refine sI hS (runs_move rfl) fun _ hS => ?_
  refine sI hS (runs_move rfl) fun _ hS => ?_
  refine sI hS (runs_eqStr rfl rfl hap) fun _ hS => ?_
  refine sI hS (runs_move rfl) fun _ hS => ?_
  refine seq_op hS (by decide) (runs_call (args := [.slice A l.length c]) goes19 rfl (rsort_any l (by omega) _ w13 hE)) (fun v15 w15 a1 hp hS => ?_)
  obtain ⟨hB15, _, ho15⟩ := hp
  have hS1 := edges_ownE ho15 rfl
  have hB := hB.trans (hB15.mono hB.size)
  have hM := hMb.kept hB
  refine sI hS (runs_move rfl) fun _ hS => ?_
  refine seq_op hS (by decide) (runs_call (args := [.slice Am m.length cm]) goes19 rfl (rsort_any m (by omega) _ w15 hM)) (fun v17 w17 a1 hp hS => ?_)
  obtain ⟨hB17, _, ho17⟩ := hp
  have hS2 := edges_ownE ho17 rfl
  have hB := hB.trans (hB17.mono hB.size)
  have hS1 := hS1.kept hB17
  refine seq_op hS (by decide) (runs_call (args := [v15, v17]) goes18 rfl (msame_any _ _ _ _ w17 hS1 hS2)) (fun v19 w19 a1 hp hS => ?_)
  obtain ⟨rfl, hB19⟩ := hp
  have hB := hB.trans (hB19.mono hB.size)
  refine sI hS (runs_bin (r := .bool true) rfl rfl rfl (by rw [run_eql_bool _ 4 _ _ (by kernel_rfl)]; simp)) fun _ hS => ?_
  refine sI hS (runs_assign rfl) fun _ hS => ?_
  exact nil_ok (qx_ret (ret1 (t := 4) (by kernel_rfl) hS rfl ⟨_, rfl, rfl, hB⟩))
set_option maxHeartbeats 1000000 in
theorem turned_law (hAw : AwkC) (hP : PutC) (hC : ChkC) (hT : RootC) (l : List E) (n : Nat) (hn : n < 256) (v : Value) (w : World) (hE : Edges w v l) (hf : FitsM l) (hk : Kept w) : Ans 5 [v, .int .u8 (n : Int)] w (fun u w' => u = .bool true ∧ Below w.heap.size w w') := by
  obtain ⟨A, c, rfl, hc1, hc2, hA⟩ := hE
  have hE : Edges w (.slice A l.length c) l := ⟨A, c, rfl, hc1, hc2, hA⟩
  have hcm := hc2
  unfold maxLen at hcm
  refine calls_qx (args := [.slice A l.length c, .int .u8 (n : Int)]) 75 Tryz.func5 rfl (by kernel_rfl) (by simp) (fun a hS => ?_)
  have hB := Below.refl w.heap.size w
  have hEb := hE
  refine qx_seq (reg_seq ?_)
  refine sI hS (runs_assign rfl) fun _ hS => ?_
  refine nil_ok (qx_seq (qx_seq (reg_seq ?_)))
  refine seq_op hS (by decide) (runs_call (args := []) goes9 rfl (hAw w (hk.below hB hk.pos))) (fun v1 w1 a1 hp hS => ?_)
  obtain ⟨rfl, hB1⟩ := hp
  have hB := hB.trans (hB1.mono hB.size)
  have hE := hEb.kept hB
  refine sI hS (runs_not (b := true) rfl) fun _ hS => ?_
  refine sI hS (runs_move rfl) fun _ hS => ?_
  refine sY hS (runs_move rfl) fun _ hS => ?_
  refine sY hS (runs_len rfl und32) fun _ hS => ?_
  by_cases h60 : 60 < l.length
  · skip
    refine sY hS (gtrT rfl rfl (by omega)) fun _ hS => ?_
    refine sI hS (runs_pick rfl rfl) fun _ hS => ?_
    refine sI hS (runs_move rfl) fun _ hS => ?_
    refine sN hS fun _ hS => ?_
    refine sN hS fun _ hS => ?_
    refine sN hS fun _ hS => ?_
    refine sI hS (runs_pick rfl rfl) fun _ hS => ?_
    refine nil_ok (wp_cond_true (hS.eval rfl) (qx_seq (reg_seq ?_)))
    refine seq_op hS (by decide) (runs_call (args := []) goes9 rfl (hAw w1 (hk.below hB hk.pos))) (fun v3 w3 a1 hp hS => ?_)
    obtain ⟨rfl, hB3⟩ := hp
    have hB := hB.trans (hB3.mono hB.size)
    have hE := hEb.kept hB
    refine sI hS (runs_assign rfl) fun _ hS => ?_
    exact nil_ok (qx_ret (ret1 (t := 4) (by kernel_rfl) hS rfl ⟨_, rfl, rfl, hB⟩))
  refine sY hS (gtrF rfl rfl (by omega)) fun _ hS => ?_
  refine sI hS (runs_pick rfl rfl) fun _ hS => ?_
  refine sI hS (runs_move rfl) fun _ hS => ?_
  refine sY hS (runs_move rfl) fun _ hS => ?_
  refine sY hS (runs_len rfl und32) fun _ hS => ?_
  by_cases h0 : l.length = 0
  · skip
    refine sY hS (runs_eql (r := true) rfl rfl (by simp [h0])) fun _ hS => ?_
    refine sI hS (runs_pick rfl rfl) fun _ hS => ?_
    refine nil_ok (wp_cond_true (hS.eval rfl) (qx_seq (reg_seq ?_)))
    refine seq_op hS (by decide) (runs_call (args := []) goes9 rfl (hAw w1 (hk.below hB hk.pos))) (fun v5 w5 a1 hp hS => ?_)
    obtain ⟨rfl, hB5⟩ := hp
    have hB := hB.trans (hB5.mono hB.size)
    have hE := hEb.kept hB
    refine sI hS (runs_assign rfl) fun _ hS => ?_
    exact nil_ok (qx_ret (ret1 (t := 4) (by kernel_rfl) hS rfl ⟨_, rfl, rfl, hB⟩))
  refine sY hS (runs_eql (r := false) rfl rfl (by rw [beq_eq_false_iff_ne]; omega)) fun _ hS => ?_
  refine sI hS (runs_pick rfl rfl) fun _ hS => ?_
  refine nil_ok (wp_cond_false (hS.eval rfl) (wp_skip (qx_seq (reg_seq ?_))))
  refine sI hS (runs_move rfl) fun _ hS => ?_
  refine sI hS (runs_convInt (r := (n : Int)) rfl (by decide) und3 (by simp [IntKind.wrap, IntKind.bits, IntKind.signed]; omega)) fun _ hS => ?_
  refine sI hS (runs_move rfl) fun _ hS => ?_
  refine sI hS (runs_len rfl und32) fun _ hS => ?_
  refine sI hS (runs_rem (r := ((n % l.length : Nat) : Int)) rfl rfl (by omega) (by rw [Int.tmod_eq_emod_of_nonneg (by omega)]; omega)) fun _ hS => ?_
  refine sI hS (runs_assign rfl) fun _ hS => ?_
  refine nil_ok (qx_seq (?_))
  obtain ⟨k, hkk⟩ : ∃ k, n % l.length = k := ⟨_, rfl⟩
  have hkl : k < l.length := by rw [← hkk]; exact Nat.mod_lt _ (by omega)
  rw [hkk] at hS
  have hTk := edges_take hE k (Nat.le_of_lt hkl)
  have hDk := edges_drop hE k (Nat.le_of_lt hkl)
  obtain ⟨Ad, hAd⟩ : ∃ Ad, (if c = k then A else A.map (·.add (k * 3))) = Ad := ⟨_, rfl⟩
  rw [hAd] at hDk
  have hldk : (l.drop k).length = l.length - k := List.length_drop
  have hltk : (l.take k).length = k := by rw [List.length_take]; omega
  have hcl := hE.cap_le
  have hsz4 := hB.size
  refine reg_k (KY w1.heap.size (cellsE (l.drop k ++ l.take k))) (fun w' => KY w1.heap.size (cellsE (l.drop k ++ l.take k)) w1 w') [.inr (fun v w' => ∃ g, v = .slice (some ⟨g, 0, none⟩) 0 0 ∧ w'.ownsRow w1.heap.size 43 3 v 0 []), .inl (.slice A l.length c), .inl (.int .i64 ((k : Nat) : Int)), .inl (.slice Ad (l.length - k) (c - k)), .inr (fun v w' => ∃ g2 c2, v = .slice (some ⟨g2, 0, none⟩) (l.drop k).length c2 ∧ ((l.drop k).length = 0 → c2 = 0) ∧ w'.ownsRow w1.heap.size 43 3 v (l.drop k).length (cellsE (l.drop k))), .inl (.slice A l.length c), .inl (.int .i64 ((k : Nat) : Int)), .inl (.slice A k c)] 8 2 mixed rfl (by kernel_rfl) hS KY.refl (fun _ h => h.drew) ?_
  refine ks_pr rfl (fun _ _ _ h hk => by obtain ⟨g, h1, h2⟩ := h; exact ⟨g, h1, hk.2.1 _ _ _ List.nil_prefix h2⟩) (fun w' hw hq => (none_ownM (B := w1.heap.size) hw.1.size).mono (by rintro v w5 ⟨h1, hb⟩; exact ⟨h1, hw.trans (KY.of_below hb hw.1.size), KY.of_below hb hw.1.size⟩)) (fun u0 => ?_)
  refine ks_is rfl (fun w' hw => runs_move rfl) ?_
  refine ks_is rfl (fun w' hw => runs_move rfl) ?_
  refine ks_is rfl (fun w' hw => runs_sliceFromE (l := k) rfl rfl rfl und32 sz41 (by omega) hAd) ?_
  refine ks_pr rfl (fun _ _ _ h hk => by obtain ⟨g2, c2, h1, h3, h2⟩ := h; exact ⟨g2, c2, h1, h3, hk.2.1 _ _ _ (by rw [cellsE_append]; exact List.prefix_append _ _) h2⟩) (fun w' hw hq => (by obtain ⟨g, rfl, h0'⟩ := hq (0, _) List.mem_cons_self (by kernel_rfl); exact (copy_ownM (B := w1.heap.size) (hDk.kept hw.1) (by omega) hw.1.size rfl h0' rfl).mono (by rintro v w5 ⟨⟨g2, c2, h1, h3⟩, h2, hb⟩; exact ⟨⟨g2, c2, h1, h3, h2⟩, hw.trans (KY.of_below hb hw.1.size), KY.of_below hb hw.1.size⟩))) (fun u4 => ?_)
  refine ks_is rfl (fun w' hw => runs_move rfl) ?_
  refine ks_is rfl (fun w' hw => runs_move rfl) ?_
  refine ks_is rfl (fun w' hw => runs_sliceToG (k := k) rfl rfl rfl und32 (by rw [Option.isSome_map.symm.trans (congrArg Option.isSome sz41)]; rfl) (by omega)) ?_
  refine (fun a7 w7 hS hK7 hq => ?_)
  have hB7 := hK7.1

  obtain ⟨g2, c2, rfl, hg2c, hown2⟩ := (hq (4, _) List.mem_cons_self)
  clear hq
  have hB := hB.trans (hB7.mono hB.size)
  have hE := hEb.kept hB
  have hTk := hTk.kept hB7
  refine tail_op 8 (by kernel_rfl) rfl hS (by decide) (app_ownY (B := w1.heap.size) (xs := l.drop k) (es := l.take k) (n := l.length) hTk (by omega) hK7.1.size rfl hown2 rfl (.inr (by simp)) (fun h => by rcases Nat.lt_or_ge 1 l.length with h1 | h1; exact .inl h1; exact .inr (fun g m c e => by cases e; exact hg2c (by omega))) (by omega)) (fun v9 w9 a9 hp hS => ⟨trivial, ?_⟩)
  obtain ⟨⟨g6, c6, rfl⟩, hown6, hK6, _, _⟩ := hp
  have hMt := edges_ownE hown6 (by simp; omega)
  have hB6 := hK6.1
  have hB := hB.trans (hB6.mono hsz4)
  have hE := hEb.kept hB
  refine tail_op 9 (by kernel_rfl) rfl hS (by decide) (runs_assign rfl) (fun v10 w10 a10 hp hS => ⟨trivial, ?_⟩)
  obtain ⟨rfl, rfl⟩ := hp
  refine wpAnyH_done (by kernel_rfl) ?_ _
  refine qx_seq (reg_seq ?_)
  refine sI hS (runs_move rfl) fun _ hS => ?_
  refine seq_op hS (by decide) (runs_call (args := [.slice A l.length c]) goes11 rfl (own_any l (by omega) _ w10 hE)) (fun v11 w11 a1 hp hS => ?_)
  obtain ⟨hB11, ho11⟩ := hp
  have hO1 := edges_ownE ho11 rfl
  have hB := hB.trans (hB11.mono hB.size)
  have hE := hEb.kept hB
  have hMt := hMt.kept hB11
  refine seq_op hS (by decide) (runs_call (args := [v11]) goes10 rfl (hP l _ w11 hO1 (by omega))) (fun v13 w13 a1 hp hS => ?_)
  obtain ⟨rfl, hB13⟩ := hp
  have hB := hB.trans (hB13.mono hB.size)
  have hE := hEb.kept hB
  have hMt := hMt.kept hB13
  refine sI hS (runs_move rfl) fun _ hS => ?_
  refine sI hS (runs_extract rfl rfl) fun _ hS => ?_
  refine sI hS (runs_extract rfl rfl) fun _ hS => ?_
  refine sI hS (runs_assign rfl) fun _ hS => ?_
  refine sI hS (runs_assign rfl) fun _ hS => ?_
  refine nil_ok (qx_seq (?_))
  have hperm : (l.drop k ++ l.take k).Perm l := by
    have h := List.perm_append_comm (l₁ := l.drop k) (l₂ := l.take k)
    rwa [List.take_append_drop] at h
  refine reg_seq ?_
  refine sI hS (runs_move rfl) fun _ hS => ?_
  refine seq_op hS (by decide) (runs_call (args := [.slice (some ⟨g6, 0, none⟩) l.length c6]) goes10 rfl (hP (l.drop k ++ l.take k) _ w13 hMt (by simp; omega))) (fun v15 w15 a1 hp hS => ?_)
  obtain ⟨rfl, hB15⟩ := hp
  have hB := hB.trans (hB15.mono hB.size)
  have hE := hEb.kept hB
  have hMt := hMt.kept hB15
  refine sI hS (runs_move rfl) fun _ hS => ?_
  refine sI hS (runs_extract rfl rfl) fun _ hS => ?_
  refine sI hS (runs_extract rfl rfl) fun _ hS => ?_
  refine sI hS (runs_assign rfl) fun _ hS => ?_
  refine sI hS (runs_assign rfl) fun _ hS => ?_
  refine nil_ok (qx_seq (reg_seq ?_))
  refine sI hS (runs_move rfl) fun _ hS => ?_
  refine sI hS (runs_move rfl) fun _ hS => ?_
  refine sI hS (runs_eqStr (r := true) rfl rfl (by rw [putM_perm hperm]; simp)) fun _ hS => ?_
  refine sI hS (runs_move rfl) fun _ hS => ?_
  refine sY hS (runs_move rfl) fun _ hS => ?_
  refine sY hS (runs_move rfl) fun _ hS => ?_
  refine sY hS (runs_eql (r := true) rfl rfl (by rw [chkM_perm hperm]; simp)) fun _ hS => ?_
  refine sI hS (runs_pick rfl rfl) fun _ hS => ?_
  refine sI hS (runs_move rfl) fun _ hS => ?_
  refine sY hS (runs_move rfl) fun _ hS => ?_
  refine seq_yes hS (by decide) rfl (by decide) rfl (runs_call (args := [.slice A l.length c]) goes11 rfl (own_any l (by omega) _ w15 hE)) (fun v17 w17 a1 hp hS => ?_)
  obtain ⟨hB17, ho17⟩ := hp
  have hO3 := edges_ownE ho17 rfl
  have hB := hB.trans (hB17.mono hB.size)
  have hE := hEb.kept hB
  have hMt := hMt.kept hB17
  refine seq_yes hS (by decide) rfl (by decide) rfl (runs_call (args := [v17]) goes12 rfl (hT l _ w17 hO3 (by omega) hf (hk.below hB hk.pos))) (fun v19 w19 a1 hp hS => ?_)
  obtain ⟨rfl, hB19⟩ := hp
  have hB := hB.trans (hB19.mono hB.size)
  have hE := hEb.kept hB
  have hMt := hMt.kept hB19
  refine sY hS (runs_move rfl) fun _ hS => ?_
  refine seq_yes hS (by decide) rfl (by decide) rfl (runs_call (args := [.slice (some ⟨g6, 0, none⟩) l.length c6]) goes11 rfl (own_any (l.drop k ++ l.take k) (by simp; omega) _ w19 hMt)) (fun v21 w21 a1 hp hS => ?_)
  obtain ⟨hB21, ho21⟩ := hp
  have hO4 := edges_ownE ho21 rfl
  have hB := hB.trans (hB21.mono hB.size)
  have hE := hEb.kept hB
  have hMt := hMt.kept hB21
  refine seq_yes hS (by decide) rfl (by decide) rfl (runs_call (args := [v21]) goes12 rfl (hT (l.drop k ++ l.take k) _ w21 hO4 (by simp; omega) (hf.sub (fun x hx => hperm.mem_iff.1 hx)) (hk.below hB hk.pos))) (fun v23 w23 a1 hp hS => ?_)
  obtain ⟨rfl, hB23⟩ := hp
  have hB := hB.trans (hB23.mono hB.size)
  have hE := hEb.kept hB
  have hMt := hMt.kept hB23
  refine sY hS (runs_eqHash (r := true) rfl rfl (rootM_len _) (rootM_len _) (by rw [rootM_perm hperm]; simp)) fun _ hS => ?_
  refine sI hS (runs_pick rfl rfl) fun _ hS => ?_
  refine sI hS (runs_move rfl) fun _ hS => ?_
  refine sY hS (runs_move rfl) fun _ hS => ?_
  refine seq_yes hS (by decide) rfl (by decide) rfl (runs_call (args := [.slice A l.length c]) goes11 rfl (own_any l (by omega) _ w23 hE)) (fun v25 w25 a1 hp hS => ?_)
  obtain ⟨hB25, ho25⟩ := hp
  have hO5 := edges_ownE ho25 rfl
  have hB := hB.trans (hB25.mono hB.size)
  have hMt := hMt.kept hB25
  refine seq_yes hS (by decide) rfl (by decide) rfl (runs_call (args := [v25]) goes15 rfl (hC l _ w25 hO5 (by omega))) (fun v27 w27 a1 hp hS => ?_)
  obtain ⟨rfl, hB27⟩ := hp
  have hB := hB.trans (hB27.mono hB.size)
  have hMt := hMt.kept hB27
  refine sY hS (runs_move rfl) fun _ hS => ?_
  refine seq_yes hS (by decide) rfl (by decide) rfl (runs_call (args := [.slice (some ⟨g6, 0, none⟩) l.length c6]) goes11 rfl (own_any (l.drop k ++ l.take k) (by simp; omega) _ w27 hMt)) (fun v29 w29 a1 hp hS => ?_)
  obtain ⟨hB29, ho29⟩ := hp
  have hO6 := edges_ownE ho29 rfl
  have hB := hB.trans (hB29.mono hB.size)
  refine seq_yes hS (by decide) rfl (by decide) rfl (runs_call (args := [v29]) goes15 rfl (hC (l.drop k ++ l.take k) _ w29 hO6 (by simp; omega))) (fun v31 w31 a1 hp hS => ?_)
  obtain ⟨rfl, hB31⟩ := hp
  have hB := hB.trans (hB31.mono hB.size)
  refine sY hS (runs_eql (r := true) rfl rfl (by rw [chkM_perm hperm]; simp)) fun _ hS => ?_
  refine sI hS (runs_pick rfl rfl) fun _ hS => ?_
  refine sI hS (runs_assign rfl) fun _ hS => ?_
  exact nil_ok (qx_ret (ret1 (t := 4) (by kernel_rfl) hS rfl ⟨_, rfl, rfl, hB⟩))
set_option maxHeartbeats 1000000 in
theorem own_room (l : List E) (hl : l.length ≤ 100000) (v : Value) (w : World) (hE : Edges w v l) : Ans 11 [v] w (fun u w' => (∃ g c, u = .slice (some ⟨g, 0, none⟩) l.length c ∧ (l.length = 0 → c = 0)) ∧ w'.ownsRow w.heap.size 43 3 u l.length (cellsE l) ∧ Below w.heap.size w w') := by
  obtain ⟨A, c, rfl, hc1, hc2, hA⟩ := hE
  have hE : Edges w (.slice A l.length c) l := ⟨A, c, rfl, hc1, hc2, hA⟩
  have hcm := hc2
  unfold maxLen at hcm
  refine calls_qx (args := [.slice A l.length c]) 6 Tryz.func11 rfl (by kernel_rfl) (by simp) (fun a hS => ?_)
  have hB := Below.refl w.heap.size w
  have hEb := hE
  refine qx_seq (reg_seq ?_)
  refine sI hS (runs_assign rfl) fun _ hS => ?_
  refine nil_ok (qx_seq (reg_seq ?_))
  refine seq_op hS (by decide) (none_ownM (B := w.heap.size) hB.size) (fun v1 w1 a1 hp hS => ?_)
  obtain ⟨⟨g, rfl, h0⟩, hB1⟩ := hp
  have hB := hB.trans (hB1.mono hB.size)
  have hE := hEb.kept hB
  refine sI hS (runs_move rfl) fun _ hS => ?_
  refine seq_op hS (by decide) (copy_ownM (B := w.heap.size) hE hl hB.size rfl h0 rfl) (fun v3 w3 a1 hp hS => ?_)
  obtain ⟨⟨g2, c2, rfl, hc0⟩, hown2, hB3⟩ := hp
  have hB := hB.trans (hB3.mono hB.size)
  refine sI hS (runs_assign rfl) fun _ hS => ?_
  exact nil_ok (qx_ret (ret1 (t := 2) (by kernel_rfl) hS rfl ⟨_, rfl, ⟨g2, c2, rfl, hc0⟩, hown2, hB⟩))
set_option maxHeartbeats 1000000 in
theorem less_law (hAw : AwkC) (hC : ChkC) (l : List E) (n : Nat) (hn : n < 256) (v : Value) (w : World) (hE : Edges w v l) (hk : Kept w) : Ans 8 [v, .int .u8 (n : Int)] w (fun u w' => u = .bool true ∧ Below w.heap.size w w') := by
  obtain ⟨A, c, rfl, hc1, hc2, hA⟩ := hE
  have hE : Edges w (.slice A l.length c) l := ⟨A, c, rfl, hc1, hc2, hA⟩
  have hcm := hc2
  unfold maxLen at hcm
  refine calls_qx (args := [.slice A l.length c, .int .u8 (n : Int)]) 57 Tryz.func8 rfl (by kernel_rfl) (by simp) (fun a hS => ?_)
  have hB := Below.refl w.heap.size w
  have hEb := hE
  refine qx_seq (reg_seq ?_)
  refine sI hS (runs_assign rfl) fun _ hS => ?_
  refine nil_ok (qx_seq (qx_seq (reg_seq ?_)))
  refine seq_op hS (by decide) (runs_call (args := []) goes9 rfl (hAw w (hk.below hB hk.pos))) (fun v1 w1 a1 hp hS => ?_)
  obtain ⟨rfl, hB1⟩ := hp
  have hB := hB.trans (hB1.mono hB.size)
  have hE := hEb.kept hB
  refine sI hS (runs_not (b := true) rfl) fun _ hS => ?_
  refine sI hS (runs_move rfl) fun _ hS => ?_
  refine sY hS (runs_move rfl) fun _ hS => ?_
  refine sY hS (runs_len rfl und32) fun _ hS => ?_
  by_cases h60 : 60 < l.length
  · skip
    refine sY hS (gtrT rfl rfl (by omega)) fun _ hS => ?_
    refine sI hS (runs_pick rfl rfl) fun _ hS => ?_
    refine sI hS (runs_move rfl) fun _ hS => ?_
    refine sN hS fun _ hS => ?_
    refine sN hS fun _ hS => ?_
    refine sN hS fun _ hS => ?_
    refine sI hS (runs_pick rfl rfl) fun _ hS => ?_
    refine sI hS (runs_move rfl) fun _ hS => ?_
    refine sN hS fun _ hS => ?_
    refine sN hS fun _ hS => ?_
    refine sN hS fun _ hS => ?_
    refine sN hS fun _ hS => ?_
    refine sI hS (runs_pick rfl rfl) fun _ hS => ?_
    refine nil_ok (wp_cond_true (hS.eval rfl) (qx_seq (reg_seq ?_)))
    refine seq_op hS (by decide) (runs_call (args := []) goes9 rfl (hAw w1 (hk.below hB hk.pos))) (fun v3 w3 a1 hp hS => ?_)
    obtain ⟨rfl, hB3⟩ := hp
    have hB := hB.trans (hB3.mono hB.size)
    have hE := hEb.kept hB
    refine sI hS (runs_assign rfl) fun _ hS => ?_
    exact nil_ok (qx_ret (ret1 (t := 4) (by kernel_rfl) hS rfl ⟨_, rfl, rfl, hB⟩))
  refine sY hS (gtrF rfl rfl (by omega)) fun _ hS => ?_
  refine sI hS (runs_pick rfl rfl) fun _ hS => ?_
  refine sI hS (runs_move rfl) fun _ hS => ?_
  refine sY hS (runs_move rfl) fun _ hS => ?_
  refine sY hS (runs_len rfl und32) fun _ hS => ?_
  by_cases h0 : l.length = 0
  · skip
    refine sY hS (runs_eql (r := true) rfl rfl (by simp [h0])) fun _ hS => ?_
    refine sI hS (runs_pick rfl rfl) fun _ hS => ?_
    refine sI hS (runs_move rfl) fun _ hS => ?_
    refine sN hS fun _ hS => ?_
    refine sN hS fun _ hS => ?_
    refine sN hS fun _ hS => ?_
    refine sN hS fun _ hS => ?_
    refine sI hS (runs_pick rfl rfl) fun _ hS => ?_
    refine nil_ok (wp_cond_true (hS.eval rfl) (qx_seq (reg_seq ?_)))
    refine seq_op hS (by decide) (runs_call (args := []) goes9 rfl (hAw w1 (hk.below hB hk.pos))) (fun v5 w5 a1 hp hS => ?_)
    obtain ⟨rfl, hB5⟩ := hp
    have hB := hB.trans (hB5.mono hB.size)
    have hE := hEb.kept hB
    refine sI hS (runs_assign rfl) fun _ hS => ?_
    exact nil_ok (qx_ret (ret1 (t := 4) (by kernel_rfl) hS rfl ⟨_, rfl, rfl, hB⟩))
  refine sY hS (runs_eql (r := false) rfl rfl (by rw [beq_eq_false_iff_ne]; omega)) fun _ hS => ?_
  refine sI hS (runs_pick rfl rfl) fun _ hS => ?_
  refine sI hS (runs_move rfl) fun _ hS => ?_
  refine sY hS (runs_move rfl) fun _ hS => ?_
  refine seq_yes hS (by decide) rfl (by decide) rfl (runs_call (args := [.slice A l.length c]) goes11 rfl (own_any l (by omega) _ w1 hE)) (fun v7 w7 a1 hp hS => ?_)
  obtain ⟨hB7, ho7⟩ := hp
  have hO1 := edges_ownE ho7 rfl
  have hB := hB.trans (hB7.mono hB.size)
  have hE := hEb.kept hB
  refine seq_yes hS (by decide) rfl (by decide) rfl (runs_call (args := [v7]) goes15 rfl (hC l _ w7 hO1 (by omega))) (fun v9 w9 a1 hp hS => ?_)
  obtain ⟨rfl, hB9⟩ := hp
  have hB := hB.trans (hB9.mono hB.size)
  have hE := hEb.kept hB
  by_cases hr : ¬ rightM l = true
  · skip
    refine sY hS (runs_neq (r := true) rfl rfl (by rw [chkM_bad hr]; rfl)) fun _ hS => ?_
    refine sI hS (runs_pick rfl rfl) fun _ hS => ?_
    refine nil_ok (wp_cond_true (hS.eval rfl) (qx_seq (reg_seq ?_)))
    refine seq_op hS (by decide) (runs_call (args := []) goes9 rfl (hAw w9 (hk.below hB hk.pos))) (fun v11 w11 a1 hp hS => ?_)
    obtain ⟨rfl, hB11⟩ := hp
    have hB := hB.trans (hB11.mono hB.size)
    have hE := hEb.kept hB
    refine sI hS (runs_assign rfl) fun _ hS => ?_
    exact nil_ok (qx_ret (ret1 (t := 4) (by kernel_rfl) hS rfl ⟨_, rfl, rfl, hB⟩))
  refine sY hS (runs_neq (r := false) rfl rfl (by rw [chkM_ok (Classical.not_not.1 hr)]; rfl)) fun _ hS => ?_
  refine sI hS (runs_pick rfl rfl) fun _ hS => ?_
  refine nil_ok (wp_cond_false (hS.eval rfl) (wp_skip (qx_seq (reg_seq ?_))))
  refine sI hS (runs_move rfl) fun _ hS => ?_
  refine sI hS (runs_convInt (r := (n : Int)) rfl (by decide) und3 (by simp [IntKind.wrap, IntKind.bits, IntKind.signed]; omega)) fun _ hS => ?_
  refine sI hS (runs_move rfl) fun _ hS => ?_
  refine sI hS (runs_len rfl und32) fun _ hS => ?_
  refine sI hS (runs_rem (r := ((n % l.length : Nat) : Int)) rfl rfl (by omega) (by rw [Int.tmod_eq_emod_of_nonneg (by omega)]; omega)) fun _ hS => ?_
  refine sI hS (runs_assign rfl) fun _ hS => ?_
  refine nil_ok (qx_seq (?_))
  replace hr := Classical.not_not.1 hr
  obtain ⟨k, hkk⟩ : ∃ k, n % l.length = k := ⟨_, rfl⟩
  have hkl : k < l.length := by rw [← hkk]; exact Nat.mod_lt _ (by omega)
  rw [hkk] at hS
  have hTk := edges_take hE k (Nat.le_of_lt hkl)
  have hDk := edges_drop hE (k + 1) hkl
  obtain ⟨Ad, hAd⟩ : ∃ Ad, (if c = k + 1 then A else A.map (·.add ((k + 1) * 3))) = Ad := ⟨_, rfl⟩
  rw [hAd] at hDk
  have hldk : (l.drop (k + 1)).length = l.length - (k + 1) := List.length_drop
  have hltk : (l.take k).length = k := by rw [List.length_take]; omega
  have hcl := hE.cap_le
  have hsz4 := hB.size
  obtain ⟨x, hxk⟩ : ∃ x, l[k]? = some x := ⟨l[k], by simp [hkl]⟩
  refine reg_k (KY w9.heap.size (cellsE (l.take k ++ l.drop (k + 1)))) (fun w' => KY w9.heap.size (cellsE (l.take k ++ l.drop (k + 1))) w9 w') [.inl (.slice A l.length c), .inl (.int .i64 ((k : Nat) : Int)), .inl (.slice A k c), .inr (fun v w' => ∃ g2 c2, v = .slice (some ⟨g2, 0, none⟩) (l.take k).length c2 ∧ ((l.take k).length = 0 → c2 = 0) ∧ w'.ownsRow w9.heap.size 43 3 v (l.take k).length (cellsE (l.take k))), .inl (.slice A l.length c), .inl (.int .i64 ((k : Nat) : Int)), .inl (.int .i64 ((k + 1 : Nat) : Int)), .inl (.slice Ad (l.length - (k + 1)) (c - (k + 1)))] 8 2 mixed rfl (by kernel_rfl) hS KY.refl (fun _ h => h.drew) ?_
  refine ks_is rfl (fun w' hw => runs_move rfl) ?_
  refine ks_is rfl (fun w' hw => runs_move rfl) ?_
  refine ks_is rfl (fun w' hw => runs_sliceToG (k := k) rfl rfl rfl und32 (by rw [Option.isSome_map.symm.trans (congrArg Option.isSome sz41)]; rfl) (by omega)) ?_
  refine ks_pr rfl (fun _ _ _ h hk => by obtain ⟨g2, c2, h1, h3, h2⟩ := h; exact ⟨g2, c2, h1, h3, hk.2.1 _ _ _ (by rw [cellsE_append]; exact List.prefix_append _ _) h2⟩) (fun w' hw hq => (runs_call (args := [.slice A k c]) goes11 rfl (own_room (l.take k) (by omega) _ w' (hTk.kept hw.1))).mono (by rintro v w5 ⟨⟨g2, c2, h1, h3⟩, h2, hb⟩; exact ⟨⟨g2, c2, h1, h3, owns_mono h2 hw.1.size⟩, hw.trans (KY.of_below hb hw.1.size), KY.of_below hb hw.1.size⟩)) (fun u3 => ?_)
  refine ks_is rfl (fun w' hw => runs_move rfl) ?_
  refine ks_is rfl (fun w' hw => runs_move rfl) ?_
  refine ks_is rfl (fun w' hw => runs_add (r := ((k + 1 : Nat) : Int)) rfl rfl (by simp [IntKind.wrap, IntKind.bits, IntKind.signed]; omega)) ?_
  refine ks_is rfl (fun w' hw => runs_sliceFromE (l := k + 1) rfl rfl rfl und32 sz41 (by omega) hAd) ?_
  refine (fun a13 w13 hS hK13 hq => ?_)
  have hB13 := hK13.1
  obtain ⟨g2, c2, rfl, hg2c, hown2⟩ := (hq (3, _) List.mem_cons_self)
  clear hq
  have hB := hB.trans (hB13.mono hB.size)
  have hE := hEb.kept hB
  have hDk := hDk.kept hB13
  refine tail_op 8 (by kernel_rfl) rfl hS (by decide) (app_ownY (B := w9.heap.size) (xs := l.take k) (es := l.drop (k + 1)) (n := l.length - 1) hDk (by omega) hK13.1.size rfl hown2 rfl (.inr (by simp)) (fun h => by rcases Nat.lt_or_ge 1 (l.length - 1) with h1 | h1; exact .inl h1; exact .inr (fun g m c e => by cases e; exact hg2c (by omega))) (by omega)) (fun v15 w15 a15 hp hS => ⟨trivial, ?_⟩)
  clear hg2c
  obtain ⟨⟨g6, c6, rfl⟩, hown6, hK6, _, _⟩ := hp
  have hMt := edges_ownE hown6 (by simp; omega)
  have hB6 := hK6.1
  have hB := hB.trans (hB6.mono hsz4)
  have hE := hEb.kept hB
  refine tail_op 9 (by kernel_rfl) rfl hS (by decide) (runs_assign rfl) (fun v16 w16 a16 hp hS => ⟨trivial, ?_⟩)
  obtain ⟨rfl, rfl⟩ := hp
  refine wpAnyH_done (by kernel_rfl) ?_ _
  refine qx_seq (?_)
  have hsz5 := hB.size
  have hMt5 := hMt
  obtain ⟨b, o, rfl, hbw, hrr⟩ := edges_row hE (by omega)
  have hrx := edges_at hrr hxk
  refine reg_k (KY w16.heap.size (cellsE (l ++ [x]))) (fun w' => KY w16.heap.size (cellsE (l ++ [x])) w16 w') [.inl (.slice (some ⟨b, o, none⟩) l.length c), .inr (fun v w' => ∃ g2 c2, v = .slice (some ⟨g2, 0, none⟩) l.length c2 ∧ (l.length = 0 → c2 = 0) ∧ w'.ownsRow w16.heap.size 43 3 v l.length (cellsE l)), .inl (.slice (some ⟨b, o, none⟩) l.length c), .inl (.int .i64 ((k : Nat) : Int)), .inl (.pointer (some ⟨b, o + k * 3, none⟩)), .inl (.agg (encE x).toArray), .inr (fun v w' => ∃ g5, v = .slice (some ⟨g5, 0, none⟩) 1 1 ∧ Has w' g5 43 (encE x))] 7 2 mixed rfl (by kernel_rfl) hS KY.refl (fun _ h => h.drew) ?_
  refine ks_is rfl (fun w' hw => runs_move rfl) ?_
  refine ks_pr rfl (fun _ _ _ h hk => by obtain ⟨g2, c2, h1, h3, h2⟩ := h; exact ⟨g2, c2, h1, h3, hk.2.1 _ _ _ (by rw [cellsE_append]; exact List.prefix_append _ _) h2⟩) (fun w' hw hq => (runs_call (args := [.slice (some ⟨b, o, none⟩) l.length c]) goes11 rfl (own_room l (by omega) _ w' (hE.kept hw.1))).mono (by rintro v w5 ⟨⟨g2, c2, h1, h3⟩, h2, hb⟩; exact ⟨⟨g2, c2, h1, h3, owns_mono h2 hw.1.size⟩, hw.trans (KY.of_below hb hw.1.size), KY.of_below hb hw.1.size⟩)) (fun u1 => ?_)
  refine ks_is rfl (fun w' hw => runs_move rfl) ?_
  refine ks_is rfl (fun w' hw => runs_move rfl) ?_
  refine ks_is rfl (fun w' hw => runs_indexAddrG (j := k) rfl rfl und32 sz41 rfl hkl) ?_
  refine ks_is rfl (fun w' hw => runs_loadM rfl (range_below hrx hw.1 hbw)) ?_
  refine ks_pr rfl (fun _ _ _ h hk => by obtain ⟨g5, h1, h2⟩ := h; exact ⟨g5, h1, hk.2.2.2 _ _ rfl h2⟩) (fun w' hw hq => (runs_oneM rfl).mono (by rintro v w5 ⟨g5, h1, h2, hb⟩; exact ⟨⟨g5, h1, h2⟩, hw.trans (KY.of_below hb hw.1.size), KY.of_below hb hw.1.size⟩)) (fun u6 => ?_)
  refine (fun a17 w17 hS hK17 hq => ?_)
  have hB17 := hK17.1
  obtain ⟨g7, c7, rfl, hg7c, hown7⟩ := (hq (1, _) (List.mem_cons_of_mem _ List.mem_cons_self))
  obtain ⟨g5, rfl, hX5⟩ := (hq (6, _) List.mem_cons_self)
  clear hq
  have hB := hB.trans (hB17.mono hB.size)
  have hMt := hMt.kept hB17
  refine tail_op 7 (by kernel_rfl) rfl hS (by decide) (app_ownY (B := w16.heap.size) (xs := l) (es := [x]) (n := l.length + 1) (edges_has1 hX5) (by simp; omega) hK17.1.size rfl hown7 rfl (.inl (by simp)) (fun _ => .inl (by omega)) (by simp)) (fun v19 w19 a19 hp hS => ⟨trivial, ?_⟩)
  clear hg7c
  obtain ⟨⟨g8, c8, rfl⟩, hown8, hK8, _, _⟩ := hp
  have hMr := edges_ownE hown8 (by simp)
  have hB8 := hK8.1
  have hMt := hMt5.kept (hK17.1.trans hB8)
  have hB := hB.trans (hB8.mono hsz5)
  refine tail_op 8 (by kernel_rfl) rfl hS (by decide) (runs_assign rfl) (fun v20 w20 a20 hp hS => ⟨trivial, ?_⟩)
  obtain ⟨rfl, rfl⟩ := hp
  refine wpAnyH_done (by kernel_rfl) ?_ _
  refine qx_seq (?_)
  have hsplit : l = l.take k ++ x :: l.drop (k + 1) := by
    have h1 := (List.getElem?_eq_some_iff.1 hxk).2
    rw [← h1, ← List.drop_eq_getElem_cons hkl, List.take_append_drop]
  have hless : rightM (l.take k ++ l.drop (k + 1)) = true := rightM_less (hsplit ▸ hr)
  have hmore : ¬ rightM (l ++ [x]) = true := by rw [rightM_more (List.mem_of_getElem? hxk)]; simp
  refine reg_seq ?_
  refine sI hS (runs_move rfl) fun _ hS => ?_
  refine seq_op hS (by decide) (runs_call (args := [.slice (some ⟨g6, 0, none⟩) (l.length - 1) c6]) goes15 rfl (hC (l.take k ++ l.drop (k + 1)) _ w20 hMt (by simp; omega))) (fun v21 w21 a1 hp hS => ?_)
  obtain ⟨rfl, hB21⟩ := hp
  have hB := hB.trans (hB21.mono hB.size)
  have hMr := hMr.kept hB21
  refine sI hS (runs_eql (r := true) rfl rfl (by rw [chkM_ok hless]; rfl)) fun _ hS => ?_
  refine sI hS (runs_move rfl) fun _ hS => ?_
  refine sY hS (runs_move rfl) fun _ hS => ?_
  refine seq_yes hS (by decide) rfl (by decide) rfl (runs_call (args := [.slice (some ⟨g8, 0, none⟩) (l.length + 1) c8]) goes15 rfl (hC (l ++ [x]) _ w21 hMr (by simp; omega))) (fun v23 w23 a1 hp hS => ?_)
  obtain ⟨rfl, hB23⟩ := hp
  have hB := hB.trans (hB23.mono hB.size)
  refine sY hS (runs_eql (r := true) rfl rfl (by rw [chkM_bad hmore]; rfl)) fun _ hS => ?_
  refine sI hS (runs_pick rfl rfl) fun _ hS => ?_
  refine sI hS (runs_assign rfl) fun _ hS => ?_
  exact nil_ok (qx_ret (ret1 (t := 4) (by kernel_rfl) hS rfl ⟨_, rfl, rfl, hB⟩))
end Go.Proofs.YthkbnbnfjnliaaaGreatDoor
