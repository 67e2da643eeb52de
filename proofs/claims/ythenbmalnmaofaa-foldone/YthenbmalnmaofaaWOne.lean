/- modillionlaw08.FoldOne, walked. Conditions: none of our own. -/
import Derived.Test.YthenbmalnmaofaaFAwake
namespace Go.Proofs.Ythenbmalnmaofaa
open Go.RowKit
set_option maxRecDepth 100000

theorem runs_eqBool {ty t' : TypeId} {L : List (Nat × Value)} {w : World} {x y : Operand} {a b r : Bool} (hx : vals L x = some (.bool a)) (hy : vals L y = some (.bool b)) (hr : (a == b) = r) : Runs Try.prog (.binOp .eql 4 x y t') ty L w (Is (.bool r) w) :=
  runs_bin hx hy rfl (by subst hr; cases a <;> cases b <;> rfl)
theorem foldV_comm (k : Nat) (a b : Int) : foldV k a b = foldV k b a := by
  unfold foldV; split
  · split <;> split <;> omega
  · split
    · split <;> split <;> omega
    · omega
theorem foldL_comm (k : Nat) (a b : Int) : foldL k a b = foldL k b a := by
  unfold foldL; rw [foldV_comm k a b, Bool.or_comm (great a)]
theorem came_one {k : Nat} (hk : k ≠ 0) (p : E) : cameL k [p] p.2.1 = if great p.2.2 = true then (0, false, 71) else (p.2.2, true, 0) := by
  unfold cameL
  rw [if_neg hk, show toL [p] p.2.1 = [p] by unfold toL; simp [sortM, insM]]
  rfl
theorem foldL_err {k : Nat} {a b : Int} (h : (foldL k a b).2 ≠ 0) : (foldL k a b).1 = 0 := by
  unfold foldL at h ⊢
  split
  · rfl
  · rename_i h1
    rw [if_neg h1] at h
    split
    · rfl
    · rename_i h2
      rw [if_neg h2] at h
      split
      · rfl
      · rename_i h3
        rw [if_neg h3] at h
        exact absurd rfl h
theorem foldC_one {k : Nat} (hk : k ≠ 0) (x y : E) : cameO k [x, y] = ((foldL k x.2.2 y.2.2).1, decide ((foldL k x.2.2 y.2.2).2 = 0), (foldL k x.2.2 y.2.2).2) := by
  rw [cameO]
  by_cases hg : great x.2.2 = true
  · rw [if_pos hg, show foldL k x.2.2 y.2.2 = (0, 71) by unfold foldL; rw [if_neg hk, if_pos (by rw [hg]; rfl)]]
    rfl
  · rw [if_neg hg, foldC]
    by_cases he : (foldL k x.2.2 y.2.2).2 ≠ 0
    · rw [if_pos he, foldL_err he, decide_eq_false he]
    · rw [if_neg he, foldC, decide_eq_true (Classical.not_not.1 he), Classical.not_not.1 he]
theorem came_two {k : Nat} (hk : k ≠ 0) (p q : E) (hq : q.2.1 = p.2.1) : cameL k [q, p] p.2.1 = ((foldL k p.2.2 q.2.2).1, decide ((foldL k p.2.2 q.2.2).2 = 0), (foldL k p.2.2 q.2.2).2) := by
  unfold cameL
  rw [if_neg hk]
  have ht : toL [q, p] p.2.1 = if lessM p q = true then [p, q] else [q, p] := by
    unfold toL
    simp [sortM, insM, hq]
  rw [ht]
  split
  · exact foldC_one hk p q
  · rw [foldC_one hk q p, foldL_comm]
set_option maxHeartbeats 1000000 in
theorem one_any (tg : ByteArray) (p q : E) (w : World) : Ans 6 [.string tg, .agg (encE p).toArray, .agg (encE q).toArray] w (fun u w' => u = .bool true ∧ Below w.heap.size w w') := by
  refine calls_qx (args := [.string tg, .agg (encE p).toArray, .agg (encE q).toArray]) 101 Try.func6 rfl (by kernel_rfl) (by simp) (fun a hS => ?_)
  have hB := Below.refl w.heap.size w
  refine qx_seq (reg_seq ?_)
  refine seq_op hS (by decide) (runs_boxB (cs := encE p) rfl rfl) (fun v1 w1 a1 hp hS => ?_)
  obtain ⟨rfl, hM1, hB1⟩ := hp
  have hB := hB.trans (hB1.mono hB.size)
  refine seq_op hS (by decide) (runs_boxB (cs := encE q) rfl rfl) (fun v3 w3 a1 hp hS => ?_)
  obtain ⟨rfl, hM3, hB3⟩ := hp
  have hLhM3 : w.heap.size ≤ w1.heap.size := hB.size
  have hNhM1hM3 : w.heap.size ≠ w1.heap.size := by have := hM1.lt; omega
  have hB := hB.trans (hB3.mono hB.size)
  have hM1 := hM1.below hB3 hM1.lt
  refine sI hS (runs_assign rfl) fun _ hS => ?_
  refine nil_ok (qx_seq (qx_seq (reg_seq ?_)))
  refine seq_op hS (by decide) (runs_call (args := []) goes22 rfl (awake_any w3)) (fun v5 w5 a1 hp hS => ?_)
  obtain ⟨rfl, hB5⟩ := hp
  have hB := hB.trans (hB5.mono hB.size)
  have hM1 := hM1.below hB5 hM1.lt
  have hM3 := hM3.below hB5 hM3.lt
  refine sI hS (runs_not (b := true) rfl) fun _ hS => ?_
  refine sI hS (runs_move rfl) fun _ hS => ?_
  refine sY hS (runs_move rfl) fun _ hS => ?_
  by_cases hk : (kindL tg.data.toList) ≠ 0
  · skip
    refine sY hS (runs_call (args := [.string tg]) goes23 rfl (known_is _ w5 (b := true) (by simpa using hk))) fun _ hS => ?_
    refine sY hS (runs_not (b := true) rfl) fun _ hS => ?_
    refine sI hS (runs_pick rfl rfl) fun _ hS => ?_
    refine nil_ok (wp_cond_false (hS.eval rfl) (wp_skip (qx_seq (?_))))
    obtain ⟨f1, f2, hF⟩ : ∃ f1 f2, foldL (kindL tg.data.toList) p.2.2 q.2.2 = (f1, f2) := ⟨_, _, rfl⟩
    have hc2 : cameL (kindL tg.data.toList) [(q.1, p.2.1, q.2.2), p] p.2.1 = (f1, decide (f2 = 0), f2) := by rw [came_two hk p (q.1, p.2.1, q.2.2) rfl, hF]
    have hc1 := came_one hk p
    by_cases h1 : p.2.2 > 1125899906842624
    · skip
      have hg : great p.2.2 = true := by unfold great; simp [h1]
      rw [if_pos hg] at hc1
      refine reg_seq ?_
      refine sI hS (runs_fieldK fo41_1 rfl) fun _ hS => ?_
      refine sI hS (runs_load rfl pl3 (hM1.at rfl)) fun _ hS => ?_
      refine sI hS (runs_fieldK fo41_1 rfl) fun _ hS => ?_
      refine seq_none hS (runs_storeC rfl rfl rfl s1_3 hM3 rfl) (fun v7 w7 a1 hp hS => ?_)
      obtain ⟨hM3, hU7⟩ := hp
      have hB := But.new hB hU7 (fun i e => by rw [e]; exact hLhM3) (Nat.le_refl _)
      have hM1 := hM1.but hU7 (hNhM1hM3)
      refine nil_ok (qx_seq (reg_seq ?_))
      refine sI hS (runs_move rfl) fun _ hS => ?_
      refine sI hS (runs_loadRow rfl hM1 Try.underlying41 rfl (by rw [sz41]; rfl)) fun _ hS => ?_
      refine seq_op hS (by decide) (runs_oneM (e := p) rfl) (fun v9 w9 a1 hp hS => ?_)
      obtain ⟨g1, rfl, hX1, hB9⟩ := hp
      have hB := hB.trans (hB9.mono hB.size)
      have hM1 := hM1.below hB9 hM1.lt
      have hM3 := hM3.below hB9 hM3.lt
      refine sI hS (runs_fieldK fo41_1 rfl) fun _ hS => ?_
      refine sI hS (runs_load rfl pl3 (hM1.at rfl)) fun _ hS => ?_
      refine seq_op hS (by decide) (runs_call (args := [.string tg, .slice (some ⟨g1, 0, none⟩) 1 1, .int .i64 p.2.1]) goes24 rfl (came_any tg [p] (by simp) p.2.1 _ w9 (edges_has1 hX1))) (fun v11 w11 a1 hp hS => ?_)
      obtain ⟨rfl, hB11⟩ := hp
      rw [hc1] at hS
      have hB := hB.trans (hB11.mono hB.size)
      have hM1 := hM1.below hB11 hM1.lt
      have hM3 := hM3.below hB11 hM3.lt
      have hX1 := hX1.below hB11 hX1.lt
      refine sI hS (runs_move rfl) fun _ hS => ?_
      refine sI hS (runs_extract rfl rfl) fun _ hS => ?_
      refine sI hS (runs_extract rfl rfl) fun _ hS => ?_
      refine sI hS (runs_extract rfl rfl) fun _ hS => ?_
      refine sI hS (runs_assign rfl) fun _ hS => ?_
      refine sI hS (runs_assign rfl) fun _ hS => ?_
      refine sI hS (runs_assign rfl) fun _ hS => ?_
      refine nil_ok (qx_seq (reg_seq ?_))
      refine sI hS (runs_move rfl) fun _ hS => ?_
      refine sI hS (runs_loadRow rfl hM3 Try.underlying41 rfl (by rw [sz41]; rfl)) fun _ hS => ?_
      refine sI hS (runs_loadRow rfl hM1 Try.underlying41 rfl (by rw [sz41]; rfl)) fun _ hS => ?_
      refine seq_op hS (by decide) (runs_twoM (a := (q.1, p.2.1, q.2.2)) (b := p) rfl rfl) (fun v13 w13 a1 hp hS => ?_)
      obtain ⟨g2, rfl, hX2, hB13⟩ := hp
      have hB := hB.trans (hB13.mono hB.size)
      have hM1 := hM1.below hB13 hM1.lt
      have hM3 := hM3.below hB13 hM3.lt
      have hX1 := hX1.below hB13 hX1.lt
      refine sI hS (runs_fieldK fo41_1 rfl) fun _ hS => ?_
      refine sI hS (runs_load rfl pl3 (hM1.at rfl)) fun _ hS => ?_
      refine seq_op hS (by decide) (runs_call (args := [.string tg, .slice (some ⟨g2, 0, none⟩) 2 2, .int .i64 p.2.1]) goes24 rfl (came_any tg [(q.1, p.2.1, q.2.2), p] (by simp) p.2.1 _ w13 (edges_hasM hX2 (by simp)))) (fun v15 w15 a1 hp hS => ?_)
      obtain ⟨rfl, hB15⟩ := hp
      rw [hc2] at hS
      have hB := hB.trans (hB15.mono hB.size)
      have hM1 := hM1.below hB15 hM1.lt
      have hM3 := hM3.below hB15 hM3.lt
      have hX1 := hX1.below hB15 hX1.lt
      have hX2 := hX2.below hB15 hX2.lt
      refine sI hS (runs_move rfl) fun _ hS => ?_
      refine sI hS (runs_extract rfl rfl) fun _ hS => ?_
      refine sI hS (runs_extract rfl rfl) fun _ hS => ?_
      refine sI hS (runs_extract rfl rfl) fun _ hS => ?_
      refine sI hS (runs_assign rfl) fun _ hS => ?_
      refine sI hS (runs_assign rfl) fun _ hS => ?_
      refine sI hS (runs_assign rfl) fun _ hS => ?_
      refine nil_ok (qx_seq (reg_seq ?_))
      refine sI hS (runs_move rfl) fun _ hS => ?_
      refine sI hS (runs_fieldK fo41_2 rfl) fun _ hS => ?_
      refine sI hS (runs_load rfl pl2 (hM1.at rfl)) fun _ hS => ?_
      refine sI hS (runs_fieldK fo41_2 rfl) fun _ hS => ?_
      refine sI hS (runs_load rfl pl2 (hM3.at rfl)) fun _ hS => ?_
      refine seq_op hS (by decide) (runs_call (args := [.string tg, .int .i64 p.2.2, .int .i64 q.2.2]) goes25 rfl (fold_any tg p.2.2 q.2.2 w15)) (fun v17 w17 a1 hp hS => ?_)
      rw [hF] at hp
      obtain ⟨rfl, rfl⟩ := hp
      refine sI hS (runs_move rfl) fun _ hS => ?_
      refine sI hS (runs_extract rfl rfl) fun _ hS => ?_
      refine sI hS (runs_extract rfl rfl) fun _ hS => ?_
      refine sI hS (runs_assign rfl) fun _ hS => ?_
      refine sI hS (runs_assign rfl) fun _ hS => ?_
      refine nil_ok (qx_seq (reg_seq ?_))
      refine sI hS (runs_fieldK fo41_2 rfl) fun _ hS => ?_
      refine sI hS (runs_load rfl pl2 (hM1.at rfl)) fun _ hS => ?_
      refine sI hS (gtrT rfl rfl (by omega)) fun _ hS => ?_
      refine sI hS (runs_move rfl) fun _ hS => ?_
      refine sN hS fun _ hS => ?_
      refine sN hS fun _ hS => ?_
      refine sN hS fun _ hS => ?_
      refine sI hS (runs_pick rfl rfl) fun _ hS => ?_
      refine sI hS (runs_assign rfl) fun _ hS => ?_
      refine nil_ok (qx_seq (reg_seq ?_))
      refine sI hS (runs_move rfl) fun _ hS => ?_
      refine sI hS (runs_eql (r := false) rfl rfl rfl) fun _ hS => ?_
      refine sI hS (runs_move rfl) fun _ hS => ?_
      refine sI hS (runs_not (b := true) rfl) fun _ hS => ?_
      refine sI hS (runs_eqBool (r := true) rfl rfl rfl) fun _ hS => ?_
      refine sI hS (runs_move rfl) fun _ hS => ?_
      refine sY hS (runs_move rfl) fun _ hS => ?_
      refine sY hS (runs_move rfl) fun _ hS => ?_
      refine sY hS (runs_not (b := true) rfl) fun _ hS => ?_
      refine sY hS (runs_eqBool (r := true) rfl rfl rfl) fun _ hS => ?_
      refine sI hS (runs_pick rfl rfl) fun _ hS => ?_
      refine sI hS (runs_move rfl) fun _ hS => ?_
      refine sY hS (runs_move rfl) fun _ hS => ?_
      refine sY hS (runs_move rfl) fun _ hS => ?_
      refine sN hS fun _ hS => ?_
      refine sN hS fun _ hS => ?_
      refine sN hS fun _ hS => ?_
      refine sN hS fun _ hS => ?_
      refine sY hS (runs_pick rfl rfl) fun _ hS => ?_
      refine sI hS (runs_pick rfl rfl) fun _ hS => ?_
      refine sI hS (runs_move rfl) fun _ hS => ?_
      refine sY hS (runs_move rfl) fun _ hS => ?_
      refine sY hS (runs_move rfl) fun _ hS => ?_
      refine sY hS (runs_eql (r := true) rfl rfl (by simp)) fun _ hS => ?_
      refine sI hS (runs_pick rfl rfl) fun _ hS => ?_
      refine sI hS (runs_move rfl) fun _ hS => ?_
      refine sY hS (runs_move rfl) fun _ hS => ?_
      refine sY hS (runs_move rfl) fun _ hS => ?_
      refine sY hS (runs_eql (r := (f2 == 0)) rfl rfl rfl) fun _ hS => ?_
      refine sY hS (runs_eqBool (r := true) rfl rfl (by by_cases h : f2 = 0 <;> simp [h])) fun _ hS => ?_
      refine sI hS (runs_pick rfl rfl) fun _ hS => ?_
      refine sI hS (runs_move rfl) fun _ hS => ?_
      refine sY hS (runs_move rfl) fun _ hS => ?_
      refine sY hS (runs_move rfl) fun _ hS => ?_
      refine sY hS (runs_eql (r := true) rfl rfl (by simp)) fun _ hS => ?_
      refine sI hS (runs_pick rfl rfl) fun _ hS => ?_
      refine sI hS (runs_assign rfl) fun _ hS => ?_
      exact nil_ok (qx_ret (ret1 (t := 6) (by kernel_rfl) hS rfl ⟨_, rfl, rfl, hB⟩))
    · skip
      by_cases h2 : p.2.2 < -1125899906842624
      · skip
        have hg : great p.2.2 = true := by unfold great; simp [h2]
        rw [if_pos hg] at hc1
        refine reg_seq ?_
        refine sI hS (runs_fieldK fo41_1 rfl) fun _ hS => ?_
        refine sI hS (runs_load rfl pl3 (hM1.at rfl)) fun _ hS => ?_
        refine sI hS (runs_fieldK fo41_1 rfl) fun _ hS => ?_
        refine seq_none hS (runs_storeC rfl rfl rfl s1_3 hM3 rfl) (fun v18 w18 a1 hp hS => ?_)
        obtain ⟨hM3, hU18⟩ := hp
        have hB := But.new hB hU18 (fun i e => by rw [e]; exact hLhM3) (Nat.le_refl _)
        have hM1 := hM1.but hU18 (hNhM1hM3)
        refine nil_ok (qx_seq (reg_seq ?_))
        refine sI hS (runs_move rfl) fun _ hS => ?_
        refine sI hS (runs_loadRow rfl hM1 Try.underlying41 rfl (by rw [sz41]; rfl)) fun _ hS => ?_
        refine seq_op hS (by decide) (runs_oneM (e := p) rfl) (fun v20 w20 a1 hp hS => ?_)
        obtain ⟨g1, rfl, hX1, hB20⟩ := hp
        have hB := hB.trans (hB20.mono hB.size)
        have hM1 := hM1.below hB20 hM1.lt
        have hM3 := hM3.below hB20 hM3.lt
        refine sI hS (runs_fieldK fo41_1 rfl) fun _ hS => ?_
        refine sI hS (runs_load rfl pl3 (hM1.at rfl)) fun _ hS => ?_
        refine seq_op hS (by decide) (runs_call (args := [.string tg, .slice (some ⟨g1, 0, none⟩) 1 1, .int .i64 p.2.1]) goes24 rfl (came_any tg [p] (by simp) p.2.1 _ w20 (edges_has1 hX1))) (fun v22 w22 a1 hp hS => ?_)
        obtain ⟨rfl, hB22⟩ := hp
        rw [hc1] at hS
        have hB := hB.trans (hB22.mono hB.size)
        have hM1 := hM1.below hB22 hM1.lt
        have hM3 := hM3.below hB22 hM3.lt
        have hX1 := hX1.below hB22 hX1.lt
        refine sI hS (runs_move rfl) fun _ hS => ?_
        refine sI hS (runs_extract rfl rfl) fun _ hS => ?_
        refine sI hS (runs_extract rfl rfl) fun _ hS => ?_
        refine sI hS (runs_extract rfl rfl) fun _ hS => ?_
        refine sI hS (runs_assign rfl) fun _ hS => ?_
        refine sI hS (runs_assign rfl) fun _ hS => ?_
        refine sI hS (runs_assign rfl) fun _ hS => ?_
        refine nil_ok (qx_seq (reg_seq ?_))
        refine sI hS (runs_move rfl) fun _ hS => ?_
        refine sI hS (runs_loadRow rfl hM3 Try.underlying41 rfl (by rw [sz41]; rfl)) fun _ hS => ?_
        refine sI hS (runs_loadRow rfl hM1 Try.underlying41 rfl (by rw [sz41]; rfl)) fun _ hS => ?_
        refine seq_op hS (by decide) (runs_twoM (a := (q.1, p.2.1, q.2.2)) (b := p) rfl rfl) (fun v24 w24 a1 hp hS => ?_)
        obtain ⟨g2, rfl, hX2, hB24⟩ := hp
        have hB := hB.trans (hB24.mono hB.size)
        have hM1 := hM1.below hB24 hM1.lt
        have hM3 := hM3.below hB24 hM3.lt
        have hX1 := hX1.below hB24 hX1.lt
        refine sI hS (runs_fieldK fo41_1 rfl) fun _ hS => ?_
        refine sI hS (runs_load rfl pl3 (hM1.at rfl)) fun _ hS => ?_
        refine seq_op hS (by decide) (runs_call (args := [.string tg, .slice (some ⟨g2, 0, none⟩) 2 2, .int .i64 p.2.1]) goes24 rfl (came_any tg [(q.1, p.2.1, q.2.2), p] (by simp) p.2.1 _ w24 (edges_hasM hX2 (by simp)))) (fun v26 w26 a1 hp hS => ?_)
        obtain ⟨rfl, hB26⟩ := hp
        rw [hc2] at hS
        have hB := hB.trans (hB26.mono hB.size)
        have hM1 := hM1.below hB26 hM1.lt
        have hM3 := hM3.below hB26 hM3.lt
        have hX1 := hX1.below hB26 hX1.lt
        have hX2 := hX2.below hB26 hX2.lt
        refine sI hS (runs_move rfl) fun _ hS => ?_
        refine sI hS (runs_extract rfl rfl) fun _ hS => ?_
        refine sI hS (runs_extract rfl rfl) fun _ hS => ?_
        refine sI hS (runs_extract rfl rfl) fun _ hS => ?_
        refine sI hS (runs_assign rfl) fun _ hS => ?_
        refine sI hS (runs_assign rfl) fun _ hS => ?_
        refine sI hS (runs_assign rfl) fun _ hS => ?_
        refine nil_ok (qx_seq (reg_seq ?_))
        refine sI hS (runs_move rfl) fun _ hS => ?_
        refine sI hS (runs_fieldK fo41_2 rfl) fun _ hS => ?_
        refine sI hS (runs_load rfl pl2 (hM1.at rfl)) fun _ hS => ?_
        refine sI hS (runs_fieldK fo41_2 rfl) fun _ hS => ?_
        refine sI hS (runs_load rfl pl2 (hM3.at rfl)) fun _ hS => ?_
        refine seq_op hS (by decide) (runs_call (args := [.string tg, .int .i64 p.2.2, .int .i64 q.2.2]) goes25 rfl (fold_any tg p.2.2 q.2.2 w26)) (fun v28 w28 a1 hp hS => ?_)
        rw [hF] at hp
        obtain ⟨rfl, rfl⟩ := hp
        refine sI hS (runs_move rfl) fun _ hS => ?_
        refine sI hS (runs_extract rfl rfl) fun _ hS => ?_
        refine sI hS (runs_extract rfl rfl) fun _ hS => ?_
        refine sI hS (runs_assign rfl) fun _ hS => ?_
        refine sI hS (runs_assign rfl) fun _ hS => ?_
        refine nil_ok (qx_seq (reg_seq ?_))
        refine sI hS (runs_fieldK fo41_2 rfl) fun _ hS => ?_
        refine sI hS (runs_load rfl pl2 (hM1.at rfl)) fun _ hS => ?_
        refine sI hS (gtrF rfl rfl (by omega)) fun _ hS => ?_
        refine sI hS (runs_move rfl) fun _ hS => ?_
        refine sY hS (runs_fieldK fo41_2 rfl) fun _ hS => ?_
        refine sY hS (runs_load rfl pl2 (hM1.at rfl)) fun _ hS => ?_
        refine sY hS (lssT rfl rfl (by omega)) fun _ hS => ?_
        refine sI hS (runs_pick rfl rfl) fun _ hS => ?_
        refine sI hS (runs_assign rfl) fun _ hS => ?_
        refine nil_ok (qx_seq (reg_seq ?_))
        refine sI hS (runs_move rfl) fun _ hS => ?_
        refine sI hS (runs_eql (r := false) rfl rfl rfl) fun _ hS => ?_
        refine sI hS (runs_move rfl) fun _ hS => ?_
        refine sI hS (runs_not (b := true) rfl) fun _ hS => ?_
        refine sI hS (runs_eqBool (r := true) rfl rfl rfl) fun _ hS => ?_
        refine sI hS (runs_move rfl) fun _ hS => ?_
        refine sY hS (runs_move rfl) fun _ hS => ?_
        refine sY hS (runs_move rfl) fun _ hS => ?_
        refine sY hS (runs_not (b := true) rfl) fun _ hS => ?_
        refine sY hS (runs_eqBool (r := true) rfl rfl rfl) fun _ hS => ?_
        refine sI hS (runs_pick rfl rfl) fun _ hS => ?_
        refine sI hS (runs_move rfl) fun _ hS => ?_
        refine sY hS (runs_move rfl) fun _ hS => ?_
        refine sY hS (runs_move rfl) fun _ hS => ?_
        refine sN hS fun _ hS => ?_
        refine sN hS fun _ hS => ?_
        refine sN hS fun _ hS => ?_
        refine sN hS fun _ hS => ?_
        refine sY hS (runs_pick rfl rfl) fun _ hS => ?_
        refine sI hS (runs_pick rfl rfl) fun _ hS => ?_
        refine sI hS (runs_move rfl) fun _ hS => ?_
        refine sY hS (runs_move rfl) fun _ hS => ?_
        refine sY hS (runs_move rfl) fun _ hS => ?_
        refine sY hS (runs_eql (r := true) rfl rfl (by simp)) fun _ hS => ?_
        refine sI hS (runs_pick rfl rfl) fun _ hS => ?_
        refine sI hS (runs_move rfl) fun _ hS => ?_
        refine sY hS (runs_move rfl) fun _ hS => ?_
        refine sY hS (runs_move rfl) fun _ hS => ?_
        refine sY hS (runs_eql (r := (f2 == 0)) rfl rfl rfl) fun _ hS => ?_
        refine sY hS (runs_eqBool (r := true) rfl rfl (by by_cases h : f2 = 0 <;> simp [h])) fun _ hS => ?_
        refine sI hS (runs_pick rfl rfl) fun _ hS => ?_
        refine sI hS (runs_move rfl) fun _ hS => ?_
        refine sY hS (runs_move rfl) fun _ hS => ?_
        refine sY hS (runs_move rfl) fun _ hS => ?_
        refine sY hS (runs_eql (r := true) rfl rfl (by simp)) fun _ hS => ?_
        refine sI hS (runs_pick rfl rfl) fun _ hS => ?_
        refine sI hS (runs_assign rfl) fun _ hS => ?_
        exact nil_ok (qx_ret (ret1 (t := 6) (by kernel_rfl) hS rfl ⟨_, rfl, rfl, hB⟩))
      · skip
        have hg : great p.2.2 = false := by unfold great; simp; omega
        rw [if_neg (by rw [hg]; simp)] at hc1
        refine reg_seq ?_
        refine sI hS (runs_fieldK fo41_1 rfl) fun _ hS => ?_
        refine sI hS (runs_load rfl pl3 (hM1.at rfl)) fun _ hS => ?_
        refine sI hS (runs_fieldK fo41_1 rfl) fun _ hS => ?_
        refine seq_none hS (runs_storeC rfl rfl rfl s1_3 hM3 rfl) (fun v29 w29 a1 hp hS => ?_)
        obtain ⟨hM3, hU29⟩ := hp
        have hB := But.new hB hU29 (fun i e => by rw [e]; exact hLhM3) (Nat.le_refl _)
        have hM1 := hM1.but hU29 (hNhM1hM3)
        refine nil_ok (qx_seq (reg_seq ?_))
        refine sI hS (runs_move rfl) fun _ hS => ?_
        refine sI hS (runs_loadRow rfl hM1 Try.underlying41 rfl (by rw [sz41]; rfl)) fun _ hS => ?_
        refine seq_op hS (by decide) (runs_oneM (e := p) rfl) (fun v31 w31 a1 hp hS => ?_)
        obtain ⟨g1, rfl, hX1, hB31⟩ := hp
        have hB := hB.trans (hB31.mono hB.size)
        have hM1 := hM1.below hB31 hM1.lt
        have hM3 := hM3.below hB31 hM3.lt
        refine sI hS (runs_fieldK fo41_1 rfl) fun _ hS => ?_
        refine sI hS (runs_load rfl pl3 (hM1.at rfl)) fun _ hS => ?_
        refine seq_op hS (by decide) (runs_call (args := [.string tg, .slice (some ⟨g1, 0, none⟩) 1 1, .int .i64 p.2.1]) goes24 rfl (came_any tg [p] (by simp) p.2.1 _ w31 (edges_has1 hX1))) (fun v33 w33 a1 hp hS => ?_)
        obtain ⟨rfl, hB33⟩ := hp
        rw [hc1] at hS
        have hB := hB.trans (hB33.mono hB.size)
        have hM1 := hM1.below hB33 hM1.lt
        have hM3 := hM3.below hB33 hM3.lt
        refine sI hS (runs_move rfl) fun _ hS => ?_
        refine sI hS (runs_extract rfl rfl) fun _ hS => ?_
        refine sI hS (runs_extract rfl rfl) fun _ hS => ?_
        refine sI hS (runs_extract rfl rfl) fun _ hS => ?_
        refine sI hS (runs_assign rfl) fun _ hS => ?_
        refine sI hS (runs_assign rfl) fun _ hS => ?_
        refine sI hS (runs_assign rfl) fun _ hS => ?_
        refine nil_ok (qx_seq (reg_seq ?_))
        refine sI hS (runs_move rfl) fun _ hS => ?_
        refine sI hS (runs_loadRow rfl hM3 Try.underlying41 rfl (by rw [sz41]; rfl)) fun _ hS => ?_
        refine sI hS (runs_loadRow rfl hM1 Try.underlying41 rfl (by rw [sz41]; rfl)) fun _ hS => ?_
        refine seq_op hS (by decide) (runs_twoM (a := (q.1, p.2.1, q.2.2)) (b := p) rfl rfl) (fun v35 w35 a1 hp hS => ?_)
        obtain ⟨g2, rfl, hX2, hB35⟩ := hp
        have hB := hB.trans (hB35.mono hB.size)
        have hM1 := hM1.below hB35 hM1.lt
        have hM3 := hM3.below hB35 hM3.lt
        refine sI hS (runs_fieldK fo41_1 rfl) fun _ hS => ?_
        refine sI hS (runs_load rfl pl3 (hM1.at rfl)) fun _ hS => ?_
        refine seq_op hS (by decide) (runs_call (args := [.string tg, .slice (some ⟨g2, 0, none⟩) 2 2, .int .i64 p.2.1]) goes24 rfl (came_any tg [(q.1, p.2.1, q.2.2), p] (by simp) p.2.1 _ w35 (edges_hasM hX2 (by simp)))) (fun v37 w37 a1 hp hS => ?_)
        obtain ⟨rfl, hB37⟩ := hp
        rw [hc2] at hS
        have hB := hB.trans (hB37.mono hB.size)
        have hM1 := hM1.below hB37 hM1.lt
        have hM3 := hM3.below hB37 hM3.lt
        refine sI hS (runs_move rfl) fun _ hS => ?_
        refine sI hS (runs_extract rfl rfl) fun _ hS => ?_
        refine sI hS (runs_extract rfl rfl) fun _ hS => ?_
        refine sI hS (runs_extract rfl rfl) fun _ hS => ?_
        refine sI hS (runs_assign rfl) fun _ hS => ?_
        refine sI hS (runs_assign rfl) fun _ hS => ?_
        refine sI hS (runs_assign rfl) fun _ hS => ?_
        refine nil_ok (qx_seq (reg_seq ?_))
        refine sI hS (runs_move rfl) fun _ hS => ?_
        refine sI hS (runs_fieldK fo41_2 rfl) fun _ hS => ?_
        refine sI hS (runs_load rfl pl2 (hM1.at rfl)) fun _ hS => ?_
        refine sI hS (runs_fieldK fo41_2 rfl) fun _ hS => ?_
        refine sI hS (runs_load rfl pl2 (hM3.at rfl)) fun _ hS => ?_
        refine seq_op hS (by decide) (runs_call (args := [.string tg, .int .i64 p.2.2, .int .i64 q.2.2]) goes25 rfl (fold_any tg p.2.2 q.2.2 w37)) (fun v39 w39 a1 hp hS => ?_)
        rw [hF] at hp
        obtain ⟨rfl, rfl⟩ := hp
        refine sI hS (runs_move rfl) fun _ hS => ?_
        refine sI hS (runs_extract rfl rfl) fun _ hS => ?_
        refine sI hS (runs_extract rfl rfl) fun _ hS => ?_
        refine sI hS (runs_assign rfl) fun _ hS => ?_
        refine sI hS (runs_assign rfl) fun _ hS => ?_
        refine nil_ok (qx_seq (reg_seq ?_))
        refine sI hS (runs_fieldK fo41_2 rfl) fun _ hS => ?_
        refine sI hS (runs_load rfl pl2 (hM1.at rfl)) fun _ hS => ?_
        refine sI hS (gtrF rfl rfl (by omega)) fun _ hS => ?_
        refine sI hS (runs_move rfl) fun _ hS => ?_
        refine sY hS (runs_fieldK fo41_2 rfl) fun _ hS => ?_
        refine sY hS (runs_load rfl pl2 (hM1.at rfl)) fun _ hS => ?_
        refine sY hS (lssF rfl rfl (by omega)) fun _ hS => ?_
        refine sI hS (runs_pick rfl rfl) fun _ hS => ?_
        refine sI hS (runs_assign rfl) fun _ hS => ?_
        refine nil_ok (qx_seq (reg_seq ?_))
        refine sI hS (runs_move rfl) fun _ hS => ?_
        refine sI hS (runs_eql (r := true) rfl rfl rfl) fun _ hS => ?_
        refine sI hS (runs_move rfl) fun _ hS => ?_
        refine sI hS (runs_not (b := false) rfl) fun _ hS => ?_
        refine sI hS (runs_eqBool (r := true) rfl rfl rfl) fun _ hS => ?_
        refine sI hS (runs_move rfl) fun _ hS => ?_
        refine sY hS (runs_move rfl) fun _ hS => ?_
        refine sY hS (runs_move rfl) fun _ hS => ?_
        refine sY hS (runs_not (b := false) rfl) fun _ hS => ?_
        refine sY hS (runs_eqBool (r := true) rfl rfl rfl) fun _ hS => ?_
        refine sI hS (runs_pick rfl rfl) fun _ hS => ?_
        refine sI hS (runs_move rfl) fun _ hS => ?_
        refine sY hS (runs_move rfl) fun _ hS => ?_
        refine sY hS (runs_move rfl) fun _ hS => ?_
        refine sY hS (runs_move rfl) fun _ hS => ?_
        refine sY hS (runs_fieldK fo41_2 rfl) fun _ hS => ?_
        refine sY hS (runs_load rfl pl2 (hM1.at rfl)) fun _ hS => ?_
        refine sY hS (runs_eql (r := true) rfl rfl (by simp)) fun _ hS => ?_
        refine sY hS (runs_pick rfl rfl) fun _ hS => ?_
        refine sI hS (runs_pick rfl rfl) fun _ hS => ?_
        refine sI hS (runs_move rfl) fun _ hS => ?_
        refine sY hS (runs_move rfl) fun _ hS => ?_
        refine sY hS (runs_move rfl) fun _ hS => ?_
        refine sY hS (runs_eql (r := true) rfl rfl (by simp)) fun _ hS => ?_
        refine sI hS (runs_pick rfl rfl) fun _ hS => ?_
        refine sI hS (runs_move rfl) fun _ hS => ?_
        refine sY hS (runs_move rfl) fun _ hS => ?_
        refine sY hS (runs_move rfl) fun _ hS => ?_
        refine sY hS (runs_eql (r := (f2 == 0)) rfl rfl rfl) fun _ hS => ?_
        refine sY hS (runs_eqBool (r := true) rfl rfl (by by_cases h : f2 = 0 <;> simp [h])) fun _ hS => ?_
        refine sI hS (runs_pick rfl rfl) fun _ hS => ?_
        refine sI hS (runs_move rfl) fun _ hS => ?_
        refine sY hS (runs_move rfl) fun _ hS => ?_
        refine sY hS (runs_move rfl) fun _ hS => ?_
        refine sY hS (runs_eql (r := true) rfl rfl (by simp)) fun _ hS => ?_
        refine sI hS (runs_pick rfl rfl) fun _ hS => ?_
        refine sI hS (runs_assign rfl) fun _ hS => ?_
        exact nil_ok (qx_ret (ret1 (t := 6) (by kernel_rfl) hS rfl ⟨_, rfl, rfl, hB⟩))
  refine sY hS (runs_call (args := [.string tg]) goes23 rfl (known_is _ w5 (b := false) (by simpa using hk))) fun _ hS => ?_
  refine sY hS (runs_not (b := false) rfl) fun _ hS => ?_
  refine sI hS (runs_pick rfl rfl) fun _ hS => ?_
  refine nil_ok (wp_cond_true (hS.eval rfl) (qx_seq (reg_seq ?_)))
  refine seq_op hS (by decide) (runs_call (args := []) goes22 rfl (awake_any w5)) (fun v40 w40 a1 hp hS => ?_)
  obtain ⟨rfl, hB40⟩ := hp
  have hB := hB.trans (hB40.mono hB.size)
  refine sI hS (runs_assign rfl) fun _ hS => ?_
  exact nil_ok (qx_ret (ret1 (t := 6) (by kernel_rfl) hS rfl ⟨_, rfl, rfl, hB⟩))
end Go.Proofs.Ythenbmalnmaofaa
