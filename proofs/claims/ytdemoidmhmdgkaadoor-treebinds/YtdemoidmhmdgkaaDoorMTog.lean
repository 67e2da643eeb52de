/- Layer 4: together, of sums and of lists of sums. Conditions: at most 2 to the 31 leaves. -/
import Derived.Test.YtdemoidmhmdgkaaDoorMInts
namespace Go.Proofs.YtdemoidmhmdgkaaDoor
open Go.RowKit Many
set_option maxRecDepth 100000

theorem goes50 : Goes Tryd.prog 50 := goes_of Tryd.func50 (by kernel_rfl) rfl
theorem goes55 : Goes Tryd.prog 55 := goes_of Tryd.func55 (by kernel_rfl) rfl
/- together, of values that lie in a slot. -/
set_option maxHeartbeats 2000000 in
theorem tog55_any (cb ca cc : FuncId) (kb ka kc : List Value) (gb : Goes Tryd.prog cb) (ga : Goes Tryd.prog ca) (gc : Goes Tryd.prog cc) (G : World → Prop) (V : Nat → Nat → List Nat → World → Value → World → Prop) (T : Nat) (hT : T ≤ 2147483648)
    (hG : ∀ f n l w v w', V f n l w v w' → G w → G w') (hV : ∀ f n l w v w', V f n l w v w' → G w → ∀ u xs, Ints w u xs → Ints w' u xs)
    (hb : ∀ (f n : Nat) w, G w → f + n ≤ T → Calls Tryd.prog cb ([Value.int .i64 (f : Int), .int .i64 ((f + n : Nat) : Int)] ++ kb).toArray w fun e w' => ∃ v, e = .returned v ∧ V f n [] w v w')
    (ha : ∀ (f n : Nat) l w, G w → l ≠ [] → n < 2 → Calls Tryd.prog ca ([] ++ ka).toArray w fun e w' => ∃ v, e = .returned v ∧ V f n l w v w')
    (hc : ∀ (f n : Nat) l w w1 w2 v1 v2, G w → l ≠ [] → ¬ n < 2 → f + n ≤ T → V f (Tree.half n) (l.take (belowN (f + Tree.half n) l)) w v1 w1 → V (f + Tree.half n) (n - Tree.half n) (l.drop (belowN (f + Tree.half n) l)) w1 v2 w2 → Calls Tryd.prog cc ([v1, v2] ++ kc).toArray w2 fun e w' => ∃ v, e = .returned v ∧ V f n l w v w') :
    ∀ (n f : Nat) (l : List Nat) (v : Value) (w : World), f + n ≤ T → G w → Ints w v (ofN l) → Calls Tryd.prog 55 [.int .i64 (f : Int), .int .i64 ((f + n : Nat) : Int), v, .func (.func cb) #[] kb.toArray, .func (.func ca) #[] ka.toArray, .func (.func cc) #[] kc.toArray].toArray w fun e w' => ∃ v, e = .returned v ∧ V f n l w v w' := by
  intro n
  induction n using Nat.strongRecOn with
  | _ n ih =>
    intro f l v w hn hg hs
    obtain ⟨A, c, rfl, h1, h2, hA⟩ := id hs
    refine calls_qx (args := [.int .i64 (f : Int), .int .i64 ((f + n : Nat) : Int), .slice A (ofN l).length c, .func (.func cb) #[] kb.toArray, .func (.func ca) #[] ka.toArray, .func (.func cc) #[] kc.toArray]) 61 Tryd.func55 rfl (by kernel_rfl) (by simp) (fun a hS => ?_)
    have hll : (ofN l).length = l.length := by simp [ofN]
    refine qx_seq (reg_seq ?_)
    refine seq_is hS (by decide) (runs_assign rfl) (fun a1 hS => ?_)
    refine nil_ok (qx_seq (qx_seq (reg_seq ?_)))
    refine seq_is hS (by decide) (runs_move rfl) (fun a1 hS => ?_)
    refine seq_is hS (by decide) (runs_len rfl undInts) (fun a1 hS => ?_)
    by_cases h0 : l = []
    · subst h0
      refine seq_is hS (by decide) (runs_eql (r := true) rfl rfl rfl) (fun a1 hS => ?_)
      refine nil_ok (wp_cond_true (hS.eval rfl) (qx_seq (reg_seq ?_)))
      refine seq_is hS (by decide) (runs_move rfl) (fun a1 hS => ?_)
      refine seq_is hS (by decide) (runs_move rfl) (fun a1 hS => ?_)
      refine seq_is hS (by decide) (runs_move rfl) (fun a1 hS => ?_)
      refine seq_op hS (by decide) (runs_callv (args := [.int .i64 (f : Int), .int .i64 ((f + n : Nat) : Int)]) (Post := fun v w' => V f n [] w v w') gb rfl rfl (hb f n w hg hn)) (fun v2 w2 a2 hp2 hS => ?_)
      refine seq_is hS (by decide) (runs_assign rfl) (fun a1 hS => ?_)
      exact nil_ok (qx_ret (ret1 (t := 12) (by kernel_rfl) hS rfl ⟨_, rfl, hp2⟩))
    · have hpos : 0 < l.length := List.length_pos_iff.2 h0
      refine seq_is hS (by decide) (runs_eql (r := false) rfl rfl (by rw [beq_eq_false_iff_ne]; omega)) (fun a1 hS => ?_)
      refine nil_ok (wp_cond_false (hS.eval rfl) (wp_skip ?_))
      refine qx_seq (qx_seq (reg_seq ?_))
      refine seq_is hS (by decide) (runs_move rfl) (fun a1 hS => ?_)
      refine seq_is hS (by decide) (runs_move rfl) (fun a1 hS => ?_)
      refine seq_is hS (by decide) (runs_sub rfl rfl ((IntWalk.i64_in _ (by omega)).trans (show _ = (n : Int) by omega))) (fun a1 hS => ?_)
      by_cases hn2 : n < 2
      · refine seq_is hS (by decide) (runs_lss (r := true) rfl rfl (by rw [decide_eq_true_eq]; omega)) (fun a1 hS => ?_)
        refine nil_ok (wp_cond_true (hS.eval rfl) (qx_seq (reg_seq ?_)))
        refine seq_is hS (by decide) (runs_move rfl) (fun a1 hS => ?_)
        refine seq_op hS (by decide) (runs_callv (args := []) (Post := fun v w' => V f n l w v w') ga rfl rfl (ha f n l w hg h0 hn2)) (fun v2 w2 a2 hp2 hS => ?_)
        refine seq_is hS (by decide) (runs_assign rfl) (fun a1 hS => ?_)
        exact nil_ok (qx_ret (ret1 (t := 12) (by kernel_rfl) hS rfl ⟨_, rfl, hp2⟩))
      · refine seq_is hS (by decide) (runs_lss (r := false) rfl rfl (by rw [decide_eq_false_iff_not]; omega)) (fun a1 hS => ?_)
        refine nil_ok (wp_cond_false (hS.eval rfl) (wp_skip ?_))
        have hhl := Tree.half_lt (n := n) (by omega)
        have hhp := Tree.half_pos n
        have hhz : halfZ (n : Int) = Tree.half n := by unfold halfZ; rw [if_neg (by omega), Int.toNat_natCast]
        have hhalf := half_any (n : Int) w (by omega)
        rw [hhz] at hhalf
        have hcc := hc f n l w
        obtain ⟨k, hk⟩ : ∃ k, k = Tree.half n := ⟨_, rfl⟩
        rw [← hk] at hhalf hhl hhp hcc
        have hbel := below_any ((f + k : Nat) : Int) (ofN l) _ w hs
        rw [belowZ_of] at hbel
        have hbl := belowN_le (f + k) l
        obtain ⟨j, hj⟩ : ∃ j, j = belowN (f + k) l := ⟨_, rfl⟩
        rw [← hj] at hbel hcc hbl
        have ht1 := ints_take hs j (by omega)
        have ht2 := ints_drop hs j (by omega)
        have eT : (ofN l).take j = ofN (l.take j) := by simp [ofN, List.map_take]
        have eD : (ofN l).drop j = ofN (l.drop j) := by simp [ofN, List.map_drop]
        rw [eT] at ht1
        rw [eD] at ht2
        refine qx_seq (reg_seq ?_)
        refine seq_is hS (by decide) (runs_move rfl) (fun a1 hS => ?_)
        refine seq_is hS (by decide) (runs_move rfl) (fun a1 hS => ?_)
        refine seq_is hS (by decide) (runs_move rfl) (fun a1 hS => ?_)
        refine seq_is hS (by decide) (runs_sub rfl rfl ((IntWalk.i64_in _ (by omega)).trans (show _ = (n : Int) by omega))) (fun a1 hS => ?_)
        refine seq_is hS (by decide) (runs_call (args := [.int .i64 (n : Int)]) (Post := Is (.int .i64 (k : Int)) w) goes33 rfl (hhalf.mono (by rintro e w' ⟨rfl, rfl⟩; exact ⟨_, rfl, rfl, rfl⟩))) (fun a1 hS => ?_)
        refine seq_is hS (by decide) (runs_add rfl rfl ((IntWalk.i64_in _ (by omega)).trans (show _ = ((f + k : Nat) : Int) by omega))) (fun a1 hS => ?_)
        refine seq_is hS (by decide) (runs_assign rfl) (fun a1 hS => ?_)
        refine nil_ok (qx_seq (reg_seq ?_))
        refine seq_is hS (by decide) (runs_move rfl) (fun a1 hS => ?_)
        refine seq_is hS (by decide) (runs_move rfl) (fun a1 hS => ?_)
        refine seq_is hS (by decide) (runs_call (args := [.int .i64 ((f + k : Nat) : Int), .slice A (ofN l).length c]) (Post := Is (.int .i64 (j : Int)) w) goes84 rfl (hbel.mono (by rintro e w' ⟨rfl, rfl⟩; exact ⟨_, rfl, rfl, rfl⟩))) (fun a1 hS => ?_)
        refine seq_is hS (by decide) (runs_assign rfl) (fun a1 hS => ?_)
        refine nil_ok (qx_seq (reg_seq ?_))
        refine seq_is hS (by decide) (runs_move rfl) (fun a1 hS => ?_)
        refine seq_is hS (by decide) (runs_move rfl) (fun a1 hS => ?_)
        refine seq_is hS (by decide) (runs_move rfl) (fun a1 hS => ?_)
        refine seq_is hS (by decide) (runs_move rfl) (fun a1 hS => ?_)
        refine seq_is hS (by decide) (runs_sliceToG rfl rfl rfl undInts rfl (by omega)) (fun a1 hS => ?_)
        refine seq_is hS (by decide) (runs_move rfl) (fun a1 hS => ?_)
        refine seq_is hS (by decide) (runs_move rfl) (fun a1 hS => ?_)
        refine seq_is hS (by decide) (runs_move rfl) (fun a1 hS => ?_)
        refine seq_op hS (by decide) (runs_call (args := [.int .i64 (f : Int), .int .i64 ((f + k : Nat) : Int), .slice A j c, .func (.func cb) #[] kb.toArray, .func (.func ca) #[] ka.toArray, .func (.func cc) #[] kc.toArray]) (Post := fun v w' => V f k (l.take j) w v w') goes55 rfl (ih k hhl f (l.take j) _ w (by omega) hg ht1)) (fun v2 w2 a2 hp2 hS => ?_)
        refine seq_is hS (by decide) (runs_assign rfl) (fun a1 hS => ?_)
        have hg2 := hG _ _ _ _ _ _ hp2 hg
        have ht3 := hV _ _ _ _ _ _ hp2 hg _ _ ht2
        refine nil_ok (qx_seq (reg_seq ?_))
        refine seq_is hS (by decide) (runs_move rfl) (fun a1 hS => ?_)
        refine seq_is hS (by decide) (runs_move rfl) (fun a1 hS => ?_)
        refine seq_is hS (by decide) (runs_move rfl) (fun a1 hS => ?_)
        refine seq_is hS (by decide) (runs_move rfl) (fun a1 hS => ?_)
        refine seq_is hS (by decide) (runs_sliceFromG (l := j) rfl rfl rfl undInts infInt1 (by omega)) (fun a1 hS => ?_)
        refine seq_is hS (by decide) (runs_move rfl) (fun a1 hS => ?_)
        refine seq_is hS (by decide) (runs_move rfl) (fun a1 hS => ?_)
        refine seq_is hS (by decide) (runs_move rfl) (fun a1 hS => ?_)
        have hih := ih (n - k) (by omega) (f + k) (l.drop j) _ w2 (by omega) hg2 ht3
        rw [show f + k + (n - k) = f + n by omega] at hih
        refine seq_op hS (by decide) (runs_call (args := [.int .i64 ((f + k : Nat) : Int), .int .i64 ((f + n : Nat) : Int), .slice (if c = j then A else A.map (·.add (j * 1))) ((ofN l).length - j) (c - j), .func (.func cb) #[] kb.toArray, .func (.func ca) #[] ka.toArray, .func (.func cc) #[] kc.toArray]) (Post := fun v w' => V (f + k) (n - k) (l.drop j) w2 v w') goes55 rfl hih) (fun v3 w3 a3 hp3 hS => ?_)
        refine seq_is hS (by decide) (runs_assign rfl) (fun a1 hS => ?_)
        refine nil_ok (qx_seq (reg_seq ?_))
        refine seq_is hS (by decide) (runs_move rfl) (fun a1 hS => ?_)
        refine seq_is hS (by decide) (runs_move rfl) (fun a1 hS => ?_)
        refine seq_is hS (by decide) (runs_move rfl) (fun a1 hS => ?_)
        refine seq_op hS (by decide) (runs_callv (args := [v2, v3]) (Post := fun v w' => V f n l w v w') gc rfl rfl (hcc w2 w3 v2 v3 hg h0 hn2 hn hp2 hp3)) (fun v4 w4 a4 hp4 hS => ?_)
        refine seq_is hS (by decide) (runs_assign rfl) (fun a1 hS => ?_)
        exact nil_ok (qx_ret (ret1 (t := 12) (by kernel_rfl) hS rfl ⟨_, rfl, hp4⟩))
/- together, of values that lie in a slot. -/
set_option maxHeartbeats 2000000 in
theorem tog50_any (cb ca cc : FuncId) (kb ka kc : List Value) (gb : Goes Tryd.prog cb) (ga : Goes Tryd.prog ca) (gc : Goes Tryd.prog cc) (G : World → Prop) (V : Nat → Nat → List Nat → World → Value → World → Prop) (T : Nat) (hT : T ≤ 2147483648)
    (hG : ∀ f n l w v w', V f n l w v w' → G w → G w') (hV : ∀ f n l w v w', V f n l w v w' → G w → ∀ u xs, Ints w u xs → Ints w' u xs)
    (hb : ∀ (f n : Nat) w, G w → f + n ≤ T → Calls Tryd.prog cb ([Value.int .i64 (f : Int), .int .i64 ((f + n : Nat) : Int)] ++ kb).toArray w fun e w' => ∃ v, e = .returned v ∧ V f n [] w v w')
    (ha : ∀ (f n : Nat) l w, G w → l ≠ [] → n < 2 → Calls Tryd.prog ca ([] ++ ka).toArray w fun e w' => ∃ v, e = .returned v ∧ V f n l w v w')
    (hc : ∀ (f n : Nat) l w w1 w2 v1 v2, G w → l ≠ [] → ¬ n < 2 → f + n ≤ T → V f (Tree.half n) (l.take (belowN (f + Tree.half n) l)) w v1 w1 → V (f + Tree.half n) (n - Tree.half n) (l.drop (belowN (f + Tree.half n) l)) w1 v2 w2 → Calls Tryd.prog cc ([v1, v2] ++ kc).toArray w2 fun e w' => ∃ v, e = .returned v ∧ V f n l w v w') :
    ∀ (n f : Nat) (l : List Nat) (v : Value) (w : World), f + n ≤ T → G w → Ints w v (ofN l) → Calls Tryd.prog 50 [.int .i64 (f : Int), .int .i64 ((f + n : Nat) : Int), v, .func (.func cb) #[] kb.toArray, .func (.func ca) #[] ka.toArray, .func (.func cc) #[] kc.toArray].toArray w fun e w' => ∃ v, e = .returned v ∧ V f n l w v w' := by
  intro n
  induction n using Nat.strongRecOn with
  | _ n ih =>
    intro f l v w hn hg hs
    obtain ⟨A, c, rfl, h1, h2, hA⟩ := id hs
    refine calls_qx (args := [.int .i64 (f : Int), .int .i64 ((f + n : Nat) : Int), .slice A (ofN l).length c, .func (.func cb) #[] kb.toArray, .func (.func ca) #[] ka.toArray, .func (.func cc) #[] kc.toArray]) 61 Tryd.func50 rfl (by kernel_rfl) (by simp) (fun a hS => ?_)
    have hll : (ofN l).length = l.length := by simp [ofN]
    refine qx_seq (reg_seq ?_)
    refine seq_is hS (by decide) (runs_assign rfl) (fun a1 hS => ?_)
    refine nil_ok (qx_seq (qx_seq (reg_seq ?_)))
    refine seq_is hS (by decide) (runs_move rfl) (fun a1 hS => ?_)
    refine seq_is hS (by decide) (runs_len rfl undInts) (fun a1 hS => ?_)
    by_cases h0 : l = []
    · subst h0
      refine seq_is hS (by decide) (runs_eql (r := true) rfl rfl rfl) (fun a1 hS => ?_)
      refine nil_ok (wp_cond_true (hS.eval rfl) (qx_seq (reg_seq ?_)))
      refine seq_is hS (by decide) (runs_move rfl) (fun a1 hS => ?_)
      refine seq_is hS (by decide) (runs_move rfl) (fun a1 hS => ?_)
      refine seq_is hS (by decide) (runs_move rfl) (fun a1 hS => ?_)
      refine seq_op hS (by decide) (runs_callv (args := [.int .i64 (f : Int), .int .i64 ((f + n : Nat) : Int)]) (Post := fun v w' => V f n [] w v w') gb rfl rfl (hb f n w hg hn)) (fun v2 w2 a2 hp2 hS => ?_)
      refine seq_is hS (by decide) (runs_assign rfl) (fun a1 hS => ?_)
      exact nil_ok (qx_ret (ret1 (t := 12) (by kernel_rfl) hS rfl ⟨_, rfl, hp2⟩))
    · have hpos : 0 < l.length := List.length_pos_iff.2 h0
      refine seq_is hS (by decide) (runs_eql (r := false) rfl rfl (by rw [beq_eq_false_iff_ne]; omega)) (fun a1 hS => ?_)
      refine nil_ok (wp_cond_false (hS.eval rfl) (wp_skip ?_))
      refine qx_seq (qx_seq (reg_seq ?_))
      refine seq_is hS (by decide) (runs_move rfl) (fun a1 hS => ?_)
      refine seq_is hS (by decide) (runs_move rfl) (fun a1 hS => ?_)
      refine seq_is hS (by decide) (runs_sub rfl rfl ((IntWalk.i64_in _ (by omega)).trans (show _ = (n : Int) by omega))) (fun a1 hS => ?_)
      by_cases hn2 : n < 2
      · refine seq_is hS (by decide) (runs_lss (r := true) rfl rfl (by rw [decide_eq_true_eq]; omega)) (fun a1 hS => ?_)
        refine nil_ok (wp_cond_true (hS.eval rfl) (qx_seq (reg_seq ?_)))
        refine seq_is hS (by decide) (runs_move rfl) (fun a1 hS => ?_)
        refine seq_op hS (by decide) (runs_callv (args := []) (Post := fun v w' => V f n l w v w') ga rfl rfl (ha f n l w hg h0 hn2)) (fun v2 w2 a2 hp2 hS => ?_)
        refine seq_is hS (by decide) (runs_assign rfl) (fun a1 hS => ?_)
        exact nil_ok (qx_ret (ret1 (t := 12) (by kernel_rfl) hS rfl ⟨_, rfl, hp2⟩))
      · refine seq_is hS (by decide) (runs_lss (r := false) rfl rfl (by rw [decide_eq_false_iff_not]; omega)) (fun a1 hS => ?_)
        refine nil_ok (wp_cond_false (hS.eval rfl) (wp_skip ?_))
        have hhl := Tree.half_lt (n := n) (by omega)
        have hhp := Tree.half_pos n
        have hhz : halfZ (n : Int) = Tree.half n := by unfold halfZ; rw [if_neg (by omega), Int.toNat_natCast]
        have hhalf := half_any (n : Int) w (by omega)
        rw [hhz] at hhalf
        have hcc := hc f n l w
        obtain ⟨k, hk⟩ : ∃ k, k = Tree.half n := ⟨_, rfl⟩
        rw [← hk] at hhalf hhl hhp hcc
        have hbel := below_any ((f + k : Nat) : Int) (ofN l) _ w hs
        rw [belowZ_of] at hbel
        have hbl := belowN_le (f + k) l
        obtain ⟨j, hj⟩ : ∃ j, j = belowN (f + k) l := ⟨_, rfl⟩
        rw [← hj] at hbel hcc hbl
        have ht1 := ints_take hs j (by omega)
        have ht2 := ints_drop hs j (by omega)
        have eT : (ofN l).take j = ofN (l.take j) := by simp [ofN, List.map_take]
        have eD : (ofN l).drop j = ofN (l.drop j) := by simp [ofN, List.map_drop]
        rw [eT] at ht1
        rw [eD] at ht2
        refine qx_seq (reg_seq ?_)
        refine seq_is hS (by decide) (runs_move rfl) (fun a1 hS => ?_)
        refine seq_is hS (by decide) (runs_move rfl) (fun a1 hS => ?_)
        refine seq_is hS (by decide) (runs_move rfl) (fun a1 hS => ?_)
        refine seq_is hS (by decide) (runs_sub rfl rfl ((IntWalk.i64_in _ (by omega)).trans (show _ = (n : Int) by omega))) (fun a1 hS => ?_)
        refine seq_is hS (by decide) (runs_call (args := [.int .i64 (n : Int)]) (Post := Is (.int .i64 (k : Int)) w) goes33 rfl (hhalf.mono (by rintro e w' ⟨rfl, rfl⟩; exact ⟨_, rfl, rfl, rfl⟩))) (fun a1 hS => ?_)
        refine seq_is hS (by decide) (runs_add rfl rfl ((IntWalk.i64_in _ (by omega)).trans (show _ = ((f + k : Nat) : Int) by omega))) (fun a1 hS => ?_)
        refine seq_is hS (by decide) (runs_assign rfl) (fun a1 hS => ?_)
        refine nil_ok (qx_seq (reg_seq ?_))
        refine seq_is hS (by decide) (runs_move rfl) (fun a1 hS => ?_)
        refine seq_is hS (by decide) (runs_move rfl) (fun a1 hS => ?_)
        refine seq_is hS (by decide) (runs_call (args := [.int .i64 ((f + k : Nat) : Int), .slice A (ofN l).length c]) (Post := Is (.int .i64 (j : Int)) w) goes84 rfl (hbel.mono (by rintro e w' ⟨rfl, rfl⟩; exact ⟨_, rfl, rfl, rfl⟩))) (fun a1 hS => ?_)
        refine seq_is hS (by decide) (runs_assign rfl) (fun a1 hS => ?_)
        refine nil_ok (qx_seq (reg_seq ?_))
        refine seq_is hS (by decide) (runs_move rfl) (fun a1 hS => ?_)
        refine seq_is hS (by decide) (runs_move rfl) (fun a1 hS => ?_)
        refine seq_is hS (by decide) (runs_move rfl) (fun a1 hS => ?_)
        refine seq_is hS (by decide) (runs_move rfl) (fun a1 hS => ?_)
        refine seq_is hS (by decide) (runs_sliceToG rfl rfl rfl undInts rfl (by omega)) (fun a1 hS => ?_)
        refine seq_is hS (by decide) (runs_move rfl) (fun a1 hS => ?_)
        refine seq_is hS (by decide) (runs_move rfl) (fun a1 hS => ?_)
        refine seq_is hS (by decide) (runs_move rfl) (fun a1 hS => ?_)
        refine seq_op hS (by decide) (runs_call (args := [.int .i64 (f : Int), .int .i64 ((f + k : Nat) : Int), .slice A j c, .func (.func cb) #[] kb.toArray, .func (.func ca) #[] ka.toArray, .func (.func cc) #[] kc.toArray]) (Post := fun v w' => V f k (l.take j) w v w') goes50 rfl (ih k hhl f (l.take j) _ w (by omega) hg ht1)) (fun v2 w2 a2 hp2 hS => ?_)
        refine seq_is hS (by decide) (runs_assign rfl) (fun a1 hS => ?_)
        have hg2 := hG _ _ _ _ _ _ hp2 hg
        have ht3 := hV _ _ _ _ _ _ hp2 hg _ _ ht2
        refine nil_ok (qx_seq (reg_seq ?_))
        refine seq_is hS (by decide) (runs_move rfl) (fun a1 hS => ?_)
        refine seq_is hS (by decide) (runs_move rfl) (fun a1 hS => ?_)
        refine seq_is hS (by decide) (runs_move rfl) (fun a1 hS => ?_)
        refine seq_is hS (by decide) (runs_move rfl) (fun a1 hS => ?_)
        refine seq_is hS (by decide) (runs_sliceFromG (l := j) rfl rfl rfl undInts infInt1 (by omega)) (fun a1 hS => ?_)
        refine seq_is hS (by decide) (runs_move rfl) (fun a1 hS => ?_)
        refine seq_is hS (by decide) (runs_move rfl) (fun a1 hS => ?_)
        refine seq_is hS (by decide) (runs_move rfl) (fun a1 hS => ?_)
        have hih := ih (n - k) (by omega) (f + k) (l.drop j) _ w2 (by omega) hg2 ht3
        rw [show f + k + (n - k) = f + n by omega] at hih
        refine seq_op hS (by decide) (runs_call (args := [.int .i64 ((f + k : Nat) : Int), .int .i64 ((f + n : Nat) : Int), .slice (if c = j then A else A.map (·.add (j * 1))) ((ofN l).length - j) (c - j), .func (.func cb) #[] kb.toArray, .func (.func ca) #[] ka.toArray, .func (.func cc) #[] kc.toArray]) (Post := fun v w' => V (f + k) (n - k) (l.drop j) w2 v w') goes50 rfl hih) (fun v3 w3 a3 hp3 hS => ?_)
        refine seq_is hS (by decide) (runs_assign rfl) (fun a1 hS => ?_)
        refine nil_ok (qx_seq (reg_seq ?_))
        refine seq_is hS (by decide) (runs_move rfl) (fun a1 hS => ?_)
        refine seq_is hS (by decide) (runs_move rfl) (fun a1 hS => ?_)
        refine seq_is hS (by decide) (runs_move rfl) (fun a1 hS => ?_)
        refine seq_op hS (by decide) (runs_callv (args := [v2, v3]) (Post := fun v w' => V f n l w v w') gc rfl rfl (hcc w2 w3 v2 v3 hg h0 hn2 hn hp2 hp3)) (fun v4 w4 a4 hp4 hS => ?_)
        refine seq_is hS (by decide) (runs_assign rfl) (fun a1 hS => ?_)
        exact nil_ok (qx_ret (ret1 (t := 12) (by kernel_rfl) hS rfl ⟨_, rfl, hp4⟩))
end Go.Proofs.YtdemoidmhmdgkaaDoor
