/- Layer 4: Size, Prove and Check. Conditions: the table of constants lies as it was laid; leaves of at most 100000 bytes. -/
import Derived.Test.YtdemoidmhmdgkaaDoorMSums
namespace Go.Proofs.YtdemoidmhmdgkaaDoor
open Go.RowKit Many
set_option maxRecDepth 100000

theorem goes20 : Goes Tryd.prog 20 := goes_of Tryd.func20 (by kernel_rfl) rfl
theorem goes23 : Goes Tryd.prog 23 := goes_of Tryd.func23 (by kernel_rfl) rfl
theorem goes26 : Goes Tryd.prog 26 := goes_of Tryd.func26 (by kernel_rfl) rfl
theorem goes51 : Goes Tryd.prog 51 := goes_of Tryd.func51 (by kernel_rfl) rfl
theorem goes52 : Goes Tryd.prog 52 := goes_of Tryd.func52 (by kernel_rfl) rfl
theorem goes53 : Goes Tryd.prog 53 := goes_of Tryd.func53 (by kernel_rfl) rfl
theorem goes54 : Goes Tryd.prog 54 := goes_of Tryd.func54 (by kernel_rfl) rfl
theorem goes56 : Goes Tryd.prog 56 := goes_of Tryd.func56 (by kernel_rfl) rfl
theorem goes57 : Goes Tryd.prog 57 := goes_of Tryd.func57 (by kernel_rfl) rfl
theorem goes58 : Goes Tryd.prog 58 := goes_of Tryd.func58 (by kernel_rfl) rfl
theorem goes64 : Goes Tryd.prog 64 := goes_of Tryd.func64 (by kernel_rfl) rfl
/-- May these places be asked for? -/
def askB (n : Int) (xs : List Int) : Bool := decide (0 ≤ n) && decide (n ≤ 65536) && risesB n (-1) xs
def toN (xs : List Int) : List Nat := xs.map Int.toNat
def sizeZ (n : Int) (xs : List Int) : Nat := if askB n xs = true then (parts 0 n.toNat (toN xs)).length else 0
def checkM (root : List Nat) (n : Int) (xs : List Int) (ss : List (List Nat)) (hs : List (List Nat)) : Bool :=
  if askB n xs = true ∧ ss.length = xs.length ∧ hs.length = sizeZ n xs then Tree.root n.toNat (chk 0 n.toNat (toN xs) hs ss) == root else false
theorem toN_of (l : List Nat) : toN (ofN l) = l := by
  unfold toN ofN
  rw [List.map_map]
  exact (List.map_congr_left (fun x _ => by simp)).trans (List.map_id l)
theorem of_toN {n : Int} {xs : List Int} (h : risesB n (-1) xs = true) : xs = ofN (toN xs) ∧ Rise 0 n.toNat (toN xs) := by
  obtain ⟨ys, rfl, hr⟩ := rises_nat n xs (-1) (by omega) h
  rw [toN_of]; exact ⟨rfl, hr⟩
theorem rise_len {hi : Nat} : ∀ {l : List Nat} {lo : Nat}, Rise lo hi l → l.length ≤ hi - lo
  | [], _, _ => by simp
  | x :: xs, lo, h => by
    have := rise_len h.2.2
    obtain ⟨h1, h2, _⟩ := h
    simp only [List.length_cons]; omega
theorem rises_call (n : Int) (xs : List Int) (v : Value) (w : World) (hs : Ints w v xs) : Calls Tryd.prog 22 [Value.int .i64 n, v].toArray w fun e w' => ∃ u, e = .returned u ∧ Is (.bool (risesB n (-1) xs)) w u w' := (rises_any n xs v w hs).mono (by rintro e w' ⟨rfl, rfl⟩; exact ⟨_, rfl, rfl, rfl⟩)
theorem ask_any (n : Int) (xs : List Int) (v : Value) (w : World) (hs : Ints w v xs) : Calls Tryd.prog 54 #[.int .i64 n, v] w fun e w' => e = .returned (.bool (askB n xs)) ∧ w' = w := by
  obtain ⟨A, c, rfl, h1, h2, hA⟩ := id hs
  refine calls_qx (args := [.int .i64 n, .slice A xs.length c]) 16 Tryd.func54 rfl (by kernel_rfl) (by simp) (fun a hS => ?_)
  refine qx_seq (reg_seq ?_)
  refine seq_is hS (by decide) (runs_assign rfl) (fun a1 hS => ?_)
  refine nil_ok (qx_seq (reg_seq ?_))
  refine seq_is hS (by decide) (runs_move rfl) (fun a1 hS => ?_)
  by_cases h3 : 0 ≤ n
  · refine seq_is hS (by decide) (runs_leq (r := true) rfl rfl (by rw [decide_eq_true_eq]; omega)) (fun a1 hS => ?_)
    refine seq_is hS (by decide) (runs_move rfl) (fun a1 hS => ?_)
    refine seq_yis hS (by decide) rfl (by decide) rfl (runs_move rfl) (fun a1 hS => ?_)
    by_cases h4 : n ≤ 65536
    · refine seq_yis hS (by decide) rfl (by decide) rfl (runs_leq (r := true) rfl rfl (by rw [decide_eq_true_eq]; omega)) (fun a1 hS => ?_)
      refine seq_is hS (by decide) (runs_pick rfl rfl) (fun a1 hS => ?_)
      refine seq_is hS (by decide) (runs_move rfl) (fun a1 hS => ?_)
      refine seq_yis hS (by decide) rfl (by decide) rfl (runs_move rfl) (fun a1 hS => ?_)
      refine seq_yis hS (by decide) rfl (by decide) rfl (runs_move rfl) (fun a1 hS => ?_)
      refine seq_yis hS (by decide) rfl (by decide) rfl (runs_call (args := [.int .i64 n, .slice A xs.length c]) goes22 rfl (rises_call n xs _ w hs)) (fun a1 hS => ?_)
      refine seq_is hS (by decide) (runs_pick rfl rfl) (fun a1 hS => ?_)
      refine seq_is hS (by decide) (runs_assign rfl) (fun a1 hS => ?_)
      have ha : askB n xs = risesB n (-1) xs := by unfold askB; rw [show decide (0 ≤ n) = true by simpa using h3, show decide (n ≤ 65536) = true by simpa using h4]; simp
      exact nil_ok (qx_ret (ret1 (t := 4) (by kernel_rfl) hS rfl ⟨by rw [ha], rfl⟩))
    · refine seq_yis hS (by decide) rfl (by decide) rfl (runs_leq (r := false) rfl rfl (by rw [decide_eq_false_iff_not]; omega)) (fun a1 hS => ?_)
      refine seq_is hS (by decide) (runs_pick rfl rfl) (fun a1 hS => ?_)
      refine seq_is hS (by decide) (runs_move rfl) (fun a1 hS => ?_)
      refine seq_no hS (by decide) rfl (by decide) rfl rfl (fun a1 hS => ?_)
      refine seq_no hS (by decide) rfl (by decide) rfl rfl (fun a1 hS => ?_)
      refine seq_no hS (by decide) rfl (by decide) rfl rfl (fun a1 hS => ?_)
      refine seq_is hS (by decide) (runs_pick rfl rfl) (fun a1 hS => ?_)
      refine seq_is hS (by decide) (runs_assign rfl) (fun a1 hS => ?_)
      have ha : askB n xs = false := by unfold askB; rw [show decide (n ≤ 65536) = false by simpa using h4]; simp
      exact nil_ok (qx_ret (ret1 (t := 4) (by kernel_rfl) hS rfl ⟨by rw [ha], rfl⟩))
  · refine seq_is hS (by decide) (runs_leq (r := false) rfl rfl (by rw [decide_eq_false_iff_not]; omega)) (fun a1 hS => ?_)
    refine seq_is hS (by decide) (runs_move rfl) (fun a1 hS => ?_)
    refine seq_no hS (by decide) rfl (by decide) rfl rfl (fun a1 hS => ?_)
    refine seq_no hS (by decide) rfl (by decide) rfl rfl (fun a1 hS => ?_)
    refine seq_is hS (by decide) (runs_pick rfl rfl) (fun a1 hS => ?_)
    refine seq_is hS (by decide) (runs_move rfl) (fun a1 hS => ?_)
    refine seq_no hS (by decide) rfl (by decide) rfl rfl (fun a1 hS => ?_)
    refine seq_no hS (by decide) rfl (by decide) rfl rfl (fun a1 hS => ?_)
    refine seq_no hS (by decide) rfl (by decide) rfl rfl (fun a1 hS => ?_)
    refine seq_is hS (by decide) (runs_pick rfl rfl) (fun a1 hS => ?_)
    refine seq_is hS (by decide) (runs_assign rfl) (fun a1 hS => ?_)
    have ha : askB n xs = false := by unfold askB; rw [show decide (0 ≤ n) = false by simpa using h3]; simp
    exact nil_ok (qx_ret (ret1 (t := 4) (by kernel_rfl) hS rfl ⟨by rw [ha], rfl⟩))
theorem ask_call (n : Int) (xs : List Int) (v : Value) (w : World) (hs : Ints w v xs) : Calls Tryd.prog 54 [Value.int .i64 n, v].toArray w fun e w' => ∃ u, e = .returned u ∧ Is (.bool (askB n xs)) w u w' := (ask_any n xs v w hs).mono (by rintro e w' ⟨rfl, rfl⟩; exact ⟨_, rfl, rfl, rfl⟩)
theorem size1_any (w : World) (u v : Value) : Calls Tryd.prog 56 #[u, v] w fun e w' => e = .returned (.int .i64 1) ∧ w' = w := by
  refine calls_qx (args := [u, v]) 5 Tryd.func56 rfl (by kernel_rfl) (by simp) (fun a hS => ?_)
  refine qx_seq (reg_seq ?_)
  refine seq_is hS (by decide) (runs_assign rfl) (fun a1 hS => ?_)
  refine nil_ok (qx_seq (reg_seq ?_))
  refine seq_is hS (by decide) (runs_assign rfl) (fun a1 hS => ?_)
  exact nil_ok (qx_ret (ret1 (t := 4) (by kernel_rfl) hS rfl ⟨rfl, rfl⟩))
theorem size2_any (w : World) : Calls Tryd.prog 57 #[] w fun e w' => e = .returned (.int .i64 0) ∧ w' = w := by
  refine calls_qx (args := []) 1 Tryd.func57 rfl (by kernel_rfl) (by simp) (fun a hS => ?_)
  refine qx_seq (reg_seq ?_)
  refine seq_is hS (by decide) (runs_assign rfl) (fun a1 hS => ?_)
  refine nil_ok (qx_seq (reg_seq ?_))
  refine seq_is hS (by decide) (runs_assign rfl) (fun a1 hS => ?_)
  exact nil_ok (qx_ret (ret1 (t := 0) (by kernel_rfl) hS rfl ⟨rfl, rfl⟩))
theorem size3_any (x y : Nat) (w : World) (h : x + y ≤ 4294967296) : Calls Tryd.prog 58 #[.int .i64 (x : Int), .int .i64 (y : Int)] w fun e w' => e = .returned (.int .i64 ((x + y : Nat) : Int)) ∧ w' = w := by
  refine calls_qx (args := [.int .i64 (x : Int), .int .i64 (y : Int)]) 8 Tryd.func58 rfl (by kernel_rfl) (by simp) (fun a hS => ?_)
  refine qx_seq (reg_seq ?_)
  refine seq_is hS (by decide) (runs_assign rfl) (fun a1 hS => ?_)
  refine nil_ok (qx_seq (reg_seq ?_))
  refine seq_is hS (by decide) (runs_move rfl) (fun a1 hS => ?_)
  refine seq_is hS (by decide) (runs_move rfl) (fun a1 hS => ?_)
  refine seq_is hS (by decide) (runs_add rfl rfl ((IntWalk.i64_in _ (by omega)).trans (show _ = ((x + y : Nat) : Int) by omega))) (fun a1 hS => ?_)
  refine seq_is hS (by decide) (runs_assign rfl) (fun a1 hS => ?_)
  exact nil_ok (qx_ret (ret1 (t := 4) (by kernel_rfl) hS rfl ⟨rfl, rfl⟩))
theorem size_any (n : Int) (xs : List Int) (v : Value) (w : World) (hs : Ints w v xs) : Calls Tryd.prog 23 #[.int .i64 n, v] w fun e w' => e = .returned (.int .i64 ((sizeZ n xs : Nat) : Int)) ∧ w' = w := by
  refine calls_qx (args := [.int .i64 n, v]) 12 Tryd.func23 rfl (by kernel_rfl) (by simp) (fun a hS => ?_)
  refine qx_seq (reg_seq ?_)
  refine seq_is hS (by decide) (runs_assign rfl) (fun a1 hS => ?_)
  refine nil_ok (qx_seq (qx_seq (reg_seq ?_)))
  refine seq_is hS (by decide) (runs_move rfl) (fun a1 hS => ?_)
  refine seq_is hS (by decide) (runs_move rfl) (fun a1 hS => ?_)
  refine seq_is hS (by decide) (runs_call (args := [.int .i64 n, v]) goes54 rfl (ask_call n xs v w hs)) (fun a1 hS => ?_)
  cases ha : askB n xs with
  | false =>
    rw [ha] at hS
    refine seq_is hS (by decide) (runs_not (b := false) rfl) (fun a1 hS => ?_)
    refine nil_ok (wp_cond_true (hS.eval rfl) (qx_seq (reg_seq ?_)))
    refine seq_is hS (by decide) (runs_assign rfl) (fun a1 hS => ?_)
    exact nil_ok (qx_ret (ret1 (t := 4) (by kernel_rfl) hS rfl ⟨by rw [show sizeZ n xs = 0 by unfold sizeZ; rw [ha]; simp]; rfl, rfl⟩))
  | true =>
    rw [ha] at hS
    have ha' := ha
    simp only [askB, Bool.and_eq_true, decide_eq_true_eq] at ha'
    obtain ⟨⟨h0, h1⟩, hr⟩ := ha'
    obtain ⟨he, hrn⟩ := of_toN hr
    obtain ⟨m, rfl⟩ := Int.eq_ofNat_of_zero_le h0
    have hz : sizeZ (m : Int) xs = (parts 0 m (toN xs)).length := by unfold sizeZ; rw [if_pos ha]; simp
    rw [hz]
    generalize toN xs = l at *
    subst he
    refine seq_is hS (by decide) (runs_not (b := true) rfl) (fun a1 hS => ?_)
    refine nil_ok (wp_cond_false (hS.eval rfl) (wp_skip (qx_seq (reg_seq ?_))))
    refine seq_is hS (by decide) (runs_move rfl) (fun a1 hS => ?_)
    refine seq_is hS (by decide) (runs_move rfl) (fun a1 hS => ?_)
    have htog := tog55_any 56 57 58 [] [] [] goes56 goes57 goes58 (fun w' => w' = w) (fun f n l w v w' => v = .int .i64 (((parts f n l).length : Nat) : Int) ∧ w' = w) 65536 (by omega) (fun f n l w1 v w' h hg => by rw [h.2]; exact hg) (fun f n l w1 v w' h _ u xs hu => by rw [h.2]; exact hu)
      (fun f n w' _ _ => (size1_any w' _ _).mono (by rintro e w'' ⟨rfl, rfl⟩; exact ⟨_, rfl, by rw [parts_nil]; rfl, rfl⟩))
      (fun f n l w' _ h0 h2 => (size2_any w').mono (by rintro e w'' ⟨rfl, rfl⟩; exact ⟨_, rfl, by rw [parts_small h0 h2]; rfl, rfl⟩))
      (fun f n l w' w1 w2 v1 v2 _ h0 h2 hT hv1 hv2 => by
        obtain ⟨rfl, rfl⟩ := hv1
        obtain ⟨rfl, rfl⟩ := hv2
        have e1 := parts_le' (Tree.half n) f (l.take (belowN (f + Tree.half n) l))
        have e2 := parts_le' (n - Tree.half n) (f + Tree.half n) (l.drop (belowN (f + Tree.half n) l))
        have := Tree.half_lt (n := n) (by omega)
        exact (size3_any _ _ _ (by omega)).mono (by rintro e w'' ⟨rfl, rfl⟩; exact ⟨_, rfl, by rw [parts_more h0 h2, List.length_append], rfl⟩)) m 0 l v w (by omega) rfl hs
    rw [Nat.zero_add] at htog
    refine seq_is hS (by decide) (runs_call (args := [.int .i64 0, .int .i64 (m : Int), v, .func (.func 56) #[] #[], .func (.func 57) #[] #[], .func (.func 58) #[] #[]]) (Post := Is (.int .i64 (((parts 0 m l).length : Nat) : Int)) w) goes55 rfl htog) (fun a1 hS => ?_)
    refine seq_is hS (by decide) (runs_assign rfl) (fun a1 hS => ?_)
    exact nil_ok (qx_ret (ret1 (t := 4) (by kernel_rfl) hS rfl ⟨rfl, rfl⟩))
theorem size_call (n : Int) (xs : List Int) (v : Value) (w : World) (hs : Ints w v xs) : Calls Tryd.prog 23 [Value.int .i64 n, v].toArray w fun e w' => ∃ u, e = .returned u ∧ Is (.int .i64 ((sizeZ n xs : Nat) : Int)) w u w' := (size_any n xs v w hs).mono (by rintro e w' ⟨rfl, rfl⟩; exact ⟨_, rfl, rfl, rfl⟩)
set_option maxHeartbeats 1000000 in
theorem rootOfM_any (n : Nat) (t : List Nat) (w : World) (hn : n < 9223372036854775808) (ht : t.length = 32) (hbt : Sha.Bytes t) (hk : Kept w) :
    Calls Tryd.prog 64 #[.int .i64 (n : Int), .agg (U8 t).toArray] w fun e w' => e = .returned (.agg (U8 (Tree.root n t)).toArray) ∧ Below w.heap.size w w' := by
  refine calls_qx (args := [.int .i64 (n : Int), .agg (U8 t).toArray]) 20 Tryd.func64 rfl (by kernel_rfl) (by simp) (fun a hS => ?_)
  obtain ⟨ib, hib, hzb0, hzbs, hzbb⟩ := info_parts infBytes
  have hl10 := Wire.num_len10 n (by omega)
  refine qx_seq (reg_seq ?_)
  refine seq_op hS (by decide) (runs_box rfl) (fun v1 w1 a1 hp1 hS => ?_)
  obtain ⟨rfl, rfl⟩ := hp1
  have hX1 : Has (w.alloc (.cells (Value.agg (U8 t).toArray).cells 26)) w.heap.size 26 (U8 t) := Has.new w 26 (U8 t)
  have hB1 : Below w.heap.size w (w.alloc (.cells (Value.agg (U8 t).toArray).cells 26)) := (Below.refl _ _).alloc (Nat.le_refl _) _
  have hz1 : (w.alloc (.cells (Value.agg (U8 t).toArray).cells 26)).heap.size = w.heap.size + 1 := by simp
  generalize w.alloc (.cells (Value.agg (U8 t).toArray).cells 26) = w1 at *
  refine seq_op hS (by decide) alloc_hash (fun v1 w3 a1 hp1 hS => ?_)
  obtain ⟨rfl, rfl⟩ := hp1
  have hH2 := Has.new w1 26 (U8 (List.replicate 32 0))
  have hB2 : Below w1.heap.size w1 (w1.alloc (.cells (U8 (List.replicate 32 0)).toArray 26)) := (Below.refl _ _).alloc (Nat.le_refl _) _
  have hz2 : (w1.alloc (.cells (U8 (List.replicate 32 0)).toArray 26)).heap.size = w1.heap.size + 1 := by simp
  generalize w1.alloc (.cells (U8 (List.replicate 32 0)).toArray 26) = w2 at *
  refine nil_ok (qx_seq (reg_seq ?_))
  refine seq_op hS (by decide) (runs_call (args := []) (Post := fun v w' => v = .pointer (some ⟨w2.heap.size, 0, none⟩) ∧ w' = w2.alloc (.cells #[.slice none 0 0] 110)) goes70 rfl ((newOut_any w2).mono (by rintro e w' ⟨rfl, rfl⟩; exact ⟨_, rfl, rfl, rfl⟩))) (fun v1 w3 a1 hp1 hS => ?_)
  obtain ⟨rfl, rfl⟩ := hp1
  have hO3 := out_new w2
  have hB3 : Below w2.heap.size w2 (w2.alloc (.cells #[.slice none 0 0] 110)) := (Below.refl _ _).alloc (Nat.le_refl _) _
  have hz3 : (w2.alloc (.cells #[.slice none 0 0] 110)).heap.size = w2.heap.size + 1 := by simp
  generalize w2.alloc (.cells #[.slice none 0 0] 110) = w3 at *
  refine seq_is hS (by decide) (runs_assign rfl) (fun a1 hS => ?_)
  refine nil_ok (qx_seq (reg_seq ?_))
  refine seq_is hS (by decide) (runs_move rfl) (fun a1 hS => ?_)
  refine seq_is hS (by decide) (runs_move rfl) (fun a1 hS => ?_)
  refine seq_is hS (by decide) (runs_convInt rfl rfl undU64 (IntWalk.u64_in _ (by omega))) (fun a1 hS => ?_)
  refine seq_op hS (by decide) (runs_call (args := [.pointer (some ⟨w2.heap.size, 0, none⟩), .int .u64 (n : Int)]) (Post := fun _ w' => Wrote w3 w2.heap.size (.slice none 0 0) ([] ++ Wire.num n) w') goes71 rfl ((outNum_any w2.heap.size n _ [] w3 (by omega) hO3 (by simp)).mono (by rintro e w' ⟨rfl, h⟩; exact ⟨_, rfl, h⟩))) (fun v1 w4 a1 hp1 hS => ?_)
  obtain ⟨v4, hO4, hF4, hL4⟩ := hp1
  rw [List.nil_append] at hO4
  have hB4 : Below w2.heap.size w3 w4 := hF4.below (Nat.le_refl _) (by omega) (fun k hk => by simp [Value.ownBlock] at hk)
  have hX4 : Has w4 w.heap.size 26 (U8 t) := ((hX1.below hB2 (by omega)).below hB3 (by omega)).below hB4 (by omega)
  refine nil_ok (qx_seq (reg_seq ?_))
  refine seq_is hS (by decide) (runs_move rfl) (fun a1 hS => ?_)
  refine seq_is hS (by decide) (runs_loadRow rfl hX4 undHash rfl (by rw [infHash]; simp [ht])) (fun a1 hS => ?_)
  refine seq_op hS (by decide) (runs_call (args := [.pointer (some ⟨w2.heap.size, 0, none⟩), .agg (U8 t).toArray]) (Post := fun _ w' => Wrote w4 w2.heap.size v4 (Wire.num n ++ t) w') goes72 rfl ((outHash_any w2.heap.size t v4 _ w4 ht hO4 (by omega)).mono (by rintro e w' ⟨rfl, h⟩; exact ⟨_, rfl, h⟩))) (fun v1 w5 a1 hp1 hS => ?_)
  obtain ⟨v5, hO5, hF5, hL5⟩ := hp1
  have hB5 : Below w2.heap.size w4 w5 := hF5.below (Nat.le_refl _) (by have := hB4.size; omega) (fun k hk => by
    rcases hL4 with h | ⟨j, h, hj⟩
    · rw [h] at hk; simp [Value.ownBlock] at hk
    · rw [h] at hk; injection hk with hk; omega)
  obtain ⟨i5, hi5, hz5, hzs5, hzb5⟩ := info_parts infByte
  refine nil_ok (qx_seq (reg_seq ?_))
  refine seq_op hS (by decide) (runs_buildSlice (pv := [(0, .int .u8 3)]) rfl undBytes hi5 hz5 hzs5 (by omega) (by omega) (cells := (U8 [3]).toArray) (by kernel_rfl)) (fun v1 w9 a1 hp1 hS => ?_)
  obtain ⟨rfl, rfl⟩ := hp1
  have hM9 := Has.new w5 5 (U8 [3])
  have hB9 : Below w5.heap.size w5 (w5.alloc (.cells (U8 [3]).toArray 5)) := (Below.refl _ _).alloc (Nat.le_refl _) _
  have hz9 : (w5.alloc (.cells (U8 [3]).toArray 5)).heap.size = w5.heap.size + 1 := by simp
  have hO9 : Out (w5.alloc (.cells (U8 [3]).toArray 5)) w2.heap.size v5 (Wire.num n ++ t) := hO5.below hB9
  generalize w5.alloc (.cells (U8 [3]).toArray 5) = w9 at *
  refine seq_is hS (by decide) (runs_move rfl) (fun a1 hS => ?_)
  refine seq_is hS (by decide) (runs_call (args := [.pointer (some ⟨w2.heap.size, 0, none⟩)]) (Post := Is (.string (S (Wire.num n ++ t))) w9) goes73 rfl ((done_any w2.heap.size v5 _ w9 hO9).mono (by rintro e w' ⟨rfl, rfl⟩; exact ⟨_, rfl, rfl, rfl⟩))) (fun a1 hS => ?_)
  have hbn : Sha.Bytes (Wire.num n ++ t) := bytes_append (Wire.num_bytes n) hbt
  obtain ⟨w6, c6, hcv, hz6, hB6, hS6⟩ := conv_str w9 (S (Wire.num n ++ t)) (by rw [S_size, List.length_append]; unfold maxLen; omega)
  rw [bl_S hbn] at hS6
  rw [S_size] at hcv hS6
  refine seq_is hS (by decide) (runs_conv rfl hcv) (fun a1 hS => ?_)
  have hM6 : Has w6 w5.heap.size 5 (U8 [3]) := hM9.below hB6 (by omega)
  have hS3 : Sl w6 w6.heap.size (.slice (some ⟨w5.heap.size, 0, none⟩) 1 1) [3] := Sl.new hM6.all hM6.lt rfl (by omega) (by unfold maxLen; omega)
  refine seq_op hS (by decide) (runs_buildSlice (pv := [(0, .slice (some ⟨w5.heap.size, 0, none⟩) 1 1), (1, .slice (some ⟨w9.heap.size, 0, none⟩) (Wire.num n ++ t).length c6)]) rfl undParts hib hzb0 hzbs (by omega) (by omega) (cells := #[.slice (some ⟨w5.heap.size, 0, none⟩) 1 1, .slice (some ⟨w9.heap.size, 0, none⟩) (Wire.num n ++ t).length c6]) (by kernel_rfl)) (fun v1 w7 a1 hp1 hS => ?_)
  obtain ⟨rfl, rfl⟩ := hp1
  have hP := parts_two hS3 hS6
  have hB7 : Below w6.heap.size w6 (w6.alloc (.cells #[.slice (some ⟨w5.heap.size, 0, none⟩) 1 1, .slice (some ⟨w9.heap.size, 0, none⟩) (Wire.num n ++ t).length c6] 37)) := (Below.refl _ _).alloc (Nat.le_refl _) _
  generalize w6.alloc (.cells #[.slice (some ⟨w5.heap.size, 0, none⟩) 1 1, .slice (some ⟨w9.heap.size, 0, none⟩) (Wire.num n ++ t).length c6] 37) = w7 at *
  have s4 := hB4.size
  have s5 := hB5.size
  have hB27 : Below w2.heap.size w2 w7 := ((((hB3.trans hB4).trans hB5).trans (hB9.mono (by omega))).trans (hB6.mono (by omega))).trans (hB7.mono (by omega))
  have hBw7 : Below w.heap.size w w7 := (hB1.trans (hB2.mono (by omega))).trans (hB27.mono (by omega))
  have hH7 : Has w7 w1.heap.size 26 (U8 (List.replicate 32 0)) := hH2.below hB27 (by omega)
  have hsum := of_any [[3], Wire.num n ++ t] _ w7 hP (fun l hl => by
    simp only [List.mem_cons, List.not_mem_nil, or_false] at hl
    rcases hl with rfl | rfl
    · exact bytes_cons (by omega) (fun _ h => by cases h)
    · exact hbn) (hk.below hBw7 hk.pos) (by simp; omega)
  rw [show [[3], Wire.num n ++ t].flatten = 3 :: (Wire.num n ++ t) by simp] at hsum
  refine seq_op hS (by decide) (runs_call (args := [.slice (some ⟨w6.heap.size, 0, none⟩) 2 2]) goes18 rfl (hash_post (fun w' => Below w7.heap.size w7 w') hsum (fun _ h => h))) (fun v8 w8 a8 hp8 hS => ?_)
  obtain ⟨rfl, hB8⟩ := hp8
  have hH8 := hH7.below hB8 hH7.lt
  have hlen : (Sha.sha (3 :: (Wire.num n ++ t))).length = 32 := Sha.Holds.sumText
  refine seq_none hS (runs_storeRow rfl rfl hH8 (by simp [hlen]) (agg_all _) (by rw [infHash]; simp [hlen])) (fun v6 w6 a6 hp6 hS => ?_)
  obtain ⟨rfl, rfl⟩ := hp6
  exact nil_ok (qx_ret (retRow (t := 0) (p := 4) (by kernel_rfl) hS rfl (has_setRow (cs := U8 (Sha.sha (3 :: (Wire.num n ++ t)))) hH8) rfl undHash rfl (by rw [infHash]; simp [hlen]) ⟨rfl, below_row (hBw7.trans (hB8.mono hBw7.size)) (by omega) _⟩))
/- Prove -/
section
variable {P : Program} {L : List (Nat × Value)} {w : World} {ty : TypeId}
/-- x[l:h], of whatever slice. -/
theorem runs_sliceG {t e : TypeId} {x lo hi : Operand} {A : Option Addr} {m c l h sz : Nat} {i j : Int} (hx : vals L x = some (.slice A m c)) (hlo : vals L lo = some (.int .i64 i)) (hhi : vals L hi = some (.int .i64 j)) (hi' : i = (l : Int)) (hj' : j = (h : Int)) (hu : P.underlying t = some (.slice e)) (hs : (P.info? e).map (·.size) = some sz) (hlh : l ≤ h) (hhc : h ≤ c) :
    Runs P (.slice t x (some lo) (some hi) none) ty L w (Is (.slice (if c = l then A else A.map (·.add (l * sz))) (h - l) (c - l)) w) := fun o a K Q ho _ hL hK => by
  have ex := hL x (by simp [Op.operands]) _ hx
  have el := hL lo (by simp [Op.operands]) _ hlo
  have eh := hL hi (by simp [Op.operands]) _ hhi
  subst hi' hj'
  obtain ⟨ie, hie⟩ : ∃ ie, P.info? e = some ie := by
    cases h : P.info? e with
    | none => rw [h] at hs; cases hs
    | some ie => exact ⟨ie, rfl⟩
  have hsz : ie.size = sz := by rw [hie] at hs; simpa using hs
  unfold Oper.wp
  have : (execOp a.eval o).run P w = .ok (.value (.slice (if c = l then A else A.map (·.add (l * sz))) (h - l) (c - l))) w := by
    simp [execOp, ho, ex, el, eh, Instr.sliceAt, run_underlying hu, Instr.slice, Instr.sliceBounds, Instr.sliceBound, asIntOf, hlh, hhc, sizeOf, typeInfo, hie, hsz]
  rw [this]
  exact hK _ _ ⟨rfl, rfl⟩
theorem runs_appendNil {t e : TypeId} {s x : Operand} {i : TypeInfo} {A : Option Addr} {c' : Nat} (ht : P.underlying t = some (.slice e)) (hi : P.info? e = some i) (hs : vals L s = some (.slice none 0 0)) (hx : vals L x = some (.slice A 0 c')) :
    Runs P (.call { callee := .builtin .append, args := #[s, x], argTypes := #[t, t] }) ty L w (Is (.slice none 0 0) w) := fun o a K Q ho _ hL hK => by
  have e1 := hL s (by simp [Op.operands, Call.operands]) _ hs
  have e2 := hL x (by simp [Op.operands, Call.operands]) _ hx
  unfold Oper.wp
  have : (execOp a.eval o).run P w = .ok (.value (.slice none 0 0)) w := by
    cases A <;> simp [execOp, ho, resolve, invoke, builtin, e1, e2, Builtin.append_, run_underlying ht, sizeOf, typeInfo, hi, Builtin.lenOf, Builtin.firstCells, loadCells, loadCellsFrom]
  rw [this]
  exact hK _ _ ⟨rfl, rfl⟩
end
theorem strs_sub {w : World} {A : Option Addr} {c : Nat} {ss : List ByteArray} (h : Strs w (.slice A ss.length c) ss) (f n : Nat) (hk : f + n ≤ ss.length) : Strs w (.slice (if c = f then A else A.map (·.add (f * 1))) n (c - f)) ((ss.drop f).take n) := by
  obtain ⟨A', c', e, h1, h2, hA⟩ := h
  simp only [Value.slice.injEq, true_and] at e
  obtain ⟨rfl, rfl⟩ := e
  have hl : ((ss.drop f).take n).length = n := by simp; omega
  refine ⟨_, c - f, by rw [hl], by omega, by omega, fun h0 => ?_⟩
  rw [hl] at h0
  obtain ⟨b, o, rfl, hb, hc⟩ := hA (by omega)
  refine ⟨b, o + f, by rw [if_neg (by omega)]; simp [add_lit'], hb, fun i hi => ?_⟩
  rw [show o + f + i = o + (f + i) by omega, hc (f + i) (by omega)]
  simp [show i < n by omega]
/-- What a call of together gives in Prove. -/
def VP (ll : List (List Nat)) (f n : Nat) (l : List Nat) (w : World) (v : Value) (w' : World) : Prop := w'.ownsRow w.heap.size 26 32 v (parts f n l).length (U8 ((parts f n l).map (topP ll)).flatten) ∧ Below w.heap.size w w'
theorem U8_cat (a b : List (List Nat)) : U8 (a ++ b).flatten = U8 a.flatten ++ U8 b.flatten := by rw [List.flatten_append, U8_append]
set_option maxHeartbeats 1000000 in
theorem prove1m_any (gl : Nat) (lv : Value) (ss : List ByteArray) (f n : Nat) (w : World) (hg : Has w gl 22 [lv]) (hs : Strs w lv ss) (hsz : ∀ s ∈ ss, s.size ≤ 100000) (hnm : ss.length ≤ 1000000) (hfn : f + n ≤ ss.length) (hk : Kept w) :
    Calls Tryd.prog 51 #[.int .i64 (f : Int), .int .i64 ((f + n : Nat) : Int), .pointer (some ⟨gl, 0, none⟩)] w fun e w' => ∃ v, e = .returned v ∧ VP (ss.map bl) f n [] w v w' := by
  obtain ⟨A, c, rfl, h1, h2, hA⟩ := id hs
  refine calls_qx (args := [.int .i64 (f : Int), .int .i64 ((f + n : Nat) : Int), .pointer (some ⟨gl, 0, none⟩)]) 12 Tryd.func51 rfl (by kernel_rfl) (by simp) (fun a hS => ?_)
  obtain ⟨ih, hih, hzh, hszh, hbh⟩ := info_parts infHashb
  refine qx_seq (reg_seq ?_)
  refine seq_is hS (by decide) (runs_assign rfl) (fun a1 hS => ?_)
  refine nil_ok (qx_seq (reg_seq ?_))
  refine seq_is hS (by decide) (runs_load rfl (by kernel_rfl) (hg.cell 0)) (fun a1 hS => ?_)
  refine seq_is hS (by decide) (runs_move rfl) (fun a1 hS => ?_)
  refine seq_is hS (by decide) (runs_move rfl) (fun a1 hS => ?_)
  refine seq_is hS (by decide) (runs_sliceG (l := f) (h := f + n) rfl rfl rfl rfl rfl undStrs infStr1 (by omega) (by omega)) (fun a1 hS => ?_)
  rw [show f + n - f = n by omega] at hS
  have hsub := strs_sub hs f n hfn
  have htop := top_any n ((ss.drop f).take n) _ w (by simp; omega) hsub (fun s h => hsz s (List.mem_of_mem_drop (List.mem_of_mem_take h))) (by omega) hk
  rw [map_take_drop] at htop
  have tl := top_len (((ss.map bl).drop f).take n)
  obtain ⟨t, ht⟩ : ∃ t, t = Tree.top (((ss.map bl).drop f).take n) := ⟨_, rfl⟩
  rw [← ht] at htop tl
  refine seq_op hS (by decide) (runs_call (args := [.slice (if c = f then A else A.map (·.add (f * 1))) n (c - f)]) goes31 rfl (hash_post (fun w' => Below w.heap.size w w') htop (fun _ h => h))) (fun v2 w2 a2 hp2 hS => ?_)
  obtain ⟨rfl, hB2⟩ := hp2
  refine seq_op hS (by decide) (runs_buildRow rfl undHashes hih hzh (by rw [hszh, U8_length]; exact tl.symm) (by rw [U8_length, tl]; omega) (by rw [U8_length, tl]; omega)) (fun v3 w3 a3 hp3 hS => ?_)
  obtain ⟨rfl, rfl⟩ := hp3
  refine seq_is hS (by decide) (runs_assign rfl) (fun a1 hS => ?_)
  refine nil_ok (qx_ret (ret1 (t := 5) (by kernel_rfl) hS rfl ⟨_, rfl, ?_, hB2.alloc hB2.size _⟩))
  have := World.ownsRow_lit (e := 26) (size := 32) (base := w.heap.size) w2 (U8 t).toArray 1 hB2.size (by unfold maxLen; omega) (by simp [tl])
  rw [parts_nil]
  show World.ownsRow _ _ _ _ _ 1 (U8 ([topP (ss.map bl) (f, n)]).flatten)
  rw [List.flatten_singleton, show topP (ss.map bl) (f, n) = t from ht.symm]
  simpa using this
theorem prove2m_any (ll : List (List Nat)) (f n : Nat) (l : List Nat) (w : World) (h0 : l ≠ []) (h2 : n < 2) : Calls Tryd.prog 52 #[] w fun e w' => ∃ v, e = .returned v ∧ VP ll f n l w v w' := by
  refine calls_qx (args := []) 1 Tryd.func52 rfl (by kernel_rfl) (by simp) (fun a hS => ?_)
  refine qx_seq (reg_seq ?_)
  refine seq_is hS (by decide) (runs_assign rfl) (fun a1 hS => ?_)
  refine nil_ok (qx_seq (reg_seq ?_))
  refine seq_is hS (by decide) (runs_assign rfl) (fun a1 hS => ?_)
  exact nil_ok (qx_ret (ret1 (t := 0) (by kernel_rfl) hS rfl ⟨_, rfl, by rw [parts_small h0 h2]; exact World.ownsRow_nil _ _ _ _, Below.refl _ _⟩))
set_option maxHeartbeats 1000000 in
theorem append_owns (n1 n2 B B' : Nat) (v1 v2 : Value) (xs1 xs2 : List Value) (w : World) (hn : n1 + n2 ≤ 1000000) (h1 : w.ownsRow B 26 32 v1 n1 xs1) (h2 : w.ownsRow B' 26 32 v2 n2 xs2) (hB : B ≤ w.heap.size) (hone : ∀ u ∈ xs2, u.oneCell' = true) :
    Calls Tryd.prog 53 #[v1, v2] w fun e w' => ∃ v, e = .returned v ∧ w'.ownsRow B 26 32 v (n1 + n2) (xs1 ++ xs2) ∧ w.grownBy w' v1.ownBlock := by
  refine calls_qx (args := [v1, v2]) 8 Tryd.func53 rfl (by kernel_rfl) (by simp) (fun a hS => ?_)
  obtain ⟨ih, hih, hzh, hszh, hbh⟩ := info_parts infHashb
  refine qx_seq (reg_seq ?_)
  refine seq_is hS (by decide) (runs_assign rfl) (fun a1 hS => ?_)
  refine nil_ok (qx_seq (reg_seq ?_))
  refine seq_is hS (by decide) (runs_move rfl) (fun a1 hS => ?_)
  refine seq_is hS (by decide) (runs_move rfl) (fun a1 hS => ?_)
  have same : n2 = 0 → w.ownsRow B 26 32 v1 (n1 + n2) (xs1 ++ xs2) := fun h0 => by
    subst h0
    obtain rfl : xs2 = [] := List.eq_nil_of_length_eq_zero (by rw [h2.1])
    rw [List.append_nil]; exact h1
  have hrefl : w.grownBy w v1.ownBlock := ⟨rfl, rfl, rfl, Nat.le_refl _, fun _ _ _ => rfl⟩
  by_cases h0 : n2 = 0
  · have hsh2 : ∃ A c', v2 = .slice A 0 c' := by
      rcases h2.2 with ⟨rfl, _⟩ | ⟨g, cap, _, rfl, _⟩
      · exact ⟨_, _, rfl⟩
      · subst h0; exact ⟨_, _, rfl⟩
    obtain ⟨A2, c2, rfl⟩ := hsh2
    rcases id h1.2 with ⟨rfl, _⟩ | ⟨g, cap, _, rfl, _, _, hnc, _⟩
    · refine seq_is hS (by decide) (runs_appendNil undHashes hih rfl rfl) (fun a1 hS => ?_)
      refine seq_is hS (by decide) (runs_assign rfl) (fun a1 hS => ?_)
      exact nil_ok (qx_ret (ret1 (t := 4) (by kernel_rfl) hS rfl ⟨_, rfl, same h0, hrefl⟩))
    · refine seq_is hS (by decide) (runs_appendNone undHashes hih rfl hnc (by simp) rfl) (fun a1 hS => ?_)
      refine seq_is hS (by decide) (runs_assign rfl) (fun a1 hS => ?_)
      exact nil_ok (qx_ret (ret1 (t := 4) (by kernel_rfl) hS rfl ⟨_, rfl, same h0, hrefl⟩))
  · rcases id h2.2 with ⟨_, hz⟩ | ⟨g, cap, _, rfl, _⟩
    · exact absurd hz h0
    refine seq_op hS (by decide) (runs_appendN undHashes hih hzh hszh hbh (by simp [Value.cells]) (by omega) rfl h1 rfl (news := xs2) h2.1 (fun j u hj => h2.cells rfl j u hj) hone (by unfold maxLen; omega) (by omega) hB (by omega)) (fun v3 w3 a3 hp3 hS => ?_)
    obtain ⟨ho, hg, _⟩ := hp3
    refine seq_is hS (by decide) (runs_assign rfl) (fun a1 hS => ?_)
    exact nil_ok (qx_ret (ret1 (t := 4) (by kernel_rfl) hS rfl ⟨_, rfl, ho, hg⟩))
set_option maxHeartbeats 1000000 in
theorem proveM_yes (ss : List ByteArray) (v atv : Value) (l : List Nat) (w : World) (hs : Strs w v ss) (ha : Ints w atv (ofN l)) (hr : risesB (ss.length : Int) (-1) (ofN l) = true) (hsz : ∀ s ∈ ss, s.size ≤ 100000) (hnm : ss.length ≤ 100000) (hk : Kept w) :
    Calls Tryd.prog 20 #[v, atv] w fun e w' => ∃ pv, e = .returned (.tuple #[pv, .int .i64 0]) ∧ Hashes w' pv (provesL (ss.map bl) l) ∧ Below w.heap.size w w' := by
  obtain ⟨A, c, rfl, h1, h2, hA⟩ := id hs
  refine calls_qx (args := [.slice A ss.length c, atv]) 18 Tryd.func20 rfl (by kernel_rfl) (by simp) (fun a hS => ?_)
  refine qx_seq (reg_seq ?_)
  refine seq_op hS (by decide) (runs_box rfl) (fun v1 w1 a1 hp1 hS => ?_)
  obtain ⟨rfl, rfl⟩ := hp1
  have hL1 : Has (w.alloc (.cells (Value.slice A ss.length c).cells 22)) w.heap.size 22 [.slice A ss.length c] := Has.new w 22 [.slice A ss.length c]
  have hB1 : Below w.heap.size w (w.alloc (.cells (Value.slice A ss.length c).cells 22)) := (Below.refl _ _).alloc (Nat.le_refl _) _
  generalize w.alloc (.cells (Value.slice A ss.length c).cells 22) = w1 at *
  have hs1 := hs.kept hB1
  have ha1 := ha.kept hB1
  have hk1 := hk.below hB1 hk.pos
  refine seq_is hS (by decide) (runs_assign rfl) (fun a1 hS => ?_)
  refine seq_is hS (by decide) (runs_assign rfl) (fun a1 hS => ?_)
  refine nil_ok (qx_seq (qx_seq (reg_seq ?_)))
  refine seq_is hS (by decide) (runs_load rfl (by kernel_rfl) (hL1.cell 0)) (fun a1 hS => ?_)
  refine seq_is hS (by decide) (runs_len rfl undStrs) (fun a1 hS => ?_)
  refine seq_is hS (by decide) (runs_move rfl) (fun a1 hS => ?_)
  refine seq_is hS (by decide) (runs_call (args := [.int .i64 ((ss.length : Nat) : Int), atv]) goes22 rfl (rises_call _ _ _ w1 ha1)) (fun a1 hS => ?_)
  rw [hr] at hS
  refine seq_is hS (by decide) (runs_not (b := true) rfl) (fun a1 hS => ?_)
  refine nil_ok (wp_cond_false (hS.eval rfl) (wp_skip (qx_seq (reg_seq ?_))))
  refine seq_is hS (by decide) (runs_load rfl (by kernel_rfl) (hL1.cell 0)) (fun a1 hS => ?_)
  refine seq_is hS (by decide) (runs_len rfl undStrs) (fun a1 hS => ?_)
  refine seq_is hS (by decide) (runs_move rfl) (fun a1 hS => ?_)
  refine seq_is hS (by decide) (runs_makeFunc (cs := [.pointer (some ⟨w.heap.size, 0, none⟩)]) rfl) (fun a1 hS => ?_)
  have htog := tog50_any 51 52 53 [.pointer (some ⟨w.heap.size, 0, none⟩)] [] [] goes51 goes52 goes53 (fun w' => Has w' w.heap.size 22 [.slice A ss.length c] ∧ Strs w' (.slice A ss.length c) ss ∧ Kept w') (VP (ss.map bl)) ss.length (by omega)
    (fun f n l w1 v w' h hg => ⟨hg.1.below h.2 hg.1.lt, hg.2.1.kept h.2, hg.2.2.below h.2 hg.2.2.pos⟩) (fun f n l w1 v w' h _ u xs hu => hu.kept h.2)
    (fun f n w' hg hT => prove1m_any w.heap.size _ ss f n w' hg.1 hg.2.1 hsz (by omega) hT hg.2.2)
    (fun f n l w' _ h0 h2 => prove2m_any _ f n l w' h0 h2)
    (fun f n l w' w1 w2 v1 v2 _ h0 h2 hT hv1 hv2 => by
      have e1 := parts_le' (Tree.half n) f (l.take (belowN (f + Tree.half n) l))
      have e2 := parts_le' (n - Tree.half n) (f + Tree.half n) (l.drop (belowN (f + Tree.half n) l))
      have := Tree.half_lt (n := n) (by omega)
      have hB12 : Below w'.heap.size w' w2 := hv1.2.trans (hv2.2.mono hv1.2.size)
      refine (append_owns _ _ w'.heap.size w1.heap.size v1 v2 _ _ w2 (by omega) (owns_kept hv1.1 hv2.2) hv2.1 hB12.size (U8_one _)).mono ?_
      rintro e w'' ⟨v, rfl, ho, hg⟩
      refine ⟨_, rfl, ?_, below_grown hB12 hg (fun g hg' => (hv1.1.lt g hg').1) hB12.size⟩
      rw [parts_more h0 h2, List.length_append, List.map_append, U8_cat]
      exact ho) ss.length 0 l atv w1 (by omega) ⟨hL1, hs1, hk1⟩ ha1
  rw [Nat.zero_add] at htog
  refine seq_op hS (by decide) (runs_call (args := [.int .i64 0, .int .i64 ((ss.length : Nat) : Int), atv, .func (.func 51) #[] #[.pointer (some ⟨w.heap.size, 0, none⟩)], .func (.func 52) #[] #[], .func (.func 53) #[] #[]]) (Post := fun v w' => VP (ss.map bl) 0 ss.length l w1 v w') goes50 rfl htog) (fun v2 w2 a2 hp2 hS => ?_)
  obtain ⟨ho, hB2⟩ := hp2
  refine seq_is hS (by decide) (runs_assign rfl) (fun a1 hS => ?_)
  refine nil_ok (qx_seq (reg_seq ?_))
  refine seq_is hS (by decide) (runs_move rfl) (fun a1 hS => ?_)
  refine seq_is hS (by decide) (runs_assign rfl) (fun a1 hS => ?_)
  refine seq_is hS (by decide) (runs_assign rfl) (fun a1 hS => ?_)
  refine nil_ok (qx_ret (ret2 (t := 4) (u := 5) (by kernel_rfl) hS rfl rfl ⟨_, rfl, ?_, hB1.trans (hB2.mono hB1.size)⟩))
  unfold provesL
  rw [List.length_map]
  refine hashes_own (base := w1.heap.size) (by rw [List.length_map]; exact ho) (fun h hh => ?_)
  obtain ⟨x, _, rfl⟩ := List.mem_map.1 hh
  exact ⟨top_len _, top_bytes _⟩
set_option maxHeartbeats 1000000 in
theorem proveM_no (ss : List ByteArray) (v atv : Value) (xs : List Int) (w : World) (hs : Strs w v ss) (ha : Ints w atv xs) (hr : risesB (ss.length : Int) (-1) xs = false) :
    Calls Tryd.prog 20 #[v, atv] w fun e w' => e = .returned (.tuple #[.slice none 0 0, .int .i64 40]) ∧ Below w.heap.size w w' := by
  obtain ⟨A, c, rfl, h1, h2, hA⟩ := id hs
  refine calls_qx (args := [.slice A ss.length c, atv]) 18 Tryd.func20 rfl (by kernel_rfl) (by simp) (fun a hS => ?_)
  refine qx_seq (reg_seq ?_)
  refine seq_op hS (by decide) (runs_box rfl) (fun v1 w1 a1 hp1 hS => ?_)
  obtain ⟨rfl, rfl⟩ := hp1
  have hL1 : Has (w.alloc (.cells (Value.slice A ss.length c).cells 22)) w.heap.size 22 [.slice A ss.length c] := Has.new w 22 [.slice A ss.length c]
  have hB1 : Below w.heap.size w (w.alloc (.cells (Value.slice A ss.length c).cells 22)) := (Below.refl _ _).alloc (Nat.le_refl _) _
  generalize w.alloc (.cells (Value.slice A ss.length c).cells 22) = w1 at *
  have ha1 := ha.kept hB1
  refine seq_is hS (by decide) (runs_assign rfl) (fun a1 hS => ?_)
  refine seq_is hS (by decide) (runs_assign rfl) (fun a1 hS => ?_)
  refine nil_ok (qx_seq (qx_seq (reg_seq ?_)))
  refine seq_is hS (by decide) (runs_load rfl (by kernel_rfl) (hL1.cell 0)) (fun a1 hS => ?_)
  refine seq_is hS (by decide) (runs_len rfl undStrs) (fun a1 hS => ?_)
  refine seq_is hS (by decide) (runs_move rfl) (fun a1 hS => ?_)
  refine seq_is hS (by decide) (runs_call (args := [.int .i64 ((ss.length : Nat) : Int), atv]) goes22 rfl (rises_call _ _ _ w1 ha1)) (fun a1 hS => ?_)
  rw [hr] at hS
  refine seq_is hS (by decide) (runs_not (b := false) rfl) (fun a1 hS => ?_)
  refine nil_ok (wp_cond_true (hS.eval rfl) (qx_seq (reg_seq ?_)))
  refine seq_is hS (by decide) (runs_assign rfl) (fun a1 hS => ?_)
  refine seq_is hS (by decide) (runs_assign rfl) (fun a1 hS => ?_)
  exact nil_ok (qx_ret (ret2 (t := 4) (u := 5) (by kernel_rfl) hS rfl rfl ⟨rfl, hB1⟩))
/- Check -/
noncomputable def reg26 (id : Nat) : Code := ((Tryd.f26.body.bind (regionIn id)).getD .skip)
def badM (n : Int) (xs : List Int) (m3 m4 : Nat) : Bool := !(askB n xs && decide (m3 = xs.length) && decide (m4 = sizeZ n xs))
set_option maxHeartbeats 2000000 in
theorem test26 (N R : Act → World → Prop) (X : Nat → Act → World → Prop) (n : Int) (xs : List Int) (A2 A3 A4 : Option Addr) (c2 m3 c3 m4 c4 g8 g9 : Nat) (p5 : Value) (w : World) (a : Act) (hx : Ints w (.slice A2 xs.length c2) xs) (h8 : Has w g8 22 [.slice A3 m3 c3]) (h9 : Has w g9 28 [.slice A4 m4 c4])
    (hS : Sees 43 [(1, .int .i64 n), (2, .slice A2 xs.length c2), (8, .pointer (some ⟨g8, 0, none⟩)), (9, .pointer (some ⟨g9, 0, none⟩)), (5, p5)] a)
    (h : ∀ a' w', Below w.heap.size w w' → Sees 43 [(32, .bool (badM n xs m3 m4)), (1, .int .i64 n), (2, .slice A2 xs.length c2), (8, .pointer (some ⟨g8, 0, none⟩)), (9, .pointer (some ⟨g9, 0, none⟩)), (5, p5)] a' → N a' w') : (reg26 1).wp Tryd.prog (Qx N X R) a w := by
  cases ha : askB n xs with
  | false =>
    rw [show badM n xs m3 m4 = true by unfold badM; rw [ha]; rfl] at h
    refine reg_guard (fun w' => Below w.heap.size w w') [.inl (.int .i64 n), .inl (.slice A2 xs.length c2), .inl (.bool false), .inl (.bool true), .inl (.bool true), .inl undef, .inl undef, .inl undef, .inl undef, .inl undef, .inl (.bool true), .inl (.bool true), .inl undef, .inl undef, .inl undef, .inl undef, .inl undef, .inl undef, .inl (.bool true)] 19 0 mixed rfl (by kernel_rfl) hS (Below.refl _ _) (fun _ h => h.drew) ?_
    refine hs_is rfl (fun w' hw => runs_move rfl) ?_
    refine hs_is rfl (fun w' hw => runs_move rfl) ?_
    refine hs_is rfl (fun w' hw => runs_call (args := [.int .i64 n, .slice A2 xs.length c2]) goes54 rfl (by have := ask_call n xs _ w' (hx.kept hw); rwa [ha] at this)) ?_
    refine hs_is rfl (fun w' hw => runs_not (b := false) rfl) ?_
    refine hs_is rfl (fun w' hw => runs_move rfl) ?_
    refine hs_no rfl rfl rfl ?_
    refine hs_no rfl rfl rfl ?_
    refine hs_no rfl rfl rfl ?_
    refine hs_no rfl rfl rfl ?_
    refine hs_no rfl rfl rfl ?_
    refine hs_is rfl (fun w' hw => runs_pick rfl rfl) ?_
    refine hs_is rfl (fun w' hw => runs_move rfl) ?_
    refine hs_no rfl rfl rfl ?_
    refine hs_no rfl rfl rfl ?_
    refine hs_no rfl rfl rfl ?_
    refine hs_no rfl rfl rfl ?_
    refine hs_no rfl rfl rfl ?_
    refine hs_no rfl rfl rfl ?_
    refine hs_is rfl (fun w' hw => runs_pick rfl rfl) ?_
    exact fun a' w' hS' hB' _ => wpAnyH_done (by kernel_rfl) (h a' w' hB' (hS'.only _ ⟨rfl, rfl, rfl, rfl, rfl, rfl, trivial⟩)) 0
  | true =>
    by_cases hl : m3 = xs.length
    · by_cases hz : m4 = sizeZ n xs
      · rw [show badM n xs m3 m4 = false by unfold badM; rw [ha, show decide (m3 = xs.length) = true by simpa using hl, show decide (m4 = sizeZ n xs) = true by simpa using hz]; rfl] at h
        refine reg_guard (fun w' => Below w.heap.size w w') [.inl (.int .i64 n), .inl (.slice A2 xs.length c2), .inl (.bool true), .inl (.bool false), .inl (.bool false), .inl (.slice A3 m3 c3), .inl (.int .i64 ((m3 : Nat) : Int)), .inl (.slice A2 xs.length c2), .inl (.int .i64 ((xs.length : Nat) : Int)), .inl (.bool false), .inl (.bool false), .inl (.bool false), .inl (.slice A4 m4 c4), .inl (.int .i64 ((m4 : Nat) : Int)), .inl (.int .i64 n), .inl (.slice A2 xs.length c2), .inl (.int .i64 ((sizeZ n xs : Nat) : Int)), .inl (.bool false), .inl (.bool false)] 19 0 mixed rfl (by kernel_rfl) hS (Below.refl _ _) (fun _ h => h.drew) ?_
        refine hs_is rfl (fun w' hw => runs_move rfl) ?_
        refine hs_is rfl (fun w' hw => runs_move rfl) ?_
        refine hs_is rfl (fun w' hw => runs_call (args := [.int .i64 n, .slice A2 xs.length c2]) goes54 rfl (by have := ask_call n xs _ w' (hx.kept hw); rwa [ha] at this)) ?_
        refine hs_is rfl (fun w' hw => runs_not (b := true) rfl) ?_
        refine hs_is rfl (fun w' hw => runs_move rfl) ?_
        refine hs_yis rfl rfl (fun w' hw => runs_load rfl (by kernel_rfl) (by rw [hw.cell (p := ⟨g8, 0, none⟩) h8.lt]; exact h8.cell 0)) ?_
        refine hs_yis rfl rfl (fun w' hw => runs_len rfl undStrs) ?_
        refine hs_yis rfl rfl (fun w' hw => runs_move rfl) ?_
        refine hs_yis rfl rfl (fun w' hw => runs_len rfl undInts) ?_
        refine hs_yis rfl rfl (fun w' hw => runs_neq (r := false) rfl rfl (by rw [hl]; simp)) ?_
        refine hs_is rfl (fun w' hw => runs_pick rfl rfl) ?_
        refine hs_is rfl (fun w' hw => runs_move rfl) ?_
        refine hs_yis rfl rfl (fun w' hw => runs_load rfl (by kernel_rfl) (by rw [hw.cell (p := ⟨g9, 0, none⟩) h9.lt]; exact h9.cell 0)) ?_
        refine hs_yis rfl rfl (fun w' hw => runs_len rfl undHashes) ?_
        refine hs_yis rfl rfl (fun w' hw => runs_move rfl) ?_
        refine hs_yis rfl rfl (fun w' hw => runs_move rfl) ?_
        refine hs_yis rfl rfl (fun w' hw => runs_call (args := [.int .i64 n, .slice A2 xs.length c2]) goes23 rfl (size_call n xs _ w' (hx.kept hw))) ?_
        refine hs_yis rfl rfl (fun w' hw => runs_neq (r := false) rfl rfl (by rw [hz]; simp)) ?_
        refine hs_is rfl (fun w' hw => runs_pick rfl rfl) ?_
        exact fun a' w' hS' hB' _ => wpAnyH_done (by kernel_rfl) (h a' w' hB' (hS'.only _ ⟨rfl, rfl, rfl, rfl, rfl, rfl, trivial⟩)) 0
      · rw [show badM n xs m3 m4 = true by unfold badM; rw [show decide (m4 = sizeZ n xs) = false by simpa using hz]; simp] at h
        refine reg_guard (fun w' => Below w.heap.size w w') [.inl (.int .i64 n), .inl (.slice A2 xs.length c2), .inl (.bool true), .inl (.bool false), .inl (.bool false), .inl (.slice A3 m3 c3), .inl (.int .i64 ((m3 : Nat) : Int)), .inl (.slice A2 xs.length c2), .inl (.int .i64 ((xs.length : Nat) : Int)), .inl (.bool false), .inl (.bool false), .inl (.bool false), .inl (.slice A4 m4 c4), .inl (.int .i64 ((m4 : Nat) : Int)), .inl (.int .i64 n), .inl (.slice A2 xs.length c2), .inl (.int .i64 ((sizeZ n xs : Nat) : Int)), .inl (.bool true), .inl (.bool true)] 19 0 mixed rfl (by kernel_rfl) hS (Below.refl _ _) (fun _ h => h.drew) ?_
        refine hs_is rfl (fun w' hw => runs_move rfl) ?_
        refine hs_is rfl (fun w' hw => runs_move rfl) ?_
        refine hs_is rfl (fun w' hw => runs_call (args := [.int .i64 n, .slice A2 xs.length c2]) goes54 rfl (by have := ask_call n xs _ w' (hx.kept hw); rwa [ha] at this)) ?_
        refine hs_is rfl (fun w' hw => runs_not (b := true) rfl) ?_
        refine hs_is rfl (fun w' hw => runs_move rfl) ?_
        refine hs_yis rfl rfl (fun w' hw => runs_load rfl (by kernel_rfl) (by rw [hw.cell (p := ⟨g8, 0, none⟩) h8.lt]; exact h8.cell 0)) ?_
        refine hs_yis rfl rfl (fun w' hw => runs_len rfl undStrs) ?_
        refine hs_yis rfl rfl (fun w' hw => runs_move rfl) ?_
        refine hs_yis rfl rfl (fun w' hw => runs_len rfl undInts) ?_
        refine hs_yis rfl rfl (fun w' hw => runs_neq (r := false) rfl rfl (by rw [hl]; simp)) ?_
        refine hs_is rfl (fun w' hw => runs_pick rfl rfl) ?_
        refine hs_is rfl (fun w' hw => runs_move rfl) ?_
        refine hs_yis rfl rfl (fun w' hw => runs_load rfl (by kernel_rfl) (by rw [hw.cell (p := ⟨g9, 0, none⟩) h9.lt]; exact h9.cell 0)) ?_
        refine hs_yis rfl rfl (fun w' hw => runs_len rfl undHashes) ?_
        refine hs_yis rfl rfl (fun w' hw => runs_move rfl) ?_
        refine hs_yis rfl rfl (fun w' hw => runs_move rfl) ?_
        refine hs_yis rfl rfl (fun w' hw => runs_call (args := [.int .i64 n, .slice A2 xs.length c2]) goes23 rfl (size_call n xs _ w' (hx.kept hw))) ?_
        refine hs_yis rfl rfl (fun w' hw => runs_neq (r := true) rfl rfl (by rw [bne_iff_ne]; omega)) ?_
        refine hs_is rfl (fun w' hw => runs_pick rfl rfl) ?_
        exact fun a' w' hS' hB' _ => wpAnyH_done (by kernel_rfl) (h a' w' hB' (hS'.only _ ⟨rfl, rfl, rfl, rfl, rfl, rfl, trivial⟩)) 0
    · rw [show badM n xs m3 m4 = true by unfold badM; rw [show decide (m3 = xs.length) = false by simpa using hl]; simp] at h
      refine reg_guard (fun w' => Below w.heap.size w w') [.inl (.int .i64 n), .inl (.slice A2 xs.length c2), .inl (.bool true), .inl (.bool false), .inl (.bool false), .inl (.slice A3 m3 c3), .inl (.int .i64 ((m3 : Nat) : Int)), .inl (.slice A2 xs.length c2), .inl (.int .i64 ((xs.length : Nat) : Int)), .inl (.bool true), .inl (.bool true), .inl (.bool true), .inl undef, .inl undef, .inl undef, .inl undef, .inl undef, .inl undef, .inl (.bool true)] 19 0 mixed rfl (by kernel_rfl) hS (Below.refl _ _) (fun _ h => h.drew) ?_
      refine hs_is rfl (fun w' hw => runs_move rfl) ?_
      refine hs_is rfl (fun w' hw => runs_move rfl) ?_
      refine hs_is rfl (fun w' hw => runs_call (args := [.int .i64 n, .slice A2 xs.length c2]) goes54 rfl (by have := ask_call n xs _ w' (hx.kept hw); rwa [ha] at this)) ?_
      refine hs_is rfl (fun w' hw => runs_not (b := true) rfl) ?_
      refine hs_is rfl (fun w' hw => runs_move rfl) ?_
      refine hs_yis rfl rfl (fun w' hw => runs_load rfl (by kernel_rfl) (by rw [hw.cell (p := ⟨g8, 0, none⟩) h8.lt]; exact h8.cell 0)) ?_
      refine hs_yis rfl rfl (fun w' hw => runs_len rfl undStrs) ?_
      refine hs_yis rfl rfl (fun w' hw => runs_move rfl) ?_
      refine hs_yis rfl rfl (fun w' hw => runs_len rfl undInts) ?_
      refine hs_yis rfl rfl (fun w' hw => runs_neq (r := true) rfl rfl (by rw [bne_iff_ne]; omega)) ?_
      refine hs_is rfl (fun w' hw => runs_pick rfl rfl) ?_
      refine hs_is rfl (fun w' hw => runs_move rfl) ?_
      refine hs_no rfl rfl rfl ?_
      refine hs_no rfl rfl rfl ?_
      refine hs_no rfl rfl rfl ?_
      refine hs_no rfl rfl rfl ?_
      refine hs_no rfl rfl rfl ?_
      refine hs_no rfl rfl rfl ?_
      refine hs_is rfl (fun w' hw => runs_pick rfl rfl) ?_
      exact fun a' w' hS' hB' _ => wpAnyH_done (by kernel_rfl) (h a' w' hB' (hS'.only _ ⟨rfl, rfl, rfl, rfl, rfl, rfl, trivial⟩)) 0
set_option maxHeartbeats 1000000 in
theorem checkM_any (root : List Nat) (n : Int) (xs : List Int) (ss : List ByteArray) (hs : List (List Nat)) (atv lv pv : Value) (w : World) (hrl : root.length = 32) (hx : Ints w atv xs) (hL : Strs w lv ss) (hH : Hashes w pv hs) (hsz : ∀ s ∈ ss, s.size ≤ 100000) (hl1 : hs.length ≤ 100000) (hl2 : ss.length ≤ 100000) (hk : Kept w) :
    Calls Tryd.prog 26 #[.agg (U8 root).toArray, .int .i64 n, atv, lv, pv] w fun e w' => e = .returned (.bool (checkM root n xs (ss.map bl) hs)) ∧ Below w.heap.size w w' := by
  obtain ⟨A2, c2, rfl, _⟩ := id hx
  obtain ⟨A3, c3, rfl, _⟩ := id hL
  obtain ⟨A4, c4, rfl, _, _, hok, _⟩ := id hH
  refine calls_qx (args := [.agg (U8 root).toArray, .int .i64 n, .slice A2 xs.length c2, .slice A3 ss.length c3, .slice A4 hs.length c4]) 43 Tryd.func26 rfl (by kernel_rfl) (by simp) (fun a hS => ?_)
  refine qx_seq (reg_seq ?_)
  refine seq_op hS (by decide) (runs_box rfl) (fun v1 w1 a1 hp1 hS => ?_)
  obtain ⟨rfl, rfl⟩ := hp1
  have hR1 : Has (w.alloc (.cells (Value.agg (U8 root).toArray).cells 26)) w.heap.size 26 (U8 root) := Has.new w 26 (U8 root)
  have hB1 : Below w.heap.size w (w.alloc (.cells (Value.agg (U8 root).toArray).cells 26)) := (Below.refl _ _).alloc (Nat.le_refl _) _
  have hz1 : (w.alloc (.cells (Value.agg (U8 root).toArray).cells 26)).heap.size = w.heap.size + 1 := by simp
  generalize w.alloc (.cells (Value.agg (U8 root).toArray).cells 26) = w1 at *
  refine seq_op hS (by decide) (runs_box rfl) (fun v1 w2 a1 hp1 hS => ?_)
  obtain ⟨rfl, rfl⟩ := hp1
  have hL2 : Has (w1.alloc (.cells (Value.slice A3 ss.length c3).cells 22)) w1.heap.size 22 [.slice A3 ss.length c3] := Has.new w1 22 [.slice A3 ss.length c3]
  have hB2 : Below w1.heap.size w1 (w1.alloc (.cells (Value.slice A3 ss.length c3).cells 22)) := (Below.refl _ _).alloc (Nat.le_refl _) _
  have hz2 : (w1.alloc (.cells (Value.slice A3 ss.length c3).cells 22)).heap.size = w1.heap.size + 1 := by simp
  generalize w1.alloc (.cells (Value.slice A3 ss.length c3).cells 22) = w2 at *
  refine seq_op hS (by decide) (runs_box rfl) (fun v1 w3 a1 hp1 hS => ?_)
  obtain ⟨rfl, rfl⟩ := hp1
  have hP3 : Has (w2.alloc (.cells (Value.slice A4 hs.length c4).cells 28)) w2.heap.size 28 [.slice A4 hs.length c4] := Has.new w2 28 [.slice A4 hs.length c4]
  have hB3 : Below w2.heap.size w2 (w2.alloc (.cells (Value.slice A4 hs.length c4).cells 28)) := (Below.refl _ _).alloc (Nat.le_refl _) _
  have hz3 : (w2.alloc (.cells (Value.slice A4 hs.length c4).cells 28)).heap.size = w2.heap.size + 1 := by simp
  generalize w2.alloc (.cells (Value.slice A4 hs.length c4).cells 28) = w3 at *
  have hBw3 : Below w.heap.size w w3 := (hB1.trans (hB2.mono (by omega))).trans (hB3.mono (by omega))
  have hR3 := (hR1.below hB2 (by omega)).below hB3 (by omega)
  have hL3 := hL2.below hB3 (by omega)
  refine seq_is hS (by decide) (runs_assign rfl) (fun a1 hS => ?_)
  refine nil_ok (qx_seq (qx_seq ?_))
  refine test26 _ _ _ n xs A2 A3 A4 c2 ss.length c3 hs.length c4 w1.heap.size w2.heap.size (.pointer (some ⟨w.heap.size, 0, none⟩)) w3 a1 (hx.kept hBw3) hL3 hP3 (hS.only _ ⟨rfl, rfl, rfl, rfl, rfl, trivial⟩) (fun a4 w4 hB4 hS => ?_)
  have hBw4 : Below w.heap.size w w4 := hBw3.trans (hB4.mono (by omega))
  cases hbad : badM n xs ss.length hs.length with
  | true =>
    rw [hbad] at hS
    refine wp_cond_true (hS.eval rfl) (qx_seq (reg_seq ?_))
    refine seq_is hS (by decide) (runs_assign rfl) (fun a4 hS => ?_)
    refine nil_ok (qx_ret (ret1 (t := 10) (by kernel_rfl) hS rfl ⟨?_, hBw4⟩))
    have : checkM root n xs (ss.map bl) hs = false := by
      unfold checkM
      rw [if_neg ?_]
      rw [List.length_map]
      rintro ⟨e1, e2, e3⟩
      unfold badM at hbad
      rw [e1, show decide (ss.length = xs.length) = true by simpa using e2, show decide (hs.length = sizeZ n xs) = true by simpa using e3] at hbad
      cases hbad
    rw [this]
  | false =>
    rw [hbad] at hS
    refine wp_cond_false (hS.eval rfl) (wp_skip ?_)
    have hb : askB n xs = true ∧ ss.length = xs.length ∧ hs.length = sizeZ n xs := by
      unfold badM at hbad
      simpa [and_assoc] using hbad
    obtain ⟨e1, e2, e3⟩ := hb
    have hck : checkM root n xs (ss.map bl) hs = (Tree.root n.toNat (chk 0 n.toNat (toN xs) hs (ss.map bl)) == root) := by
      unfold checkM
      rw [if_pos ⟨e1, by rw [List.length_map]; exact e2, e3⟩]
    rw [hck]
    have ha' := e1
    simp only [askB, Bool.and_eq_true, decide_eq_true_eq] at ha'
    obtain ⟨⟨h0, h1⟩, hr⟩ := ha'
    obtain ⟨hex, hrn⟩ := of_toN hr
    obtain ⟨m, rfl⟩ := Int.eq_ofNat_of_zero_le h0
    rw [Int.toNat_natCast] at hrn ⊢
    have hz : sizeZ (m : Int) xs = (parts 0 m (toN xs)).length := by unfold sizeZ; rw [if_pos e1]; simp
    have hal := asks_len m 0 (toN xs) (by rwa [Nat.zero_add])
    have hxl : xs.length = (toN xs).length := by simp [toN]
    rw [hz] at e3
    rw [hxl] at e2
    have hxN : Ints w4 (.slice A2 xs.length c2) (ofN (toN xs)) := by have := hx.kept hBw4; rwa [← hex]
    generalize toN xs = l at *
    have hR4 := hR3.below hB4 (by omega)
    have hL4 := hL3.below hB4 (by omega)
    have hP4 := hP3.below hB4 (by omega)
    have hk4 := hk.below hBw4 hk.pos
    have z4 := hB4.size
    obtain ⟨i3, hi3, hz3', _, _⟩ := info_parts infInt
    refine qx_seq (reg_seq ?_)
    refine seq_op hS (by decide) (runs_alloc hi3 hz3') (fun v7 w5 a7 hp7 hS => ?_)
    obtain ⟨rfl, rfl⟩ := hp7
    have hU5 : Has (w4.alloc (.cells (Value.int .i64 0).cells 3)) w4.heap.size 3 [.int .i64 0] := Has.new w4 3 [.int .i64 0]
    have hB5 : Below w4.heap.size w4 (w4.alloc (.cells (Value.int .i64 0).cells 3)) := (Below.refl _ _).alloc (Nat.le_refl _) _
    have hz5 : (w4.alloc (.cells (Value.int .i64 0).cells 3)).heap.size = w4.heap.size + 1 := by simp
    generalize w4.alloc (.cells (Value.int .i64 0).cells 3) = w5 at *
    refine seq_op hS (by decide) (runs_alloc hi3 hz3') (fun v7 w6 a7 hp7 hS => ?_)
    obtain ⟨rfl, rfl⟩ := hp7
    have hV6 : Has (w5.alloc (.cells (Value.int .i64 0).cells 3)) w5.heap.size 3 [.int .i64 0] := Has.new w5 3 [.int .i64 0]
    have hB6 : Below w5.heap.size w5 (w5.alloc (.cells (Value.int .i64 0).cells 3)) := (Below.refl _ _).alloc (Nat.le_refl _) _
    have hz6 : (w5.alloc (.cells (Value.int .i64 0).cells 3)).heap.size = w5.heap.size + 1 := by simp
    generalize w5.alloc (.cells (Value.int .i64 0).cells 3) = w6 at *
    have hU6 := hU5.below hB6 hU5.lt
    refine seq_none hS (runs_store rfl rfl rfl infInt1 (hU6.cell 0) (hU6.open_ 0)) (fun v8 w7 a8 hp8 hS => ?_)
    obtain ⟨rfl, rfl⟩ := hp8
    have hU7 : Has (w6.setCell ⟨w4.heap.size, 0, none⟩ (.int .i64 0)) w4.heap.size 3 [.int .i64 0] := hU6.set_ 0 _
    have hV7 : Has (w6.setCell ⟨w4.heap.size, 0, none⟩ (.int .i64 0)) w5.heap.size 3 [.int .i64 0] := hV6.far (p := ⟨w4.heap.size, 0, none⟩) (by simp; omega) _
    have hB7 : Below w4.heap.size w4 (w6.setCell ⟨w4.heap.size, 0, none⟩ (.int .i64 0)) := (hB5.trans (hB6.mono (by omega))).setCell (by simp) _
    have hz7 : (w6.setCell ⟨w4.heap.size, 0, none⟩ (.int .i64 0)).heap.size = w6.heap.size := by simp
    generalize w6.setCell ⟨w4.heap.size, 0, none⟩ (.int .i64 0) = w7 at *
    refine seq_none hS (runs_store rfl rfl rfl infInt1 (hV7.cell 0) (hV7.open_ 0)) (fun v8 w8 a8 hp8 hS => ?_)
    obtain ⟨rfl, rfl⟩ := hp8
    have hV8 : Has (w7.setCell ⟨w5.heap.size, 0, none⟩ (.int .i64 0)) w5.heap.size 3 [.int .i64 0] := hV7.set_ 0 _
    have hU8 : Has (w7.setCell ⟨w5.heap.size, 0, none⟩ (.int .i64 0)) w4.heap.size 3 [.int .i64 0] := hU7.far (p := ⟨w5.heap.size, 0, none⟩) (by simp; omega) _
    have hB8 : Below w4.heap.size w4 (w7.setCell ⟨w5.heap.size, 0, none⟩ (.int .i64 0)) := hB7.setCell (by simp; omega) _
    generalize w7.setCell ⟨w5.heap.size, 0, none⟩ (.int .i64 0) = w8 at *
    have z8 := hB8.size
    have hI8 : MI w4 w8 w4.heap.size w5.heap.size w2.heap.size w1.heap.size 0 0 (.slice A4 hs.length c4) (.slice A3 ss.length c3) := ⟨hU8, hV8, hP4.below hB8 (by omega), hL4.below hB8 (by omega), hB8⟩
    refine nil_ok (qx_seq (reg_seq ?_))
    refine seq_is hS (by decide) (runs_move rfl) (fun a9 hS => ?_)
    refine seq_is hS (by decide) (runs_move rfl) (fun a9 hS => ?_)
    refine seq_is hS (by decide) (runs_makeFunc (cs := [.pointer (some ⟨w4.heap.size, 0, none⟩), .pointer (some ⟨w2.heap.size, 0, none⟩)]) rfl) (fun a9 hS => ?_)
    refine seq_is hS (by decide) (runs_makeFunc (cs := [.pointer (some ⟨w5.heap.size, 0, none⟩), .pointer (some ⟨w1.heap.size, 0, none⟩)]) rfl) (fun a9 hS => ?_)
    have htog := tog61_any w4 w4.heap.size w5.heap.size w2.heap.size w1.heap.size (.slice A4 hs.length c4) (.slice A3 ss.length c3) hs ss (hH.kept hBw4) (hL.kept hBw4) hsz hk4 (Nat.le_refl _) (by omega) (by omega) hl1 hl2 m 0 0 0 l _ w8 (by omega) hI8 hxN (by omega) (by omega)
    rw [Nat.zero_add, List.drop_zero, List.drop_zero, Nat.zero_add] at htog
    obtain ⟨hcl, hcb⟩ := chk_ok [] m 0 l hs (ss.map bl) hok (by omega)
    obtain ⟨t, ht⟩ : ∃ t, t = chk 0 m l hs (ss.map bl) := ⟨_, rfl⟩
    rw [← ht] at htog hcl hcb
    rw [← ht]
    refine seq_op hS (by decide) (runs_call (args := [.int .i64 0, .int .i64 (m : Int), .slice A2 xs.length c2, .func (.func 62) #[] #[.pointer (some ⟨w4.heap.size, 0, none⟩), .pointer (some ⟨w2.heap.size, 0, none⟩)], .func (.func 63) #[] #[.pointer (some ⟨w5.heap.size, 0, none⟩), .pointer (some ⟨w1.heap.size, 0, none⟩)], .func (.func 34) #[] #[]]) (Post := fun v w' => v = .agg (U8 t).toArray ∧ But w4.heap.size w5.heap.size w8 w') goes61 rfl (htog.mono (by rintro e w' ⟨rfl, _, h⟩; exact ⟨_, rfl, rfl, h⟩))) (fun v9 w9 a9 hp9 hS => ?_)
    obtain ⟨rfl, hb9⟩ := hp9
    have hB9 : Below w4.heap.size w4 w9 := hB8.trans (hb9.below z8 (Nat.le_refl _) (by omega))
    have hR9 := hR4.below hB9 (by omega)
    have hBw9 : Below w.heap.size w w9 := hBw4.trans (hB9.mono hBw4.size)
    have z9 := hB9.size
    refine seq_op hS (by decide) alloc_hash (fun v2 w10 a1 hp1 hS => ?_)
    obtain ⟨rfl, rfl⟩ := hp1
    have hT10 := Has.new w9 26 (U8 (List.replicate 32 0))
    have hB10 : Below w9.heap.size w9 (w9.alloc (.cells (U8 (List.replicate 32 0)).toArray 26)) := (Below.refl _ _).alloc (Nat.le_refl _) _
    generalize w9.alloc (.cells (U8 (List.replicate 32 0)).toArray 26) = w10 at *
    refine seq_none hS (runs_storeRow rfl rfl hT10 (by simp [hcl]) (agg_all _) (by rw [infHash]; simp [hcl])) (fun v3 w11 a3 hp3 hS => ?_)
    obtain ⟨rfl, rfl⟩ := hp3
    have hT11 := has_setRow (cs := U8 t) hT10
    have hB11 : Below w9.heap.size w9 (w10.setRow w9.heap.size (U8 t).toArray) := below_row hB10 (Nat.le_refl _) _
    generalize w10.setRow w9.heap.size (U8 t).toArray = w11 at *
    have hR11 := hR9.below hB11 hR9.lt
    have hBw11 : Below w.heap.size w w11 := hBw9.trans (hB11.mono hBw9.size)
    have hk11 := hk.below hBw11 hk.pos
    have hrl2 : (Tree.root m t).length = 32 := Sha.Holds.sumText
    refine nil_ok (qx_seq (reg_guard (fun w' => Below w11.heap.size w11 w') [.inl (.int .i64 (m : Int)), .inl (.agg (U8 t).toArray), .inl (.agg (U8 (Tree.root m t)).toArray), .inl (.agg (U8 root).toArray), .inl (.bool (Tree.root m t == root)), .inl (.bool (Tree.root m t == root))] 6 0 mixed rfl (by kernel_rfl) hS (Below.refl _ _) (fun _ h => h.drew) ?_))
    refine hs_is rfl (fun w' hw => runs_move rfl) ?_
    refine hs_is rfl (fun w' hw => runs_loadRow rfl (hT11.below hw hT11.lt) undHash rfl (by rw [infHash, U8_length, hcl])) ?_
    refine hs_val rfl (fun w' hw _ => runs_call (args := [.int .i64 (m : Int), .agg (U8 t).toArray]) goes64 rfl ((rootOfM_any m t w' (by omega) hcl hcb (hk11.below hw hk11.pos)).mono (by rintro e w'' ⟨rfl, h⟩; exact ⟨_, rfl, rfl, hw.trans (h.mono hw.size), h⟩))) ?_
    refine hs_is rfl (fun w' hw => runs_loadRow rfl (hR11.below hw hR11.lt) undHash rfl (by rw [infHash, U8_length, hrl])) ?_
    refine hs_is rfl (fun w' hw => runs_eqHash rfl rfl hrl2 hrl rfl) ?_
    refine hs_is rfl (fun w' hw => runs_assign rfl) ?_
    refine (fun a10 w12 hS10 hB12 _ => ?_)
    refine wpAnyH_done (by kernel_rfl) ?_ _
    exact qx_ret (ret1 (t := 10) (by kernel_rfl) hS10 rfl ⟨rfl, hBw11.trans (hB12.mono hBw11.size)⟩)
end Go.Proofs.YtdemoidmhmdgkaaDoor
