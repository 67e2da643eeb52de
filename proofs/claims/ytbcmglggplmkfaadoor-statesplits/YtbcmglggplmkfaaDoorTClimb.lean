/- Layer 3: climb, Deep. Conditions: at most 2 to the 31 leaves; what the closure does is a premise. -/
import Derived.Test.YtbcmglggplmkfaaDoorTTop
namespace Go.Proofs.YtbcmglggplmkfaaDoor
open Go.RowKit
set_option maxRecDepth 100000

theorem path_mem : ∀ (n first at_ : Nat) (x : Nat × Nat × Bool), x ∈ Tree.path first n at_ → first ≤ x.1 ∧ x.1 < x.2.1 ∧ x.2.1 ≤ first + n := by
  intro n
  induction n using Nat.strongRecOn with
  | _ n ih =>
    intro first at_ x hx
    by_cases h2 : n < 2
    · rw [Tree.path_small h2] at hx; cases hx
    · have hl := Tree.half_lt (n := n) (by omega)
      have hp := Tree.half_pos n
      by_cases ha : at_ < first + Tree.half n
      · rw [Tree.path_left (by omega) ha] at hx
        rcases List.mem_append.1 hx with hx | hx
        · have := ih _ hl _ _ _ hx; omega
        · rw [List.mem_singleton.1 hx]; simp only; omega
      · rw [Tree.path_right (by omega) ha] at hx
        rcases List.mem_append.1 hx with hx | hx
        · have := ih _ (by omega) _ _ _ hx; omega
        · rw [List.mem_singleton.1 hx]; simp only; omega
set_option maxRecDepth 100000 in
set_option maxHeartbeats 1000000 in
theorem climb_any (cf : FuncId) (caps : List Value) (hg : Goes Tryd.prog cf) (full : List (Nat × Nat × Bool)) (I : List (Nat × Nat × Bool) → World → Prop)
    (hstep : ∀ (done : List (Nat × Nat × Bool)) (f e : Nat) (left : Bool) (w : World), I done w → (done ++ [(f, e, left)]) <+: full → Calls Tryd.prog cf ([Value.int .i64 (f : Int), .int .i64 (e : Int), .bool left] ++ caps).toArray w fun r w' => r = .returned (.tuple #[]) ∧ I (done ++ [(f, e, left)]) w') :
    ∀ (n first at_ : Nat) (done : List (Nat × Nat × Bool)) (w : World), first + n ≤ 2147483648 → I done w → (done ++ Tree.path first n at_) <+: full →
      Calls Tryd.prog 43 #[.int .i64 (first : Int), .int .i64 ((first + n : Nat) : Int), .int .i64 (at_ : Int), .func (.func cf) #[] caps.toArray] w fun r w' => r = .returned (.tuple #[]) ∧ I (done ++ Tree.path first n at_) w' := by
  intro n
  induction n using Nat.strongRecOn with
  | _ n ih =>
    intro first at_ done w hn hI hpre
    refine calls_qx (args := [.int .i64 (first : Int), .int .i64 ((first + n : Nat) : Int), .int .i64 (at_ : Int), .func (.func cf) #[] caps.toArray]) 40 Tryd.func43 rfl (by kernel_rfl) (by simp) (fun a hS => ?_)
    refine qx_seq (qx_seq (reg_seq ?_))
    refine seq_is hS (by decide) (runs_move rfl) (fun a1 hS => ?_)
    refine seq_is hS (by decide) (runs_move rfl) (fun a1 hS => ?_)
    refine seq_is hS (by decide) (runs_sub rfl rfl ((IntWalk.i64_in _ (by omega)).trans (show _ = (n : Int) by omega))) (fun a1 hS => ?_)
    by_cases h2 : n < 2
    · refine seq_is hS (by decide) (runs_lss (r := true) rfl rfl (by simp; omega)) (fun a1 hS => ?_)
      refine nil_ok (wp_cond_true (hS.eval rfl) (qx_ret (ret0 (by kernel_rfl) hS ⟨rfl, ?_⟩)))
      rw [Tree.path_small h2, List.append_nil]; exact hI
    · refine seq_is hS (by decide) (runs_lss (r := false) rfl rfl (by simp; omega)) (fun a1 hS => ?_)
      refine nil_ok (wp_cond_false (hS.eval rfl) (wp_skip ?_))
      have hl := Tree.half_lt (n := n) (by omega)
      have hp := Tree.half_pos n
      have hhz : halfZ (n : Int) = Tree.half n := by unfold halfZ; rw [if_neg (by omega), Int.toNat_natCast]
      have hhalf := half_any (n : Int) w (by omega)
      rw [hhz] at hhalf
      refine qx_seq (reg_seq ?_)
      refine seq_is hS (by decide) (runs_move rfl) (fun a1 hS => ?_)
      refine seq_is hS (by decide) (runs_move rfl) (fun a1 hS => ?_)
      refine seq_is hS (by decide) (runs_move rfl) (fun a1 hS => ?_)
      refine seq_is hS (by decide) (runs_sub rfl rfl ((IntWalk.i64_in _ (by omega)).trans (show _ = (n : Int) by omega))) (fun a1 hS => ?_)
      refine seq_is hS (by decide) (runs_call (args := [.int .i64 (n : Int)]) (Post := Is (.int .i64 ((Tree.half n : Nat) : Int)) w) goes61 rfl (hhalf.mono (by rintro e w' ⟨rfl, rfl⟩; exact ⟨_, rfl, rfl, rfl⟩))) (fun a1 hS => ?_)
      refine seq_is hS (by decide) (runs_add rfl rfl ((IntWalk.i64_in _ (by omega)).trans (show _ = ((first + Tree.half n : Nat) : Int) by omega))) (fun a1 hS => ?_)
      refine seq_is hS (by decide) (runs_assign rfl) (fun a1 hS => ?_)
      refine nil_ok (qx_seq (reg_seq ?_))
      refine seq_is hS (by decide) (runs_move rfl) (fun a1 hS => ?_)
      refine seq_is hS (by decide) (runs_move rfl) (fun a1 hS => ?_)
      by_cases ha : at_ < first + Tree.half n
      · have hpl := Tree.path_left (first := first) (n := n) (at_ := at_) (by omega) ha
        rw [hpl, ← List.append_assoc] at hpre
        have hrec := ih (Tree.half n) hl first at_ done w (by omega) hI (List.IsPrefix.trans (List.prefix_append _ _) hpre)
        refine seq_is hS (by decide) (runs_lss (r := true) rfl rfl (by simp; omega)) (fun a1 hS => ?_)
        refine nil_ok (wp_cond_true (hS.eval rfl) (qx_seq (reg_seq ?_)))
        refine seq_is hS (by decide) (runs_move rfl) (fun a1 hS => ?_)
        refine seq_is hS (by decide) (runs_move rfl) (fun a1 hS => ?_)
        refine seq_is hS (by decide) (runs_move rfl) (fun a1 hS => ?_)
        refine seq_is hS (by decide) (runs_move rfl) (fun a1 hS => ?_)
        refine seq_op hS (by decide) (runs_call (args := [.int .i64 (first : Int), .int .i64 ((first + Tree.half n : Nat) : Int), .int .i64 (at_ : Int), .func (.func cf) #[] caps.toArray]) (Post := fun _ w' => I (done ++ Tree.path first (Tree.half n) at_) w') goes43 rfl (hrec.mono (by rintro e w' ⟨rfl, h⟩; exact ⟨_, rfl, h⟩))) (fun v w1 a1 hI1 hS => ?_)
        have hst := hstep _ (first + Tree.half n) (first + n) false w1 hI1 hpre
        refine nil_ok (reg_seq ?_)
        refine seq_is hS (by decide) (runs_move rfl) (fun a1 hS => ?_)
        refine seq_is hS (by decide) (runs_move rfl) (fun a1 hS => ?_)
        refine seq_is hS (by decide) (runs_move rfl) (fun a1 hS => ?_)
        refine seq_op hS (by decide) (runs_callv (args := [.int .i64 ((first + Tree.half n : Nat) : Int), .int .i64 ((first + n : Nat) : Int), .bool false]) (Post := fun _ w' => I (done ++ Tree.path first (Tree.half n) at_ ++ [(first + Tree.half n, first + n, false)]) w') hg rfl rfl (hst.mono (by rintro e w' ⟨rfl, h⟩; exact ⟨_, rfl, h⟩))) (fun v w2 a2 hI2 hS => ?_)
        refine nil_ok (ret0 (by kernel_rfl) hS ⟨rfl, ?_⟩)
        rw [hpl, ← List.append_assoc]; exact hI2
      · have hpr := Tree.path_right (first := first) (n := n) (at_ := at_) (by omega) ha
        rw [hpr, ← List.append_assoc] at hpre
        have hrec := ih (n - Tree.half n) (by omega) (first + Tree.half n) at_ done w (by omega) hI (List.IsPrefix.trans (List.prefix_append _ _) hpre)
        rw [show first + Tree.half n + (n - Tree.half n) = first + n by omega] at hrec
        refine seq_is hS (by decide) (runs_lss (r := false) rfl rfl (by simp; omega)) (fun a1 hS => ?_)
        refine nil_ok (wp_cond_false (hS.eval rfl) (qx_seq (reg_seq ?_)))
        refine seq_is hS (by decide) (runs_move rfl) (fun a1 hS => ?_)
        refine seq_is hS (by decide) (runs_move rfl) (fun a1 hS => ?_)
        refine seq_is hS (by decide) (runs_move rfl) (fun a1 hS => ?_)
        refine seq_is hS (by decide) (runs_move rfl) (fun a1 hS => ?_)
        refine seq_op hS (by decide) (runs_call (args := [.int .i64 ((first + Tree.half n : Nat) : Int), .int .i64 ((first + n : Nat) : Int), .int .i64 (at_ : Int), .func (.func cf) #[] caps.toArray]) (Post := fun _ w' => I (done ++ Tree.path (first + Tree.half n) (n - Tree.half n) at_) w') goes43 rfl (hrec.mono (by rintro e w' ⟨rfl, h⟩; exact ⟨_, rfl, h⟩))) (fun v w1 a1 hI1 hS => ?_)
        have hst := hstep _ first (first + Tree.half n) true w1 hI1 hpre
        refine nil_ok (reg_seq ?_)
        refine seq_is hS (by decide) (runs_move rfl) (fun a1 hS => ?_)
        refine seq_is hS (by decide) (runs_move rfl) (fun a1 hS => ?_)
        refine seq_is hS (by decide) (runs_move rfl) (fun a1 hS => ?_)
        refine seq_op hS (by decide) (runs_callv (args := [.int .i64 (first : Int), .int .i64 ((first + Tree.half n : Nat) : Int), .bool true]) (Post := fun _ w' => I (done ++ Tree.path (first + Tree.half n) (n - Tree.half n) at_ ++ [(first, first + Tree.half n, true)]) w') hg rfl rfl (hst.mono (by rintro e w' ⟨rfl, h⟩; exact ⟨_, rfl, h⟩))) (fun v w2 a2 hI2 hS => ?_)
        refine nil_ok (ret0 (by kernel_rfl) hS ⟨rfl, ?_⟩)
        rw [hpr, ← List.append_assoc]; exact hI2
theorem infInt : (Tryd.prog.info? 3).map (fun i => (i.zero, i.size, i.bytes)) = some (some (.int .i64 0), 1, 8) := by kernel_rfl
theorem infInt1 : (Tryd.prog.info? 3).map (·.size) = some 1 := by kernel_rfl
theorem deep1_any (g m : Nat) (w : World) (v0 v1 v2 : Value) (hm : m < 1000000) (hh : Has w g 3 [.int .i64 (m : Int)]) :
    Calls Tryd.prog 62 #[v0, v1, v2, .pointer (some ⟨g, 0, none⟩)] w fun r w' => r = .returned (.tuple #[]) ∧ w' = w.setCell ⟨g, 0, none⟩ (.int .i64 ((m + 1 : Nat) : Int)) := by
  refine calls_qx (args := [v0, v1, v2, .pointer (some ⟨g, 0, none⟩)]) 9 Tryd.func62 rfl (by kernel_rfl) (by simp) (fun a hS => ?_)
  refine reg_seq ?_
  refine seq_is hS (by decide) (runs_load rfl (by kernel_rfl) (hh.cell 0)) (fun a1 hS => ?_)
  refine seq_is hS (by decide) (runs_add rfl rfl ((IntWalk.i64_in _ (by omega)).trans (show _ = ((m + 1 : Nat) : Int) by omega))) (fun a1 hS => ?_)
  refine seq_none hS (runs_store rfl rfl rfl infInt1 (hh.cell 0) (hh.open_ 0)) (fun v w1 a1 hp hS => ?_)
  obtain ⟨rfl, rfl⟩ := hp
  exact nil_ok (ret0 (by kernel_rfl) hS ⟨rfl, rfl⟩)
theorem path_len : ∀ (k n first at_ : Nat), n ≤ 2 ^ k → (Tree.path first n at_).length ≤ k := by
  intro k
  induction k with
  | zero => intro n first at_ h; rw [Tree.path_small (by omega)]; simp
  | succ k ih =>
    intro n first at_ h
    by_cases h2 : n < 2
    · rw [Tree.path_small h2]; simp
    · have hp : Tree.half n ≤ 2 ^ k := by
        unfold Tree.half
        apply Nat.pow_le_pow_right (by omega)
        have : Nat.log2 (n - 1) < k + 1 := (Nat.log2_lt (by omega)).2 (by omega)
        omega
      have hg := Tree.half_ge (n := n) (by omega)
      by_cases ha : at_ < first + Tree.half n
      · rw [Tree.path_left (by omega) ha, List.length_append]
        have := ih _ first at_ hp
        simp; omega
      · rw [Tree.path_right (by omega) ha, List.length_append]
        have := ih (n - Tree.half n) (first + Tree.half n) at_ (by omega)
        simp; omega
/-- How long a proof is. -/
def deepZ (n at_ : Int) : Nat := if n > 1073741824 ∨ thereB n at_ = false then 0 else (Tree.path 0 n.toNat at_.toNat).length
set_option maxRecDepth 100000 in
theorem deep_any (n at_ : Int) (w : World) : Calls Tryd.prog 45 #[.int .i64 n, .int .i64 at_] w fun r w' => r = .returned (.int .i64 ((deepZ n at_ : Nat) : Int)) ∧ Below w.heap.size w w' := by
  refine calls_qx (args := [.int .i64 n, .int .i64 at_]) 19 Tryd.func45 rfl (by kernel_rfl) (by simp) (fun a hS => ?_)
  refine qx_seq (reg_seq ?_)
  refine seq_is hS (by decide) (runs_assign rfl) (fun a1 hS => ?_)
  refine nil_ok (qx_seq (qx_seq (reg_seq ?_)))
  refine seq_is hS (by decide) (runs_move rfl) (fun a1 hS => ?_)
  by_cases hn : n > 1073741824
  · refine seq_is hS (by decide) (runs_gtr (r := true) rfl rfl (by simp; omega)) (fun a1 hS => ?_)
    refine seq_is hS (by decide) (runs_move rfl) (fun a1 hS => ?_)
    refine seq_no hS (by decide) rfl (by decide) rfl rfl (fun a1 hS => ?_)
    refine seq_no hS (by decide) rfl (by decide) rfl rfl (fun a1 hS => ?_)
    refine seq_no hS (by decide) rfl (by decide) rfl rfl (fun a1 hS => ?_)
    refine seq_no hS (by decide) rfl (by decide) rfl rfl (fun a1 hS => ?_)
    refine seq_is hS (by decide) (runs_pick rfl rfl) (fun a1 hS => ?_)
    refine nil_ok (wp_cond_true (hS.eval rfl) (qx_seq (reg_seq ?_)))
    refine seq_is hS (by decide) (runs_assign rfl) (fun a1 hS => ?_)
    exact nil_ok (qx_ret (ret1 (t := 4) (by kernel_rfl) hS rfl ⟨by unfold deepZ; rw [if_pos (.inl hn)]; rfl, Below.refl _ _⟩))
  · refine seq_is hS (by decide) (runs_gtr (r := false) rfl rfl (by simp; omega)) (fun a1 hS => ?_)
    refine seq_is hS (by decide) (runs_move rfl) (fun a1 hS => ?_)
    refine seq_yis hS (by decide) rfl (by decide) rfl (runs_move rfl) (fun a1 hS => ?_)
    refine seq_yis hS (by decide) rfl (by decide) rfl (runs_move rfl) (fun a1 hS => ?_)
    refine seq_yis hS (by decide) rfl (by decide) rfl (runs_call (args := [.int .i64 n, .int .i64 at_]) (Post := Is (.bool (thereB n at_)) w) goes42 rfl ((there_any n at_ w).mono (by rintro e w' ⟨rfl, rfl⟩; exact ⟨_, rfl, rfl, rfl⟩))) (fun a1 hS => ?_)
    refine seq_yis hS (by decide) rfl (by decide) rfl (runs_not rfl) (fun a1 hS => ?_)
    refine seq_is hS (by decide) (runs_pick rfl rfl) (fun a1 hS => ?_)
    cases ht : thereB n at_ with
    | false =>
      rw [ht] at hS
      refine nil_ok (wp_cond_true (hS.eval rfl) (qx_seq (reg_seq ?_)))
      refine seq_is hS (by decide) (runs_assign rfl) (fun a1 hS => ?_)
      exact nil_ok (qx_ret (ret1 (t := 4) (by kernel_rfl) hS rfl ⟨by unfold deepZ; rw [if_pos (.inr ht)]; rfl, Below.refl _ _⟩))
    | true =>
      rw [ht] at hS
      refine nil_ok (wp_cond_false (hS.eval rfl) (wp_skip ?_))
      have ht' := ht
      simp only [thereB, Bool.and_eq_true, decide_eq_true_eq] at ht'
      obtain ⟨m, rfl⟩ := Int.eq_ofNat_of_zero_le (show 0 ≤ n by omega)
      obtain ⟨p, rfl⟩ := Int.eq_ofNat_of_zero_le ht'.1
      obtain ⟨i3, hi3, hz3, _, _⟩ := info_parts infInt
      have hdz : deepZ (m : Int) (p : Int) = (Tree.path 0 m p).length := by unfold deepZ; rw [if_neg (by rw [ht]; simp; omega)]; simp
      have hpl := path_len 30 m 0 p (by omega)
      rw [hdz]
      refine qx_seq (reg_seq ?_)
      refine seq_op hS (by decide) (runs_alloc hi3 hz3) (fun v w1 a1 hp hS => ?_)
      obtain ⟨rfl, rfl⟩ := hp
      have hG1 : Has (w.alloc (.cells (Value.int .i64 0).cells 3)) w.heap.size 3 [.int .i64 0] := Has.new w 3 [.int .i64 0]
      have hB1 : Below w.heap.size w (w.alloc (.cells (Value.int .i64 0).cells 3)) := (Below.refl _ _).alloc (Nat.le_refl _) _
      generalize w.alloc (.cells (Value.int .i64 0).cells 3) = w1 at *
      refine seq_none hS (runs_store rfl rfl rfl infInt1 (hG1.cell 0) (hG1.open_ 0)) (fun v w2 a1 hp hS => ?_)
      obtain ⟨rfl, rfl⟩ := hp
      have hG2 : Has (w1.setCell ⟨w.heap.size, 0, none⟩ (.int .i64 0)) w.heap.size 3 [.int .i64 0] := hG1.set_ 0 _
      have hB2 : Below w.heap.size w (w1.setCell ⟨w.heap.size, 0, none⟩ (.int .i64 0)) := hB1.setCell (by simp) _
      generalize w1.setCell ⟨w.heap.size, 0, none⟩ (.int .i64 0) = w2 at *
      refine nil_ok (qx_seq (reg_seq ?_))
      refine seq_is hS (by decide) (runs_move rfl) (fun a1 hS => ?_)
      refine seq_is hS (by decide) (runs_move rfl) (fun a1 hS => ?_)
      refine seq_is hS (by decide) (runs_makeFunc (cs := [.pointer (some ⟨w.heap.size, 0, none⟩)]) rfl) (fun a1 hS => ?_)
      have hcl := climb_any 62 [.pointer (some ⟨w.heap.size, 0, none⟩)] goes62 (Tree.path 0 m p) (fun done w' => Has w' w.heap.size 3 [.int .i64 (done.length : Int)] ∧ Below w.heap.size w w') (fun done f e left w' hI hpre => by
        have hll := hpre.length_le
        rw [List.length_append, List.length_singleton] at hll
        refine (deep1_any w.heap.size done.length w' (.int .i64 (f : Int)) (.int .i64 (e : Int)) (.bool left) (by omega) hI.1).mono ?_
        rintro r w'' ⟨rfl, rfl⟩
        refine ⟨rfl, ?_, hI.2.setCell (by simp) _⟩
        rw [List.length_append, List.length_singleton]
        exact hI.1.set_ 0 _) m 0 p [] w2 (by omega) ⟨hG2, hB2⟩ (by rw [List.nil_append]; exact List.prefix_refl _)
      rw [List.nil_append, Nat.zero_add] at hcl
      refine seq_op hS (by decide) (runs_call (args := [.int .i64 0, .int .i64 (m : Int), .int .i64 (p : Int), .func (.func 62) #[] [Value.pointer (some ⟨w.heap.size, 0, none⟩)].toArray]) (Post := fun _ w' => Has w' w.heap.size 3 [.int .i64 ((Tree.path 0 m p).length : Int)] ∧ Below w.heap.size w w') goes43 rfl (hcl.mono (by rintro e w' ⟨rfl, h⟩; exact ⟨_, rfl, h⟩))) (fun v w3 a3 hp hS => ?_)
      refine nil_ok (qx_seq (reg_seq ?_))
      refine seq_is hS (by decide) (runs_load rfl (by kernel_rfl) (hp.1.cell 0)) (fun a1 hS => ?_)
      refine seq_is hS (by decide) (runs_assign rfl) (fun a1 hS => ?_)
      exact nil_ok (qx_ret (ret1 (t := 4) (by kernel_rfl) hS rfl ⟨rfl, hp.2⟩))
end Go.Proofs.YtbcmglggplmkfaaDoor
