/- The contracts of the document's own small functions: two, cut, turn, constants. Conditions: the powers of two below 2 to the 64. -/
import Derived.Test.YtdemoidmhmdgkaaDoorTTop
namespace Go.Proofs.YtdemoidmhmdgkaaDoor
open Go.RowKit
set_option maxRecDepth 100000

set_option maxHeartbeats 400000 in
theorem two_any (n : Nat) (hn : n < 64) (w : World) : Calls Tryd.prog 78 #[.int .i64 (n : Int)] w fun e w' => e = .returned (.int .u64 ((2 ^ n : Nat) : Int)) ∧ w = w' := by
  go_enter Tryd.func78, Tryd.ntmps78
  go_wp2
  go_loopw [3, 4] (fun p i V => ∃ k : Nat, k ≤ n ∧ i = .int .i64 (k : Int) ∧ p = .int .u64 ((2 ^ k : Nat) : Int) ∧ V = w) (fun _ i _ => n - (intOf i).toNat)
  case atStart => exact ⟨0, by omega, rfl, rfl, rfl⟩
  case round =>
    obtain ⟨k, hk, rfl, rfl, rfl⟩ := hrel
    by_cases hlt : k < n
    · have HP := Lib.hid (show 2 ^ (k + 1) = 2 * 2 ^ k from by rw [Nat.pow_succ, Nat.mul_comm])
      have HB : Hid (2 * 2 ^ k ≤ 2 ^ 63) := by
        show _ ≤ _
        rw [← HP.out]
        exact Nat.pow_le_pow_right (by omega) (by omega)
      generalize hp : 2 ^ k = p at *
      clear hp
      have k1 : (k : Int) < n := by omega
      go_wp2
      refine ⟨⟨k + 1, by omega, by go_num, ?_, trivial⟩, by simp [intOf]; omega⟩
      rw [HP.out]
      have hb := HB.out
      rw [IntWalk.u64_in (2 * (p : Int)) ⟨by omega, by omega⟩]
      simp
    · obtain rfl : k = n := by omega
      go_wp2
      go_ret
      exact ⟨rfl, rfl⟩
theorem two_quiet (n : Nat) (hn : n < 64) {w : World} {m : Nat} : Calls Tryd.prog 78 #[.int .i64 (n : Int)] (w.drewN m) fun e w' => e = .returned (.int .u64 ((2 ^ n : Nat) : Int)) ∧ ∃ m, w' = w.drewN m :=
  (two_any n hn _).mono fun _ _ ⟨he, hw⟩ => ⟨he, m, hw.symm⟩
theorem cut_any (x : Nat) (w : World) : Calls Tryd.prog 80 #[.int .u64 (x : Int)] w fun e w' => e = .returned (.int .u64 ((x % 4294967296 : Nat) : Int)) ∧ w = w' := by
  go_enter Tryd.func80, Tryd.ntmps80
  go_wp2
  go_ret
  exact ⟨congrArg (fun n => Ending.returned (.int .u64 n)) (by simp), rfl⟩
set_option maxHeartbeats 400000 in
theorem turn_walk (x n k p q d r t R : Nat) (w : World)
    (c1 : ∀ m : Nat, Calls Tryd.prog 78 #[.int .i64 (n : Int)] (w.drewN m) fun e w' => e = .returned (.int .u64 (p : Int)) ∧ ∃ m, w' = w.drewN m)
    (c2 : ∀ m : Nat, Calls Tryd.prog 78 #[.int .i64 (k : Int)] (w.drewN m) fun e w' => e = .returned (.int .u64 (q : Int)) ∧ ∃ m, w' = w.drewN m)
    (hp1 : ¬ p = 0) (w3 : IntKind.u64.wrap (d : Int) = (d : Int)) (hmt : (x : Int).tmod (p : Int) = (r : Int)) (e32 : IntKind.i64.wrap ((32 : Int) - (n : Int)) = (k : Int)) (hdq : ((x : Int) / (p : Int)) = (d : Int)) (em : (r : Int) * (q : Int) = (t : Int))
    (w1 : IntKind.u64.wrap (t : Int) = (t : Int)) (ea : (d : Int) + (t : Int) = (R : Int)) (w2 : IntKind.u64.wrap (R : Int) = (R : Int)) :
    Calls Tryd.prog 81 #[.int .u64 (x : Int), .int .i64 (n : Int)] w fun e w' => e = .returned (.int .u64 (R : Int)) ∧ ∃ m, w' = w.drewN m := by
  have C1 := Lib.hid c1
  have C2 := Lib.hid c2
  have W3 := Lib.hid w3
  have HM := Lib.hid hmt
  clear c1 c2 w3 hmt
  go_enter Tryd.func81, Tryd.ntmps81
  go_wp2
  have hS : ∃ m, w.drew = w.drewN m := ⟨1, rfl⟩
  refine wp_region_held (S := fun w' => ∃ m, w' = w.drewN m) (by kernel_rfl) ?_
  change wpAnyH _ _ _ _ _ _ _ _ (w.drewN 1)
  change ∃ m, w.drewN 1 = w.drewN m at hS
  refine held_take 0 (some 5) (v := .int .u64 (x : Int)) rfl rfl (by kernel_rfl) (by kernel_rfl) (by kernel_rfl) (fun _ _ _ h => h) (Or.inl ⟨by rfl, fun _ _ => by go_simp⟩) hS ?_
  go_frame
  refine held_take 1 (some 6) (v := .int .i64 (n : Int)) rfl rfl (by kernel_rfl) (by kernel_rfl) (by kernel_rfl) (fun _ _ _ h => h) (Or.inl ⟨by rfl, fun _ _ => by go_simp⟩) hS ?_
  go_frame
  refine held_take 4 (some 9) (v := .int .u64 (x : Int)) rfl rfl (by kernel_rfl) (by kernel_rfl) (by kernel_rfl) (fun _ _ _ h => h) (Or.inl ⟨by rfl, fun _ _ => by go_simp⟩) hS ?_
  go_frame
  refine held_take 5 (some 10) (v := .int .i64 (n : Int)) rfl rfl (by kernel_rfl) (by kernel_rfl) (by kernel_rfl) (fun _ _ _ h => h) (Or.inl ⟨by rfl, fun _ _ => by go_simp⟩) hS ?_
  go_frame
  refine held_take 8 (some 13) (v := .int .i64 (n : Int)) rfl rfl (by kernel_rfl) (by kernel_rfl) (by kernel_rfl) (fun _ _ _ h => h) (Or.inl ⟨by rfl, fun _ _ => by go_simp⟩) hS ?_
  go_frame
  refine held_take 9 (some 14) (v := .int .i64 (k : Int)) rfl rfl (by kernel_rfl) (by kernel_rfl) (by kernel_rfl) (fun _ _ _ h => h) (Or.inl ⟨by rfl, fun _ _ => by go_simp⟩) hS ?_
  go_frame
  refine held_one 2 (some 7) rfl rfl (by kernel_rfl) (by rfl) (fun K hK => ?_)
  go_simp
  refine (C1.out _).mono ?_
  rintro e w1 ⟨rfl, m1, rfl⟩
  refine hK _ _ ⟨_, rfl⟩ ?_
  clear hK K hS
  have hS : ∃ m, w.drewN m1 = w.drewN m := ⟨_, rfl⟩
  go_frame
  refine held_take 3 (some 8) (v := .int .u64 (d : Int)) rfl rfl (by kernel_rfl) (by kernel_rfl) (by kernel_rfl) (fun _ _ _ h => h) (Or.inl ⟨by rfl, fun _ _ => by go_simp; exact W3.out⟩) hS ?_
  go_frame
  refine held_one 6 (some 11) rfl rfl (by kernel_rfl) (by rfl) (fun K hK => ?_)
  go_simp
  refine (C1.out _).mono ?_
  rintro e w1 ⟨rfl, m1, rfl⟩
  refine hK _ _ ⟨_, rfl⟩ ?_
  clear hK K hS
  have hS : ∃ m, w.drewN m1 = w.drewN m := ⟨_, rfl⟩
  go_frame
  refine held_take 7 (some 12) (v := .int .u64 (r : Int)) rfl rfl (by kernel_rfl) (by kernel_rfl) (by kernel_rfl) (fun _ _ _ h => h) (Or.inl ⟨by rfl, fun _ _ => by go_simp; exact HM.out⟩) hS ?_
  go_frame
  refine held_one 10 (some 15) rfl rfl (by kernel_rfl) (by rfl) (fun K hK => ?_)
  go_simp
  refine (C2.out _).mono ?_
  rintro e w1 ⟨rfl, m1, rfl⟩
  refine hK _ _ ⟨_, rfl⟩ ?_
  clear hK K hS
  have hS : ∃ m, w.drewN m1 = w.drewN m := ⟨_, rfl⟩
  go_frame
  refine held_take 11 (some 16) (v := .int .u64 (t : Int)) rfl rfl (by kernel_rfl) (by kernel_rfl) (by kernel_rfl) (fun _ _ _ h => h) (Or.inl ⟨by rfl, fun _ _ => by go_simp⟩) hS ?_
  go_frame
  refine held_take 12 (some 17) (v := .int .u64 (R : Int)) rfl rfl (by kernel_rfl) (by kernel_rfl) (by kernel_rfl) (fun _ _ _ h => h) (Or.inl ⟨by rfl, fun _ _ => by go_simp⟩) hS ?_
  go_frame
  refine held_take 13 (some 4) (v := .int .u64 (R : Int)) rfl rfl (by kernel_rfl) (by kernel_rfl) (by kernel_rfl) (fun _ _ _ h => h) (Or.inl ⟨by rfl, fun _ _ => by go_simp⟩) hS ?_
  go_frame
  refine wpAnyH_done (by kernel_rfl) ?_ _
  go_wp2
  go_ret
  exact ⟨rfl, _, rfl⟩
def U64 (l : List Nat) : List Value := l.map fun n : Nat => Value.int .u64 (n : Int)
@[simp] theorem U64_length (l : List Nat) : (U64 l).length = l.length := by simp [U64]
theorem U64_get {l : List Nat} {i : Nat} (h : i < l.length) : (U64 l)[i]? = some (.int .u64 (l.getD i 0 : Nat)) := by simp [U64, h]
theorem U64_append (a b : List Nat) : U64 (a ++ b) = U64 a ++ U64 b := by simp [U64]
theorem U64_set (l : List Nat) (i n : Nat) : (U64 l).set i (.int .u64 (n : Int)) = U64 (l.set i n) := by simp [U64, List.map_set]
theorem U64_one (l : List Nat) : ∀ v ∈ U64 l, v.oneCell' = true := by
  intro v hv; obtain ⟨n, _, rfl⟩ := List.mem_map.1 hv; rfl
theorem constants_any (w : World) : Calls Tryd.prog 79 #[] w fun e w' => e = .returned (.slice (some ⟨w.heap.size, 0, none⟩) 64 64) ∧ w' = w.alloc (.cells (U64 Sha.K).toArray 63) := by
  go_enter Tryd.func79, Tryd.ntmps79
  go_wp2
  go_ret
  exact ⟨rfl, rfl⟩
theorem u64_nat (m : Nat) (h : m < 8589934592) : IntKind.u64.wrap (m : Int) = (m : Int) := IntWalk.u64_in _ ⟨by omega, by omega⟩
theorem turn_any (x n : Nat) (hx : x < 4294967296) (h1 : 1 ≤ n) (h2 : n ≤ 31) (w : World) : Calls Tryd.prog 81 #[.int .u64 (x : Int), .int .i64 (n : Int)] w fun e w' => e = .returned (.int .u64 ((Sha.rotr n x : Nat) : Int)) ∧ ∃ m, w' = w.drewN m := by
  have hp : 0 < 2 ^ n := Nat.pow_pos (by omega)
  have hR : Sha.rotr n x = x / 2 ^ n + x % 2 ^ n * 2 ^ (32 - n) := rfl
  have hRl := Sha.rotr_lt (k := n) (by omega) hx
  refine turn_walk x n (32 - n) (2 ^ n) (2 ^ (32 - n)) (x / 2 ^ n) (x % 2 ^ n) (x % 2 ^ n * 2 ^ (32 - n)) (Sha.rotr n x) w (fun m => two_quiet n (by omega)) (fun m => two_quiet (32 - n) (by omega)) (by omega) ?_ ?_ ?_ (by simp) (by simp) ?_ ?_ ?_
  · exact u64_nat _ (by have := Nat.div_le_self x (2 ^ n); omega)
  · rw [Int.tmod_eq_emod_of_nonneg (by omega)]; simp
  · rw [show (32 : Int) - (n : Int) = ((32 - n : Nat) : Int) by omega]; exact IntWalk.i64_in _ ⟨by omega, by omega⟩
  · exact u64_nat _ (Nat.lt_of_le_of_lt (Nat.le_add_left _ (x / 2 ^ n)) (by rw [← hR]; omega))
  · omega
  · exact u64_nat _ (by omega)
end Go.Proofs.YtdemoidmhmdgkaaDoor
