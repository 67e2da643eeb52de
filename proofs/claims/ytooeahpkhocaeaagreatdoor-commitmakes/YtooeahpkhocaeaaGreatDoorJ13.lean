/- The contract of Done; NewIn. Conditions: at most 300000 bytes. -/
import Derived.Test.YtooeahpkhocaeaaGreatDoorJ08
import Derived.Test.YtooeahpkhocaeaaGreatDoorJ12
import Derived.Test.YtooeahpkhocaeaaGreatDoorTTop
import Derived.Test.YtooeahpkhocaeaaGreatDoorEngP
namespace Go.Proofs.YtooeahpkhocaeaaGreatDoor
open Go.RowKit
set_option maxRecDepth 100000

theorem newIn_any (s : ByteArray) (w : World) : Calls Tryz.prog 24 #[.string s] w fun e w' => e = .returned (.pointer (some ⟨w.heap.size, 0, none⟩)) ∧ w' = w.alloc (.cells #[.string s, .int .i64 0] 70) := by
  go_enter Tryz.func24, Tryz.ntmps24
  go_wp2
  go_ret
  exact ⟨rfl, rfl⟩
theorem in_new (w : World) (s : ByteArray) : In (w.alloc (.cells #[.string s, .int .i64 0] 70)) w.heap.size s 0 := Has.new w 70 [.string s, .int .i64 0]
theorem err_any (b : Nat) (s : ByteArray) (x : Nat) (w : World) (h : In w b s x) :
    Calls Tryz.prog 27 #[.pointer (some ⟨b, 0, none⟩)] w fun e w' => e = .returned (.int .i64 (x : Int)) ∧ w = w' := by
  have c1 : w.cell? ⟨b, 1, none⟩ = some (.int .i64 (x : Int)) := h.cell 1
  clear h
  go_enter Tryz.func27, Tryz.ntmps27
  go_wp2
  go_ret
  exact ⟨rfl, rfl⟩
/-- What End tells. -/
def endOf (s : ByteArray) (x : Nat) : Nat := if x = 0 ∧ 0 < s.size then 22 else x
theorem end_anyw (b : Nat) (s : ByteArray) (x : Nat) (w : World) (h : In w b s x) :
    Calls Tryz.prog 28 #[.pointer (some ⟨b, 0, none⟩)] w fun e w' => e = .returned (.int .i64 (endOf s x : Int)) ∧ w = w' := by
  have c0 : w.cell? ⟨b, 0, none⟩ = some (.string s) := h.cell 0
  have c1 : w.cell? ⟨b, 1, none⟩ = some (.int .i64 (x : Int)) := h.cell 1
  clear h
  by_cases hx : x = 0
  · subst hx
    by_cases hs : 0 < s.size
    · have HE := Lib.hid (show endOf s 0 = 22 by unfold endOf; rw [if_pos ⟨rfl, hs⟩])
      go_enter Tryz.func28, Tryz.ntmps28
      go_wp2
      go_ret
      exact ⟨congrArg (fun n : Nat => Ending.returned (.int .i64 (n : Int))) HE.out.symm, rfl⟩
    · have HE := Lib.hid (show endOf s 0 = 0 by unfold endOf; rw [if_neg (by omega)])
      go_enter Tryz.func28, Tryz.ntmps28
      go_wp2
      go_ret
      exact ⟨congrArg (fun n : Nat => Ending.returned (.int .i64 (n : Int))) HE.out.symm, rfl⟩
  · have HE := Lib.hid (show endOf s x = x by unfold endOf; rw [if_neg (by omega)])
    have t1 : ((x : Int) == 0) = false := by simp; omega
    go_enter Tryz.func28, Tryz.ntmps28
    go_wp2
    go_ret
    exact ⟨congrArg (fun n : Nat => Ending.returned (.int .i64 (n : Int))) HE.out.symm, rfl⟩
end Go.Proofs.YtooeahpkhocaeaaGreatDoor
/- The contracts of the document's own small functions: two, cut, turn, constants. Conditions: the powers of two below 2 to the 64. -/
namespace Go.Proofs.YtooeahpkhocaeaaGreatDoor
open Go.RowKit
set_option maxRecDepth 100000

set_option maxHeartbeats 400000 in
theorem two_any (n : Nat) (hn : n < 64) (w : World) : Calls Tryz.prog 79 #[.int .i64 (n : Int)] w fun e w' => e = .returned (.int .u64 ((2 ^ n : Nat) : Int)) ∧ w = w' := by
  go_enter Tryz.func79, Tryz.ntmps79
  go_wp2
  go_loopw [3, 4] (fun p i V => ∃ k : Nat, k ≤ n ∧ i = .int .i64 (k : Int) ∧ p = .int .u64 ((2 ^ k : Nat) : Int) ∧ V = w) (fun _ i _ => n - (intOf i).toNat)
  case atStart => exact ⟨0, by omega, rfl, rfl, rfl⟩
  case round =>
    obtain ⟨k, hk, rfl, rfl, rfl⟩ := hrel
    by_cases hlt : k < n
    · have HP := Lib.hid (show 2 ^ (k + 1) = 2 * 2 ^ k from by rw [Nat.pow_succ, Nat.mul_comm])
      have HB : Hid (2 * 2 ^ k ≤ 2 ^ 63) := by
        show _ ≤ _
        rw [← HP.out]
        exact Nat.pow_le_pow_right (by omega) (by omega)
      generalize hp : 2 ^ k = p at *
      clear hp
      have k1 : (k : Int) < n := by omega
      go_wp2
      refine ⟨⟨k + 1, by omega, by go_num, ?_, trivial⟩, by simp [intOf]; omega⟩
      rw [HP.out]
      have hb := HB.out
      rw [IntWalk.u64_in (2 * (p : Int)) ⟨by omega, by omega⟩]
      simp
    · obtain rfl : k = n := by omega
      go_wp2
      go_ret
      exact ⟨rfl, rfl⟩
theorem two_quiet (n : Nat) (hn : n < 64) {w : World} {m : Nat} : Calls Tryz.prog 79 #[.int .i64 (n : Int)] (w.drewN m) fun e w' => e = .returned (.int .u64 ((2 ^ n : Nat) : Int)) ∧ ∃ m, w' = w.drewN m :=
  (two_any n hn _).mono fun _ _ ⟨he, hw⟩ => ⟨he, m, hw.symm⟩
theorem cut_any (x : Nat) (w : World) : Calls Tryz.prog 81 #[.int .u64 (x : Int)] w fun e w' => e = .returned (.int .u64 ((x % 4294967296 : Nat) : Int)) ∧ w = w' := by
  go_enter Tryz.func81, Tryz.ntmps81
  go_wp2
  go_ret
  exact ⟨congrArg (fun n => Ending.returned (.int .u64 n)) (by simp), rfl⟩
set_option maxHeartbeats 400000 in
theorem turn_walk (x n k p q d r t R : Nat) (w : World)
    (c1 : ∀ m : Nat, Calls Tryz.prog 79 #[.int .i64 (n : Int)] (w.drewN m) fun e w' => e = .returned (.int .u64 (p : Int)) ∧ ∃ m, w' = w.drewN m)
    (c2 : ∀ m : Nat, Calls Tryz.prog 79 #[.int .i64 (k : Int)] (w.drewN m) fun e w' => e = .returned (.int .u64 (q : Int)) ∧ ∃ m, w' = w.drewN m)
    (hp1 : ¬ p = 0) (w3 : IntKind.u64.wrap (d : Int) = (d : Int)) (hmt : (x : Int).tmod (p : Int) = (r : Int)) (e32 : IntKind.i64.wrap ((32 : Int) - (n : Int)) = (k : Int)) (hdq : ((x : Int) / (p : Int)) = (d : Int)) (em : (r : Int) * (q : Int) = (t : Int))
    (w1 : IntKind.u64.wrap (t : Int) = (t : Int)) (ea : (d : Int) + (t : Int) = (R : Int)) (w2 : IntKind.u64.wrap (R : Int) = (R : Int)) :
    Calls Tryz.prog 82 #[.int .u64 (x : Int), .int .i64 (n : Int)] w fun e w' => e = .returned (.int .u64 (R : Int)) ∧ ∃ m, w' = w.drewN m := by
  have C1 := Lib.hid c1
  have C2 := Lib.hid c2
  have W3 := Lib.hid w3
  have HM := Lib.hid hmt
  clear c1 c2 w3 hmt
  go_enter Tryz.func82, Tryz.ntmps82
  go_wp2
  have hS : ∃ m, w.drew = w.drewN m := ⟨1, rfl⟩
  refine wp_region_held (S := fun w' => ∃ m, w' = w.drewN m) (by kernel_rfl) ?_
  change wpAnyH _ _ _ _ _ _ _ _ (w.drewN 1)
  change ∃ m, w.drewN 1 = w.drewN m at hS
  refine held_take 0 (some 5) (v := .int .u64 (x : Int)) rfl rfl (by kernel_rfl) (by kernel_rfl) (by kernel_rfl) (fun _ _ _ h => h) (Or.inl ⟨by rfl, fun _ _ => by go_simp⟩) hS ?_
  go_frame
  refine held_take 1 (some 6) (v := .int .i64 (n : Int)) rfl rfl (by kernel_rfl) (by kernel_rfl) (by kernel_rfl) (fun _ _ _ h => h) (Or.inl ⟨by rfl, fun _ _ => by go_simp⟩) hS ?_
  go_frame
  refine held_take 4 (some 9) (v := .int .u64 (x : Int)) rfl rfl (by kernel_rfl) (by kernel_rfl) (by kernel_rfl) (fun _ _ _ h => h) (Or.inl ⟨by rfl, fun _ _ => by go_simp⟩) hS ?_
  go_frame
  refine held_take 5 (some 10) (v := .int .i64 (n : Int)) rfl rfl (by kernel_rfl) (by kernel_rfl) (by kernel_rfl) (fun _ _ _ h => h) (Or.inl ⟨by rfl, fun _ _ => by go_simp⟩) hS ?_
  go_frame
  refine held_take 8 (some 13) (v := .int .i64 (n : Int)) rfl rfl (by kernel_rfl) (by kernel_rfl) (by kernel_rfl) (fun _ _ _ h => h) (Or.inl ⟨by rfl, fun _ _ => by go_simp⟩) hS ?_
  go_frame
  refine held_take 9 (some 14) (v := .int .i64 (k : Int)) rfl rfl (by kernel_rfl) (by kernel_rfl) (by kernel_rfl) (fun _ _ _ h => h) (Or.inl ⟨by rfl, fun _ _ => by go_simp⟩) hS ?_
  go_frame
  refine held_one 2 (some 7) rfl rfl (by kernel_rfl) (by rfl) (fun K hK => ?_)
  go_simp
  refine (C1.out _).mono ?_
  rintro e w1 ⟨rfl, m1, rfl⟩
  refine hK _ _ ⟨_, rfl⟩ ?_
  clear hK K hS
  have hS : ∃ m, w.drewN m1 = w.drewN m := ⟨_, rfl⟩
  go_frame
  refine held_take 3 (some 8) (v := .int .u64 (d : Int)) rfl rfl (by kernel_rfl) (by kernel_rfl) (by kernel_rfl) (fun _ _ _ h => h) (Or.inl ⟨by rfl, fun _ _ => by go_simp; exact W3.out⟩) hS ?_
  go_frame
  refine held_one 6 (some 11) rfl rfl (by kernel_rfl) (by rfl) (fun K hK => ?_)
  go_simp
  refine (C1.out _).mono ?_
  rintro e w1 ⟨rfl, m1, rfl⟩
  refine hK _ _ ⟨_, rfl⟩ ?_
  clear hK K hS
  have hS : ∃ m, w.drewN m1 = w.drewN m := ⟨_, rfl⟩
  go_frame
  refine held_take 7 (some 12) (v := .int .u64 (r : Int)) rfl rfl (by kernel_rfl) (by kernel_rfl) (by kernel_rfl) (fun _ _ _ h => h) (Or.inl ⟨by rfl, fun _ _ => by go_simp; exact HM.out⟩) hS ?_
  go_frame
  refine held_one 10 (some 15) rfl rfl (by kernel_rfl) (by rfl) (fun K hK => ?_)
  go_simp
  refine (C2.out _).mono ?_
  rintro e w1 ⟨rfl, m1, rfl⟩
  refine hK _ _ ⟨_, rfl⟩ ?_
  clear hK K hS
  have hS : ∃ m, w.drewN m1 = w.drewN m := ⟨_, rfl⟩
  go_frame
  refine held_take 11 (some 16) (v := .int .u64 (t : Int)) rfl rfl (by kernel_rfl) (by kernel_rfl) (by kernel_rfl) (fun _ _ _ h => h) (Or.inl ⟨by rfl, fun _ _ => by go_simp⟩) hS ?_
  go_frame
  refine held_take 12 (some 17) (v := .int .u64 (R : Int)) rfl rfl (by kernel_rfl) (by kernel_rfl) (by kernel_rfl) (fun _ _ _ h => h) (Or.inl ⟨by rfl, fun _ _ => by go_simp⟩) hS ?_
  go_frame
  refine held_take 13 (some 4) (v := .int .u64 (R : Int)) rfl rfl (by kernel_rfl) (by kernel_rfl) (by kernel_rfl) (fun _ _ _ h => h) (Or.inl ⟨by rfl, fun _ _ => by go_simp⟩) hS ?_
  go_frame
  refine wpAnyH_done (by kernel_rfl) ?_ _
  go_wp2
  go_ret
  exact ⟨rfl, _, rfl⟩
def U64 (l : List Nat) : List Value := l.map fun n : Nat => Value.int .u64 (n : Int)
@[simp] theorem U64_length (l : List Nat) : (U64 l).length = l.length := by simp [U64]
theorem U64_get {l : List Nat} {i : Nat} (h : i < l.length) : (U64 l)[i]? = some (.int .u64 (l.getD i 0 : Nat)) := by simp [U64, h]
theorem U64_append (a b : List Nat) : U64 (a ++ b) = U64 a ++ U64 b := by simp [U64]
theorem U64_set (l : List Nat) (i n : Nat) : (U64 l).set i (.int .u64 (n : Int)) = U64 (l.set i n) := by simp [U64, List.map_set]
theorem U64_one (l : List Nat) : ∀ v ∈ U64 l, v.oneCell' = true := by
  intro v hv; obtain ⟨n, _, rfl⟩ := List.mem_map.1 hv; rfl
theorem constants_any (w : World) : Calls Tryz.prog 80 #[] w fun e w' => e = .returned (.slice (some ⟨w.heap.size, 0, none⟩) 64 64) ∧ w' = w.alloc (.cells (U64 Sha.K).toArray 44) := by
  go_enter Tryz.func80, Tryz.ntmps80
  go_wp2
  go_ret
  exact ⟨rfl, rfl⟩
theorem u64_nat (m : Nat) (h : m < 8589934592) : IntKind.u64.wrap (m : Int) = (m : Int) := IntWalk.u64_in _ ⟨by omega, by omega⟩
theorem turn_any (x n : Nat) (hx : x < 4294967296) (h1 : 1 ≤ n) (h2 : n ≤ 31) (w : World) : Calls Tryz.prog 82 #[.int .u64 (x : Int), .int .i64 (n : Int)] w fun e w' => e = .returned (.int .u64 ((Sha.rotr n x : Nat) : Int)) ∧ ∃ m, w' = w.drewN m := by
  have hp : 0 < 2 ^ n := Nat.pow_pos (by omega)
  have hR : Sha.rotr n x = x / 2 ^ n + x % 2 ^ n * 2 ^ (32 - n) := rfl
  have hRl := Sha.rotr_lt (k := n) (by omega) hx
  refine turn_walk x n (32 - n) (2 ^ n) (2 ^ (32 - n)) (x / 2 ^ n) (x % 2 ^ n) (x % 2 ^ n * 2 ^ (32 - n)) (Sha.rotr n x) w (fun m => two_quiet n (by omega)) (fun m => two_quiet (32 - n) (by omega)) (by omega) ?_ ?_ ?_ (by simp) (by simp) ?_ ?_ ?_
  · exact u64_nat _ (by have := Nat.div_le_self x (2 ^ n); omega)
  · rw [Int.tmod_eq_emod_of_nonneg (by omega)]; simp
  · rw [show (32 : Int) - (n : Int) = ((32 - n : Nat) : Int) by omega]; exact IntWalk.i64_in _ ⟨by omega, by omega⟩
  · exact u64_nat _ (Nat.lt_of_le_of_lt (Nat.le_add_left _ (x / 2 ^ n)) (by rw [← hR]; omega))
  · omega
  · exact u64_nat _ (by omega)
end Go.Proofs.YtooeahpkhocaeaaGreatDoor
/- Plain mathematics for the document's own Of: numbers of 32 bits kept in 64. Conditions: numbers of 32 bits. -/
namespace Go.Proofs.YtooeahpkhocaeaaGreatDoor
open Go.RowKit
set_option maxRecDepth 100000

theorem x64 (a b : Nat) (ha : a < 4294967296) (hb : b < 4294967296) : bits BinOp.xor IntKind.u64 (a : Int) (b : Int) = ((a ^^^ b : Nat) : Int) := u64_xor_nat a b (by omega) (by omega)
theorem a64 (a b : Nat) (ha : a < 4294967296) (hb : b < 4294967296) : bits BinOp.and IntKind.u64 (a : Int) (b : Int) = ((a &&& b : Nat) : Int) := u64_and_nat a b (by omega) (by omega)
theorem be8_bytes (x : Nat) : Sha.Bytes (Sha.be8 x) := by
  intro y hy
  simp only [Sha.be8, List.mem_cons, List.not_mem_nil, or_false] at hy
  omega
theorem bytes_ending {l : List Nat} (h : Sha.Bytes l) (n : Nat) : Sha.Bytes (l ++ Sha.ending n) := by
  intro y hy
  unfold Sha.ending at hy
  simp only [List.mem_append, List.mem_cons] at hy
  rcases hy with hy | (rfl | hy) | hy
  · exact h y hy
  · omega
  · rw [List.mem_replicate] at hy; omega
  · exact be8_bytes _ y hy
/-- One number more of a block's, as the document's own Of has it. -/
theorem sched_more (b : List Nat) (t : Nat) (ht : t < 16) : Sha.sched b (t + 1) = Sha.sched b t ++ [b.getD (4 * t) 0 * 16777216 + b.getD (4 * t + 1) 0 * 65536 + b.getD (4 * t + 2) 0 * 256 + b.getD (4 * t + 3) 0] := by
  simp [Sha.sched, Sha.next, Sha.sched_length, ht, Sha.word]
theorem sched_more' (b : List Nat) (t : Nat) (ht : 16 ≤ t) : Sha.sched b (t + 1) = Sha.sched b t ++ [((Sha.sched b t).getD (t - 16) 0 + (Sha.sched b t).getD (t - 7) 0 + Sha.s0 ((Sha.sched b t).getD (t - 15) 0) + Sha.s1 ((Sha.sched b t).getD (t - 2) 0)) % 4294967296] := by
  rw [Sha.sched]
  unfold Sha.next
  rw [Sha.sched_length, if_neg (by omega)]
theorem block_get (M : List Nat) (A j : Nat) (hj : j < 64) : ((M.drop A).take 64).getD j 0 = M.getD (A + j) 0 := by
  simp only [List.getD_eq_getElem?_getD]
  rw [List.getElem?_take, if_pos hj, List.getElem?_drop]
theorem block_bytes {M : List Nat} (h : Sha.Bytes M) (A : Nat) : Sha.Bytes ((M.drop A).take 64) := fun x hx => h x (List.mem_of_mem_drop (List.mem_of_mem_take hx))
end Go.Proofs.YtooeahpkhocaeaaGreatDoor
/- One byte appended to a row of the call's own, marked or not. Conditions: fewer than a million bytes. -/
namespace Go.Proofs.YtooeahpkhocaeaaGreatDoor
open Go.RowKit
set_option maxRecDepth 100000

def OwnB (base : Nat) (V : World) (v : Value) (l : List Nat) : Prop :=
  ∃ (g cap : Nat) (cs : Array Value) (fr : Nat × Nat), v = .slice (some ⟨g, 0, none⟩) l.length cap ∧ base ≤ g ∧ V.heap[g]? = some (.cells cs 5 fr) ∧ (∀ j, j < cap → ¬ (fr.1 ≤ j ∧ j < fr.2)) ∧ cs.size = cap ∧ l.length ≤ cap ∧ cap ≤ maxLen ∧ cs.toList.take l.length = U8 l
theorem info5b : (Tryz.prog.info? 5).map (fun i => (i.zero, i.size, i.bytes)) = some (some (.int .u8 0), 1, 1) := by kernel_rfl
theorem OwnB.cell {base : Nat} {V : World} {v : Value} {l : List Nat} (h : OwnB base V v l) : ∃ g cap, v = .slice (some ⟨g, 0, none⟩) l.length cap ∧ base ≤ g ∧ g < V.heap.size ∧ V.rangeAt g 0 (U8 l) ∧ l.length ≤ cap ∧ cap ≤ maxLen := by
  obtain ⟨g, cap, cs, fr, rfl, hb, hg, hf, hs, hl, hm, ht⟩ := h
  refine ⟨g, cap, rfl, hb, (Array.getElem?_eq_some_iff.1 hg).1, fun j u hu => ?_, hl, hm⟩
  rw [Nat.zero_add, cell_of_row V g j cs 5 fr hg]
  rw [← ht, List.getElem?_take] at hu
  split at hu
  · simpa using hu
  · cases hu
theorem conv_own (w : World) (s : ByteArray) (hs : s.size ≤ maxLen) : ∃ (W1 : World) (c : Nat), Sem.run Tryz.prog (convert 9 65 (.string s)) w = .ok (.slice (some ⟨w.heap.size, 0, none⟩) s.size c) W1 ∧
    W1.heap.size = w.heap.size + 1 ∧ Below w.heap.size w W1 ∧ OwnB w.heap.size W1 (.slice (some ⟨w.heap.size, 0, none⟩) s.size c) (bl s) := by
  have hge := grownCap_ge w s.size 0 5
  have hsz : (Lib.bytesCells w 5 s).size = grownCap w s.size 0 5 := by
    simp only [Lib.bytesCells, Array.size_append, Array.size_map, Array.size_replicate]
    have : s.data.size = s.size := rfl
    omega
  refine ⟨Lib.bytesWorld w 5 s, grownCap w s.size 0 5, Lib.run_convert_string_bytes w 9 65 5 s und9 und27 und5, Lib.bytesWorld_size w 5 s, ⟨rfl, rfl, rfl, by rw [Lib.bytesWorld_size]; omega, fun i hi => Lib.bytesWorld_at_old w 5 s i hi⟩, ?_⟩
  refine ⟨w.heap.size, _, _, _, by rw [bl_length], Nat.le_refl _, Lib.bytesWorld_at_new w 5 s, fun j hj => by rw [hsz]; simp; omega, hsz, by rw [bl_length]; exact hge, grownCap_le_maxLen w s.size 0 5 hs, ?_⟩
  apply List.ext_getElem?
  intro j
  by_cases hj : j < s.size
  · rw [bl_get s j hj, List.getElem?_take, if_pos (by rw [bl_length]; exact hj)]
    have := Lib.bytesWorld_cell w 5 s j hj
    rw [cell_of_row _ w.heap.size j _ 5 _ (Lib.bytesWorld_at_new w 5 s)] at this
    simpa using this
  · rw [List.getElem?_eq_none (by rw [List.length_take, bl_length]; omega), List.getElem?_eq_none (by rw [U8_length, bl_length]; omega)]
theorem run_append_byte {base : Nat} {V : World} {v : Value} {l : List Nat} (h : OwnB base V v l) (x : Nat) (ad : Addr) (c : Nat) (ty : TypeId) (hx : V.cell? ad = some (.int .u8 (x : Int))) (hn : l.length < 1000000) (hB : base ≤ V.heap.size) :
    ∃ v' V', (Builtin.append_ #[65, 65] ty #[v, .slice (some ad) 1 c]).run Tryz.prog V = .ok v' V' ∧ OwnB base V' v' (l ++ [x]) ∧ Below base V V' := by
  obtain ⟨g, cap, cs, fr, rfl, hb, hg, hf, hs, hl, hm, ht⟩ := h
  obtain ⟨i, hi, hz, hsz, hby⟩ := info_parts info5b
  have hnews : ∀ j u, [Value.int .u8 (x : Int)][j]? = some u → V.cell? (ad.add j) = some u := fun j u hu => by
    match j, hu with
    | 0, hu => simp at hu; subst hu; simpa [Addr.add] using hx
  have hgV : g < V.heap.size := (Array.getElem?_eq_some_iff.1 hg).1
  by_cases hroom : l.length + 1 ≤ cap
  · have hfc := run_firstCells_some (P := Tryz.prog) V i.size 1 ad 1 c [.int .u8 (x : Int)] (by simp [hsz]) hnews
    have hst := run_storeCells_cells (P := Tryz.prog) g l.length [.int .u8 (x : Int)] 0 V (fun j hj => by
        simp at hj; subst hj
        rw [Nat.add_zero, cell_of_row V g _ cs 5 fr hg, Array.getElem?_eq_getElem (by omega)]; rfl)
      (fun j hj => by
        simp at hj; subst hj
        have := hf l.length (by omega)
        simp only [World.frozen?, hg]
        simp; omega) (fun v hv => by rw [List.mem_singleton.1 hv]; rfl)
    have hcell : (V.setCells g l.length [.int .u8 (x : Int)]).heap[g]? = some (.cells (cs.setIfInBounds l.length (.int .u8 (x : Int))) 5 fr) := by
      simp [World.setCells, World.setCell, Array.getElem?_modify, hg]
    refine ⟨.slice (some ⟨g, 0, none⟩) (l.length + 1) cap, V.setCells g l.length [.int .u8 (x : Int)], ?_, ?_, ?_⟩
    · rw [hsz] at hfc
      simp [Builtin.append_, run_underlying und27, sizeOf, typeInfo, hi, Builtin.lenOf, hroom, hfc, Addr.add_lit, hsz]
      simp only [Nat.add_zero] at hst
      rw [hst]
      rfl
    · refine ⟨g, cap, _, fr, by simp, hb, hcell, hf, by simpa using hs, by simpa using hroom, hm, ?_⟩
      rw [Array.toList_setIfInBounds, List.length_append, List.length_singleton, U8_append, ← ht]
      apply List.ext_getElem?
      intro j
      have hcl : cs.toList.length = cap := by simpa using hs
      rw [List.getElem?_take]
      by_cases hj : j < l.length
      · rw [if_pos (by omega), List.getElem?_set_ne (by omega), List.getElem?_append_left (by rw [List.length_take]; omega), List.getElem?_take, if_pos hj]
      · by_cases hj2 : j = l.length
        · subst hj2
          rw [if_pos (by omega), List.getElem?_set_self (by omega), List.getElem?_append_right (by rw [List.length_take]; omega), List.length_take, show l.length - min l.length cs.toList.length = 0 by omega]
          rfl
        · rw [if_neg (by omega), List.getElem?_append_right (by rw [List.length_take]; omega), List.length_take, List.getElem?_eq_none]
          simp [U8]; omega
    · exact below_setCells g hb _ _ _ (Below.refl _ _)
  · have holds : ∀ j u, (U8 l)[j]? = some u → V.cell? ((⟨g, 0, none⟩ : Addr).add j) = some u := fun j u hu => by
      obtain ⟨g', cap', e, _, _, hr, _⟩ := OwnB.cell (base := base) (V := V) (l := l) ⟨g, cap, cs, fr, rfl, hb, hg, hf, hs, hl, hm, ht⟩
      injection e with e1 e2 e3
      injection e1 with e1
      injection e1 with e1
      subst e1
      have := hr j u hu
      rw [show (⟨g, 0, none⟩ : Addr).add j = ⟨g, 0 + j, none⟩ from by unfold Addr.add; split <;> simp_all]
      exact this
    have hr := run_append_grow (P := Tryz.prog) V 65 ty 5 i _ und27 hi hz ⟨g, 0, none⟩ l.length cap (U8 l) (by simp [hsz]) holds ad 1 c [.int .u8 (x : Int)] (by simp [hsz]) hnews (by omega) (by omega) (growslice_fits (by omega) (by rw [hby]; omega))
    have hge := grownCap_ge V (l.length + 1) cap 5
    have hcm := grownCap_le_maxLen V (l.length + 1) cap 5 (by unfold maxLen; omega)
    refine ⟨_, _, hr, ?_, ?_⟩
    · refine ⟨V.heap.size, grownCap V (l.length + 1) cap 5, _, (0, 0), by simp, hB, heap_alloc_new V.drew _, fun j _ h => by simp at h, ?_, by simpa using hge, hcm, ?_⟩
      · simp only [Array.size_append, List.size_toArray, U8_length, size_zeroCells, Value.cells]
        simp; omega
      · rw [U8_append]
        simp only [Array.toList_append, List.append_assoc]
        rw [← List.append_assoc, show (l ++ [x]).length = (U8 l ++ [Value.int .u8 (x : Int)]).length by simp]
        exact List.take_left
    · exact ((Below.refl _ _).drew).alloc (by simpa using hB) _
theorem OwnB.kept {base : Nat} {V V' : World} {v : Value} {l : List Nat} (h : OwnB base V v l) (k : Below V.heap.size V V') : OwnB base V' v l := by
  obtain ⟨g, cap, cs, fr, rfl, hb, hg, r⟩ := h
  exact ⟨g, cap, cs, fr, rfl, hb, (k.block g (Array.getElem?_eq_some_iff.1 hg).1).trans hg, r⟩
end Go.Proofs.YtooeahpkhocaeaaGreatDoor
/- The document's own Of: its code, its types, its callees. No condition. -/
namespace Go.Proofs.YtooeahpkhocaeaaGreatDoor
open Go.RowKit
set_option maxRecDepth 100000

noncomputable def ofBlk (id : Nat) : Code := ((Tryz.f63.body.bind (blockIn id)).getD .skip)
noncomputable def ofReg (id : Nat) : Code := ((Tryz.f63.body.bind (regionIn id)).getD .skip)
abbrev tyByte : TypeId := 5
abbrev tyU64 : TypeId := 44
theorem infByteS : (Tryz.prog.info? 5).map (·.size) = some 1 := by kernel_rfl
theorem undU64s : Tryz.prog.underlying 113 = some (.slice 44) := by kernel_rfl
theorem infU64 : (Tryz.prog.info? 44).map (·.size) = some 1 := by kernel_rfl
theorem infU64b : (Tryz.prog.info? 44).map (fun i => (i.zero, i.size, i.bytes)) = some (some (.int .u64 0), 1, 8) := by kernel_rfl
theorem goesTwo : Goes Tryz.prog 79 := goes_of Tryz.func79 (by kernel_rfl) rfl
theorem goesConstants : Goes Tryz.prog 80 := goes_of Tryz.func80 (by kernel_rfl) rfl
theorem goesCut : Goes Tryz.prog 81 := goes_of Tryz.func81 (by kernel_rfl) rfl
theorem goesTurn : Goes Tryz.prog 82 := goes_of Tryz.func82 (by kernel_rfl) rfl
theorem turn_run {L : List (Nat × Value)} {V w : World} {ty : TypeId} {ts : Array TypeId} {X Y : Operand} {x : Nat} {i : Int} (m : Nat) (hw : Drawn V w) (hx : vals L X = some (.int .u64 (x : Int))) (hy : vals L Y = some (.int .i64 i)) (hi : i = (m : Int)) (hl : x < 4294967296) (h1 : 1 ≤ m) (h2 : m ≤ 31) :
    Runs Tryz.prog (.call { callee := .value (.func 82), args := #[X, Y], argTypes := ts }) ty L w (fun v w' => v = .int .u64 ((Sha.rotr m x : Nat) : Int) ∧ Drawn V w') := by
  subst hi
  refine runs_call (args := [.int .u64 (x : Int), .int .i64 (m : Int)]) goesTurn (by simp [hx, hy]) ?_
  refine (turn_any x m hl h1 h2 w).mono ?_
  rintro e w' ⟨rfl, k, rfl⟩
  exact ⟨_, rfl, rfl, hw.trans ⟨k, rfl⟩⟩
theorem cut_run {L : List (Nat × Value)} {V w : World} {ty : TypeId} {ts : Array TypeId} {X : Operand} {x : Nat} (hw : Drawn V w) (hx : vals L X = some (.int .u64 (x : Int))) :
    Runs Tryz.prog (.call { callee := .value (.func 81), args := #[X], argTypes := ts }) ty L w (fun v w' => v = .int .u64 ((x % 4294967296 : Nat) : Int) ∧ Drawn V w') := by
  refine runs_call (args := [.int .u64 (x : Int)]) goesCut (by simp [hx]) ?_
  refine (cut_any x w).mono ?_
  rintro e w' ⟨rfl, rfl⟩
  exact ⟨_, rfl, rfl, hw⟩
end Go.Proofs.YtooeahpkhocaeaaGreatDoor
