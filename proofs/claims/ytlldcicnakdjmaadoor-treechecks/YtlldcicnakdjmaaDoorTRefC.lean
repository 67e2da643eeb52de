/- The document's own Deep, up, Check. Conditions: at most 40 sums, a leaf of at most 900 bytes. -/
import Derived.Test.YtlldcicnakdjmaaDoorTRefB
namespace Go.Proofs.YtlldcicnakdjmaaDoor
open Go.RowKit

theorem goes25 : Goes Tryd.prog 25 := goes_of Tryd.func25 (by kernel_rfl) rfl
theorem goes26 : Goes Tryd.prog 26 := goes_of Tryd.func26 (by kernel_rfl) rfl
theorem goes29 : Goes Tryd.prog 29 := goes_of Tryd.func29 (by kernel_rfl) rfl
theorem goes30 : Goes Tryd.prog 30 := goes_of Tryd.func30 (by kernel_rfl) rfl
theorem goes47 : Goes Tryd.prog 47 := goes_of Tryd.func47 (by kernel_rfl) rfl
def shift (s : Nat) (x : Nat × Nat × Bool) : Nat × Nat × Bool := (x.1 + s, x.2.1 + s, x.2.2)
theorem path_shift (s : Nat) : ∀ (n first at_ : Nat), Tree.path (first + s) n (at_ + s) = (Tree.path first n at_).map (shift s) := by
  intro n
  induction n using Nat.strongRecOn with
  | _ n ih =>
    intro first at_
    by_cases h : n < 2
    · rw [Tree.path_small h, Tree.path_small h]; rfl
    · have h1 := Tree.half_lt (n := n) (by omega)
      have h2 := Tree.half_pos n
      by_cases ha : at_ < first + Tree.half n
      · rw [Tree.path_left (by omega) ha, Tree.path_left (by omega) (show at_ + s < first + s + Tree.half n by omega), ih _ h1, List.map_append]
        simp [shift, Nat.add_right_comm]
      · rw [Tree.path_right (by omega) ha, Tree.path_right (by omega) (show ¬ at_ + s < first + s + Tree.half n by omega), show first + s + Tree.half n = first + Tree.half n + s by omega, ih _ (by omega), List.map_append]
        simp [shift]
theorem path_one {n at_ : Nat} (h : 2 ≤ n) : 0 < (Tree.path 0 n at_).length := by
  by_cases ha : at_ < 0 + Tree.half n
  · rw [Tree.path_left h ha]; simp
  · rw [Tree.path_right h ha]; simp
theorem path_l {n p : Nat} (h : 2 ≤ n) (hp : p < Tree.half n) : Tree.path 0 n p = Tree.path 0 (Tree.half n) p ++ [(Tree.half n, n, false)] := by
  rw [Tree.path_left h (by omega), Nat.zero_add, Nat.zero_add]
theorem path_r {n p : Nat} (h : 2 ≤ n) (hp : ¬ p < Tree.half n) : Tree.path 0 n p = (Tree.path 0 (n - Tree.half n) (p - Tree.half n)).map (shift (Tree.half n)) ++ [(0, Tree.half n, true)] := by
  rw [Tree.path_right h (by omega), ← path_shift, Nat.zero_add, show p - Tree.half n + Tree.half n = p by omega]
theorem deepZ_nat {m p : Nat} (hm : m ≤ 1073741824) (hp : p < m) : deepZ (m : Int) (p : Int) = (Tree.path 0 m p).length := by
  unfold deepZ
  rw [if_neg (by simp [thereB]; omega)]
  simp
noncomputable def reg30 (id : Nat) : Code := ((Tryd.f30.body.bind (regionIn id)).getD .skip)
def outD (n at_ : Int) : Bool := decide (n > 1073741824) || decide (at_ < 0) || decide (at_ ≥ n) || decide (n = 1)
theorem test30 (N R : Act → World → Prop) (X : Nat → Act → World → Prop) (n at_ : Int) (w : World) (a : Act) (hS : Sees 38 [(0, .int .i64 n), (1, .int .i64 at_)] a) (h : ∀ a', Sees 38 [(20, .bool (outD n at_)), (0, .int .i64 n), (1, .int .i64 at_)] a' → N a' w) : (reg30 1).wp Tryd.prog (Qx N X R) a w := by
  refine reg_seq ?_
  refine seq_is hS (by decide) (runs_move rfl) (fun a1 hS => ?_)
  by_cases h1 : n > 1073741824
  · rw [show outD n at_ = true by simp [outD, h1]] at h
    refine seq_is hS (by decide) (runs_gtr (r := true) rfl rfl (by simpa using h1)) (fun a1 hS => ?_)
    refine seq_is hS (by decide) (runs_move rfl) (fun a1 hS => ?_)
    refine seq_no hS (by decide) rfl (by decide) rfl rfl (fun a1 hS => ?_)
    refine seq_no hS (by decide) rfl (by decide) rfl rfl (fun a1 hS => ?_)
    refine seq_is hS (by decide) (runs_pick rfl rfl) (fun a1 hS => ?_)
    refine seq_is hS (by decide) (runs_move rfl) (fun a1 hS => ?_)
    refine seq_no hS (by decide) rfl (by decide) rfl rfl (fun a1 hS => ?_)
    refine seq_no hS (by decide) rfl (by decide) rfl rfl (fun a1 hS => ?_)
    refine seq_no hS (by decide) rfl (by decide) rfl rfl (fun a1 hS => ?_)
    refine seq_is hS (by decide) (runs_pick rfl rfl) (fun a1 hS => ?_)
    refine seq_is hS (by decide) (runs_move rfl) (fun a1 hS => ?_)
    refine seq_no hS (by decide) rfl (by decide) rfl rfl (fun a1 hS => ?_)
    refine seq_no hS (by decide) rfl (by decide) rfl rfl (fun a1 hS => ?_)
    refine seq_is hS (by decide) (runs_pick rfl rfl) (fun a1 hS => ?_)
    exact nil_ok (h _ (hS.only _ ⟨rfl, rfl, rfl, trivial⟩))
  · refine seq_is hS (by decide) (runs_gtr (r := false) rfl rfl (by simpa using h1)) (fun a1 hS => ?_)
    refine seq_is hS (by decide) (runs_move rfl) (fun a1 hS => ?_)
    refine seq_yis hS (by decide) rfl (by decide) rfl (runs_move rfl) (fun a1 hS => ?_)
    by_cases h2 : at_ < 0
    · rw [show outD n at_ = true by simp [outD, h2]] at h
      refine seq_yis hS (by decide) rfl (by decide) rfl (runs_lss (r := true) rfl rfl (by simpa using h2)) (fun a1 hS => ?_)
      refine seq_is hS (by decide) (runs_pick rfl rfl) (fun a1 hS => ?_)
      refine seq_is hS (by decide) (runs_move rfl) (fun a1 hS => ?_)
      refine seq_no hS (by decide) rfl (by decide) rfl rfl (fun a1 hS => ?_)
      refine seq_no hS (by decide) rfl (by decide) rfl rfl (fun a1 hS => ?_)
      refine seq_no hS (by decide) rfl (by decide) rfl rfl (fun a1 hS => ?_)
      refine seq_is hS (by decide) (runs_pick rfl rfl) (fun a1 hS => ?_)
      refine seq_is hS (by decide) (runs_move rfl) (fun a1 hS => ?_)
      refine seq_no hS (by decide) rfl (by decide) rfl rfl (fun a1 hS => ?_)
      refine seq_no hS (by decide) rfl (by decide) rfl rfl (fun a1 hS => ?_)
      refine seq_is hS (by decide) (runs_pick rfl rfl) (fun a1 hS => ?_)
      exact nil_ok (h _ (hS.only _ ⟨rfl, rfl, rfl, trivial⟩))
    · refine seq_yis hS (by decide) rfl (by decide) rfl (runs_lss (r := false) rfl rfl (by simpa using h2)) (fun a1 hS => ?_)
      refine seq_is hS (by decide) (runs_pick rfl rfl) (fun a1 hS => ?_)
      refine seq_is hS (by decide) (runs_move rfl) (fun a1 hS => ?_)
      refine seq_yis hS (by decide) rfl (by decide) rfl (runs_move rfl) (fun a1 hS => ?_)
      refine seq_yis hS (by decide) rfl (by decide) rfl (runs_move rfl) (fun a1 hS => ?_)
      by_cases h3 : at_ ≥ n
      · rw [show outD n at_ = true by simp [outD, h3]] at h
        refine seq_yis hS (by decide) rfl (by decide) rfl (runs_geq (r := true) rfl rfl (by simpa using h3)) (fun a1 hS => ?_)
        refine seq_is hS (by decide) (runs_pick rfl rfl) (fun a1 hS => ?_)
        refine seq_is hS (by decide) (runs_move rfl) (fun a1 hS => ?_)
        refine seq_no hS (by decide) rfl (by decide) rfl rfl (fun a1 hS => ?_)
        refine seq_no hS (by decide) rfl (by decide) rfl rfl (fun a1 hS => ?_)
        refine seq_is hS (by decide) (runs_pick rfl rfl) (fun a1 hS => ?_)
        exact nil_ok (h _ (hS.only _ ⟨rfl, rfl, rfl, trivial⟩))
      · rw [show outD n at_ = decide (n = 1) by simp [outD, h1, h2, h3]] at h
        refine seq_yis hS (by decide) rfl (by decide) rfl (runs_geq (r := false) rfl rfl (by simpa using h3)) (fun a1 hS => ?_)
        refine seq_is hS (by decide) (runs_pick rfl rfl) (fun a1 hS => ?_)
        refine seq_is hS (by decide) (runs_move rfl) (fun a1 hS => ?_)
        refine seq_yis hS (by decide) rfl (by decide) rfl (runs_move rfl) (fun a1 hS => ?_)
        refine seq_yis hS (by decide) rfl (by decide) rfl (runs_eql (r := decide (n = 1)) rfl rfl (by rw [Bool.eq_iff_iff, beq_iff_eq, decide_eq_true_eq])) (fun a1 hS => ?_)
        refine seq_is hS (by decide) (runs_pick rfl rfl) (fun a1 hS => ?_)
        exact nil_ok (h _ (hS.only _ ⟨rfl, rfl, rfl, trivial⟩))
theorem refDeep_any : ∀ (k : Nat) (n at_ : Int) (w : World), n.toNat = k → Calls Tryd.prog 30 [Value.int .i64 n, .int .i64 at_].toArray w fun e w' => ∃ v, e = .returned v ∧ Is (.int .i64 ((deepZ n at_ : Nat) : Int)) w v w' := by
  intro k
  induction k using Nat.strongRecOn with
  | _ k ih =>
    intro n at_ w hk
    refine calls_qx (args := [.int .i64 n, .int .i64 at_]) 38 Tryd.func30 rfl (by kernel_rfl) (by simp) (fun a hS => ?_)
    refine qx_seq (reg_seq ?_)
    refine seq_is hS (by decide) (runs_assign rfl) (fun a1 hS => ?_)
    refine nil_ok (qx_seq (qx_seq (test30 _ _ _ n at_ w a1 (hS.only _ ⟨rfl, rfl, trivial⟩) (fun a2 hS => ?_))))
    cases ho : outD n at_ with
    | true =>
      rw [ho] at hS
      have hdz : deepZ n at_ = 0 := by
        simp only [outD, Bool.or_eq_true, decide_eq_true_eq] at ho
        unfold deepZ
        by_cases h1 : n = 1
        · subst h1
          split
          · rfl
          · rw [show (1 : Int).toNat = 1 from rfl, Tree.path_small (by omega)]; rfl
        · rw [if_pos ?_]
          by_cases h2 : n > 1073741824
          · exact .inl h2
          · right
            simp only [thereB, Bool.and_eq_false_iff, decide_eq_false_iff_not]
            omega
      refine wp_cond_true (hS.eval rfl) (qx_seq (reg_seq ?_))
      refine seq_is hS (by decide) (runs_assign rfl) (fun a1 hS => ?_)
      exact nil_ok (qx_ret (ret1 (t := 4) (by kernel_rfl) hS rfl ⟨_, rfl, by rw [hdz]; rfl, rfl⟩))
    | false =>
      rw [ho] at hS
      simp only [outD, Bool.or_eq_false_iff, decide_eq_false_iff_not] at ho
      obtain ⟨m, rfl⟩ := Int.eq_ofNat_of_zero_le (show 0 ≤ n by omega)
      obtain ⟨p, rfl⟩ := Int.eq_ofNat_of_zero_le (show 0 ≤ at_ by omega)
      have hm2 : 2 ≤ m := by omega
      have hpm : p < m := by omega
      have hmm : m ≤ 1073741824 := by omega
      have hhl := Tree.half_lt hm2
      have hhp := Tree.half_pos m
      have hlen : (Tree.path 0 m p).length ≤ 30 := path_len 30 m 0 p (by omega)
      rw [Int.toNat_natCast] at hk
      refine wp_cond_false (hS.eval rfl) (wp_skip ?_)
      refine qx_seq (reg_seq ?_)
      refine seq_is hS (by decide) (runs_move rfl) (fun a1 hS => ?_)
      refine seq_is hS (by decide) (runs_call (args := [.int .i64 (m : Int)]) goes41 rfl (refHalf_any m w hm2 (by omega))) (fun a1 hS => ?_)
      refine seq_is hS (by decide) (runs_assign rfl) (fun a1 hS => ?_)
      refine nil_ok (qx_seq (qx_seq (reg_seq ?_)))
      refine seq_is hS (by decide) (runs_move rfl) (fun a1 hS => ?_)
      refine seq_is hS (by decide) (runs_move rfl) (fun a1 hS => ?_)
      by_cases hp : p < Tree.half m
      · have hc := ih (Tree.half m) (by omega) ((Tree.half m : Nat) : Int) (p : Int) w (by simp)
        rw [deepZ_nat (by omega) hp] at hc
        have hd : deepZ (m : Int) (p : Int) = (Tree.path 0 (Tree.half m) p).length + 1 := by rw [deepZ_nat hmm hpm, path_l hm2 hp]; simp
        rw [deepZ_nat hmm hpm] at hd
        refine seq_is hS (by decide) (runs_lss (r := true) rfl rfl (by rw [decide_eq_true_eq]; omega)) (fun a1 hS => ?_)
        refine nil_ok (wp_cond_true (hS.eval rfl) (qx_seq (reg_seq ?_)))
        refine seq_is hS (by decide) (runs_move rfl) (fun a1 hS => ?_)
        refine seq_is hS (by decide) (runs_move rfl) (fun a1 hS => ?_)
        refine seq_is hS (by decide) (runs_call (args := [.int .i64 ((Tree.half m : Nat) : Int), .int .i64 (p : Int)]) goes30 rfl hc) (fun a1 hS => ?_)
        refine seq_is hS (by decide) (runs_add rfl rfl ((IntWalk.i64_in _ (by omega)).trans (show _ = ((deepZ (m : Int) (p : Int) : Nat) : Int) by rw [deepZ_nat hmm hpm]; omega))) (fun a1 hS => ?_)
        refine seq_is hS (by decide) (runs_assign rfl) (fun a1 hS => ?_)
        exact nil_ok (qx_ret (ret1 (t := 4) (by kernel_rfl) hS rfl ⟨_, rfl, rfl, rfl⟩))
      · have hc := ih (m - Tree.half m) (by omega) ((m - Tree.half m : Nat) : Int) ((p - Tree.half m : Nat) : Int) w (by simp)
        rw [deepZ_nat (by omega) (by omega)] at hc
        have hd : (Tree.path 0 m p).length = (Tree.path 0 (m - Tree.half m) (p - Tree.half m)).length + 1 := by rw [path_r hm2 hp]; simp
        refine seq_is hS (by decide) (runs_lss (r := false) rfl rfl (by rw [decide_eq_false_iff_not]; omega)) (fun a1 hS => ?_)
        refine nil_ok (wp_cond_false (hS.eval rfl) (wp_skip (qx_seq (reg_seq ?_))))
        refine seq_is hS (by decide) (runs_move rfl) (fun a1 hS => ?_)
        refine seq_is hS (by decide) (runs_move rfl) (fun a1 hS => ?_)
        refine seq_is hS (by decide) (runs_sub rfl rfl ((IntWalk.i64_in _ (by omega)).trans (show _ = ((m - Tree.half m : Nat) : Int) by omega))) (fun a1 hS => ?_)
        refine seq_is hS (by decide) (runs_move rfl) (fun a1 hS => ?_)
        refine seq_is hS (by decide) (runs_move rfl) (fun a1 hS => ?_)
        refine seq_is hS (by decide) (runs_sub rfl rfl ((IntWalk.i64_in _ (by omega)).trans (show _ = ((p - Tree.half m : Nat) : Int) by omega))) (fun a1 hS => ?_)
        refine seq_is hS (by decide) (runs_call (args := [.int .i64 ((m - Tree.half m : Nat) : Int), .int .i64 ((p - Tree.half m : Nat) : Int)]) goes30 rfl hc) (fun a1 hS => ?_)
        refine seq_is hS (by decide) (runs_add rfl rfl ((IntWalk.i64_in _ (by omega)).trans (show _ = ((deepZ (m : Int) (p : Int) : Nat) : Int) by rw [deepZ_nat hmm hpm]; omega))) (fun a1 hS => ?_)
        refine seq_is hS (by decide) (runs_assign rfl) (fun a1 hS => ?_)
        exact nil_ok (qx_ret (ret1 (t := 4) (by kernel_rfl) hS rfl ⟨_, rfl, rfl, rfl⟩))
/- up -/
theorem ups_take : ∀ (xs : List (Nat × Nat × Bool)) (hs : List (List Nat)) (t : List Nat) (n : Nat), xs.length ≤ n → ups t xs (hs.take n) = ups t xs hs
  | [], _, _, _, _ => rfl
  | _ :: _, [], _, _, _ => by simp
  | x :: xs, h :: hs, t, n + 1, hl => by
    rw [List.take_succ_cons, ups, ups]
    exact ups_take xs hs _ n (by simpa using hl)
theorem ups_shift (s : Nat) : ∀ (xs : List (Nat × Nat × Bool)) (hs : List (List Nat)) (t : List Nat), ups t (xs.map (shift s)) hs = ups t xs hs
  | [], _, _ => rfl
  | _ :: _, [], _ => rfl
  | x :: xs, h :: hs, t => by
    rw [List.map_cons, ups, ups]
    exact ups_shift s xs hs _
theorem hashes_take {w : World} {b o c : Nat} {hs : List (List Nat)} (h : Hashes w (.slice (some ⟨b, o, none⟩) hs.length c) hs) (hb : b < w.heap.size) (hr : w.rangeAt b o (U8 hs.flatten)) (n : Nat) (hn : n ≤ hs.length) : Hashes w (.slice (some ⟨b, o, none⟩) n c) (hs.take n) := by
  obtain ⟨A, c', hv, h1, h2, h3, _⟩ := h
  simp only [Value.slice.injEq] at hv
  obtain ⟨_, _, rfl⟩ := hv
  have hl : (hs.take n).length = n := by simp; omega
  refine ⟨_, c, by rw [hl], by omega, h2, fun h hh => h3 h (List.mem_of_mem_take hh), fun _ => ⟨b, o, rfl, hb, fun j v hv => hr j v ?_⟩⟩
  have hsp : hs.flatten = (hs.take n).flatten ++ (hs.drop n).flatten := by rw [← List.flatten_append, List.take_append_drop]
  rw [hsp]
  unfold U8 at hv ⊢
  rw [List.map_append, List.getElem?_append_left (List.getElem?_eq_some_iff.1 hv).1]
  exact hv
theorem hash_mid {w : World} {b o : Nat} {hs : List (List Nat)} (hra : w.rangeAt b o (U8 hs.flatten)) (hok : ∀ h ∈ hs, h.length = 32 ∧ Sha.Bytes h) (i : Nat) (hi : i < hs.length) : w.rangeAt b (o + i * 32) (U8 (hs.getD i [])) := by
  have h1 := range_sub hra (32 * i) 32
  have h2 := flatten_get hs i (fun h hh => (hok h hh).1) hi
  have h3 : ((U8 hs.flatten).drop (32 * i)).take 32 = U8 (hs.getD i []) := by rw [← h2]; simp [U8, List.map_take, List.map_drop]
  rw [h3, show 32 * i = i * 32 by omega] at h1
  exact h1
/-- What comes of the way up. -/
def UpOk (s : List Nat) (m p : Nat) (hs : List (List Nat)) (t : ByteArray) : Prop := t.size ≤ 32 ∧ (hs.length = (Tree.path 0 m p).length → t = S (ups (Tree.leaf s) (Tree.path 0 m p) hs))
def upB (m p : Nat) (hs : List (List Nat)) : Bool := hs.length == (Tree.path 0 m p).length
set_option maxRecDepth 100000 in
set_option maxHeartbeats 2000000 in
theorem refUp_any (s : ByteArray) (hsz : s.size ≤ 900) : ∀ (m p : Nat) (pv : Value) (hs : List (List Nat)) (w : World), p < m → m ≤ 1073741824 → Hashes w pv hs → hs.length ≤ 1000 →
    Calls Tryd.prog 47 [Value.int .i64 (m : Int), .int .i64 (p : Int), .string s, pv].toArray w fun e w' => ∃ v, e = .returned v ∧ (∃ t, v = .tuple #[.string t, .bool (upB m p hs)] ∧ UpOk (bl s) m p hs t) ∧ Below w.heap.size w w' := by
  intro m
  induction m using Nat.strongRecOn with
  | _ m ih =>
    intro p pv hs w hp hm hH hl
    refine calls_qx (args := [.int .i64 (m : Int), .int .i64 (p : Int), .string s, pv]) 75 Tryd.func47 rfl (by kernel_rfl) (by simp) (fun a hS => ?_)
    have hH0 := hH
    obtain ⟨A, c, rfl, hc1, hc2, hok, hA⟩ := hH0
    refine qx_seq (reg_seq ?_)
    refine seq_is hS (by decide) (runs_assign rfl) (fun a1 hS => ?_)
    refine seq_is hS (by decide) (runs_assign rfl) (fun a1 hS => ?_)
    refine nil_ok (qx_seq (qx_seq (reg_seq ?_)))
    refine seq_is hS (by decide) (runs_move rfl) (fun a1 hS => ?_)
    by_cases h1 : m = 1
    · have hpt : Tree.path 0 m p = [] := Tree.path_small (by omega)
      refine seq_is hS (by decide) (runs_eql (r := true) rfl rfl (by rw [h1]; rfl)) (fun a1 hS => ?_)
      refine nil_ok (wp_cond_true (hS.eval rfl) (qx_seq (reg_seq ?_)))
      refine seq_is hS (by decide) (runs_move rfl) (fun a1 hS => ?_)
      refine seq_op hS (by decide) (runs_call (args := [.string s]) goes38 rfl (str_post (fun w' => Below w.heap.size w w') (refLeaf_any s w hsz) (fun _ h => h))) (fun v1 w1 a1 hp1 hS => ?_)
      obtain ⟨rfl, hB1⟩ := hp1
      refine seq_is hS (by decide) (runs_move rfl) (fun a1 hS => ?_)
      refine seq_is hS (by decide) (runs_len rfl undHashes) (fun a1 hS => ?_)
      refine seq_is hS (by decide) (runs_eql (r := upB m p hs) rfl rfl (by rw [upB, hpt, Bool.eq_iff_iff, beq_iff_eq, beq_iff_eq, List.length_nil]; omega)) (fun a1 hS => ?_)
      refine seq_is hS (by decide) (runs_assign rfl) (fun a1 hS => ?_)
      refine seq_is hS (by decide) (runs_assign rfl) (fun a1 hS => ?_)
      exact nil_ok (qx_ret (ret2 (t := 8) (u := 9) (by kernel_rfl) hS rfl rfl ⟨_, rfl, ⟨_, rfl, by rw [S_size, Tree.leaf_len]; omega, fun _ => by rw [hpt]; rfl⟩, hB1⟩))
    · have hm2 : 2 ≤ m := by omega
      have hpo := path_one (at_ := p) hm2
      refine seq_is hS (by decide) (runs_eql (r := false) rfl rfl (by rw [beq_eq_false_iff_ne]; omega)) (fun a1 hS => ?_)
      refine nil_ok (wp_cond_false (hS.eval rfl) (wp_skip ?_))
      refine qx_seq (qx_seq (reg_seq ?_))
      refine seq_is hS (by decide) (runs_move rfl) (fun a1 hS => ?_)
      refine seq_is hS (by decide) (runs_len rfl undHashes) (fun a1 hS => ?_)
      by_cases h0 : hs.length = 0
      · refine seq_is hS (by decide) (runs_eql (r := true) rfl rfl (by rw [h0]; rfl)) (fun a1 hS => ?_)
        refine nil_ok (wp_cond_true (hS.eval rfl) (qx_seq (reg_seq ?_)))
        refine seq_is hS (by decide) (runs_assign rfl) (fun a1 hS => ?_)
        refine seq_is hS (by decide) (runs_assign rfl) (fun a1 hS => ?_)
        have hub : upB m p hs = false := by rw [upB, h0, beq_eq_false_iff_ne]; omega
        exact nil_ok (qx_ret (ret2 (t := 8) (u := 9) (by kernel_rfl) hS rfl rfl ⟨_, rfl, ⟨_, by rw [hub], by decide, fun h => by omega⟩, Below.refl _ _⟩))
      · refine seq_is hS (by decide) (runs_eql (r := false) rfl rfl (by rw [beq_eq_false_iff_ne]; omega)) (fun a1 hS => ?_)
        refine nil_ok (wp_cond_false (hS.eval rfl) (wp_skip ?_))
        obtain ⟨b, o, rfl, hb, hra⟩ := hA (by omega)
        have hhl := Tree.half_lt hm2
        have hhp := Tree.half_pos m
        obtain ⟨n, hn⟩ : ∃ n, hs.length = n + 1 := ⟨hs.length - 1, by omega⟩
        obtain ⟨x, hx⟩ : ∃ x, x = hs.getD n [] := ⟨_, rfl⟩
        have hxm : x ∈ hs := by
          rw [hx, List.getD_eq_getElem?_getD, List.getElem?_eq_getElem (by omega)]
          exact List.getElem_mem (by omega)
        obtain ⟨hxl, hxb⟩ := hok x hxm
        have hrx : w.rangeAt b (o + n * 32) (U8 x) := by rw [hx]; exact hash_mid hra hok n (by omega)
        have hHt := hashes_take hH hb hra n (by omega)
        have htl : (hs.take n).length = n := by simp; omega
        refine qx_seq (reg_seq ?_)
        refine seq_is hS (by decide) (runs_move rfl) (fun a1 hS => ?_)
        refine seq_is hS (by decide) (runs_call (args := [.int .i64 (m : Int)]) goes41 rfl (refHalf_any m w hm2 (by omega))) (fun a1 hS => ?_)
        refine seq_is hS (by decide) (runs_assign rfl) (fun a1 hS => ?_)
        refine nil_ok (qx_seq (reg_seq ?_))
        refine seq_is hS (by decide) (runs_move rfl) (fun a1 hS => ?_)
        refine seq_is hS (by decide) (runs_move rfl) (fun a1 hS => ?_)
        refine seq_is hS (by decide) (runs_len rfl undHashes) (fun a1 hS => ?_)
        refine seq_is hS (by decide) (runs_sub rfl rfl ((IntWalk.i64_in _ (by omega)).trans (show _ = (n : Int) by omega))) (fun a1 hS => ?_)
        refine seq_is hS (by decide) (runs_indexAddrN (j := n) rfl rfl undHashes infHash rfl (by omega)) (fun a1 hS => ?_)
        refine seq_is hS (by decide) (runs_loadMid rfl hrx undHash rfl (by rw [infHash, U8_length, hxl])) (fun a1 hS => ?_)
        refine seq_op hS (by decide) alloc_hash (fun v2 w1 a1 hp1 hS => ?_)
        obtain ⟨rfl, rfl⟩ := hp1
        have hH1 := Has.new w 26 (U8 (List.replicate 32 0))
        have hB1 : Below w.heap.size w (w.alloc (.cells (U8 (List.replicate 32 0)).toArray 26)) := (Below.refl _ _).alloc (Nat.le_refl _) _
        generalize w.alloc (.cells (U8 (List.replicate 32 0)).toArray 26) = w1 at *
        refine seq_none hS (runs_storeRow rfl rfl hH1 (by simp [hxl]) (agg_all _) (by rw [infHash]; simp [hxl])) (fun v3 w2 a2 hp2 hS => ?_)
        obtain ⟨rfl, rfl⟩ := hp2
        have hX2 := has_setRow (cs := U8 x) hH1
        have hB2 : Below w.heap.size w (w1.setRow w.heap.size (U8 x).toArray) := below_row hB1 (Nat.le_refl _) _
        generalize w1.setRow w.heap.size (U8 x).toArray = w2 at *
        refine nil_ok (qx_seq (qx_seq (reg_seq ?_)))
        refine seq_is hS (by decide) (runs_move rfl) (fun a1 hS => ?_)
        refine seq_is hS (by decide) (runs_move rfl) (fun a1 hS => ?_)
        by_cases hph : p < Tree.half m
        · have hpath := path_l hm2 hph
          have hub : upB (Tree.half m) p (hs.take n) = upB m p hs := by
            rw [upB, upB, hpath, htl, hn, Bool.eq_iff_iff, beq_iff_eq, beq_iff_eq]; simp
          have hc := ih (Tree.half m) (by omega) p _ (hs.take n) w2 hph (by omega) (hHt.kept hB2) (by omega)
          rw [hub] at hc
          refine seq_is hS (by decide) (runs_lss (r := true) rfl rfl (by rw [decide_eq_true_eq]; omega)) (fun a1 hS => ?_)
          refine nil_ok (wp_cond_true (hS.eval rfl) (qx_seq (reg_seq ?_)))
          refine seq_is hS (by decide) (runs_move rfl) (fun a1 hS => ?_)
          refine seq_is hS (by decide) (runs_move rfl) (fun a1 hS => ?_)
          refine seq_is hS (by decide) (runs_move rfl) (fun a1 hS => ?_)
          refine seq_is hS (by decide) (runs_move rfl) (fun a1 hS => ?_)
          refine seq_is hS (by decide) (runs_move rfl) (fun a1 hS => ?_)
          refine seq_is hS (by decide) (runs_len rfl undHashes) (fun a1 hS => ?_)
          refine seq_is hS (by decide) (runs_sub rfl rfl ((IntWalk.i64_in _ (by omega)).trans (show _ = (n : Int) by omega))) (fun a1 hS => ?_)
          refine seq_is hS (by decide) (runs_sliceTo rfl rfl rfl undHashes rfl (by omega)) (fun a1 hS => ?_)
          refine seq_op hS (by decide) (runs_call (args := [.int .i64 ((Tree.half m : Nat) : Int), .int .i64 (p : Int), .string s, .slice (some ⟨b, o, none⟩) n c]) goes47 rfl hc) (fun v3 w3 a3 hp3 hS => ?_)
          obtain ⟨⟨t, rfl, ht1, ht2⟩, hB3⟩ := hp3
          refine seq_is hS (by decide) (runs_move rfl) (fun a1 hS => ?_)
          refine seq_is hS (by decide) (runs_extract rfl rfl) (fun a1 hS => ?_)
          refine seq_is hS (by decide) (runs_extract rfl rfl) (fun a1 hS => ?_)
          refine seq_is hS (by decide) (runs_assign rfl) (fun a1 hS => ?_)
          refine seq_is hS (by decide) (runs_assign rfl) (fun a1 hS => ?_)
          have hX3 := hX2.below hB3 hX2.lt
          have hnode := refNode_any t (S x) w3 (by rw [S_size]; omega)
          rw [bl_S hxb] at hnode
          refine nil_ok (qx_seq (reg_seq ?_))
          refine seq_is hS (by decide) (runs_move rfl) (fun a1 hS => ?_)
          refine seq_is hS (by decide) (runs_sliceArr rfl undHash infByte1) (fun a1 hS => ?_)
          refine seq_is hS (by decide) (runs_conv rfl (conv_range hX3.all 32 32 hxl)) (fun a1 hS => ?_)
          refine seq_op hS (by decide) (runs_call (args := [.string t, .string (S x)]) goes39 rfl (str_post (fun w' => Below w3.heap.size w3 w') hnode (fun _ h => h))) (fun v4 w4 a4 hp4 hS => ?_)
          obtain ⟨rfl, hB4⟩ := hp4
          refine seq_is hS (by decide) (runs_move rfl) (fun a1 hS => ?_)
          refine seq_is hS (by decide) (runs_assign rfl) (fun a1 hS => ?_)
          refine seq_is hS (by decide) (runs_assign rfl) (fun a1 hS => ?_)
          have hBw : Below w.heap.size w w4 := (hB2.trans (hB3.mono hB2.size)).trans (hB4.mono (Nat.le_trans hB2.size hB3.size))
          refine nil_ok (qx_ret (ret2 (t := 8) (u := 9) (by kernel_rfl) hS rfl rfl ⟨_, rfl, ⟨_, rfl, by rw [S_size, Tree.node_len]; omega, fun he => ?_⟩, hBw⟩))
          rw [hpath, List.length_append, List.length_singleton, hn] at he
          have hpl : (Tree.path 0 (Tree.half m) p).length = n := by omega
          have ht3 := ht2 (by rw [htl, hpl])
          rw [ups_take _ _ _ _ (by omega)] at ht3
          rw [hpath, ups_more _ _ _ _ (by omega), hpl, ← hx, ht3, bl_S (ups_bytes (Tree.leaf (bl s)) (sha_bytes _) _ _)]
          rfl
        · have hpath := path_r hm2 hph
          have hub : upB (m - Tree.half m) (p - Tree.half m) (hs.take n) = upB m p hs := by
            rw [upB, upB, hpath, htl, hn, Bool.eq_iff_iff, beq_iff_eq, beq_iff_eq]; simp
          have hc := ih (m - Tree.half m) (by omega) (p - Tree.half m) _ (hs.take n) w2 (by omega) (by omega) (hHt.kept hB2) (by omega)
          rw [hub] at hc
          refine seq_is hS (by decide) (runs_lss (r := false) rfl rfl (by rw [decide_eq_false_iff_not]; omega)) (fun a1 hS => ?_)
          refine nil_ok (wp_cond_false (hS.eval rfl) (wp_skip (qx_seq (reg_seq ?_))))
          refine seq_is hS (by decide) (runs_move rfl) (fun a1 hS => ?_)
          refine seq_is hS (by decide) (runs_move rfl) (fun a1 hS => ?_)
          refine seq_is hS (by decide) (runs_sub rfl rfl ((IntWalk.i64_in _ (by omega)).trans (show _ = ((m - Tree.half m : Nat) : Int) by omega))) (fun a1 hS => ?_)
          refine seq_is hS (by decide) (runs_move rfl) (fun a1 hS => ?_)
          refine seq_is hS (by decide) (runs_move rfl) (fun a1 hS => ?_)
          refine seq_is hS (by decide) (runs_sub rfl rfl ((IntWalk.i64_in _ (by omega)).trans (show _ = ((p - Tree.half m : Nat) : Int) by omega))) (fun a1 hS => ?_)
          refine seq_is hS (by decide) (runs_move rfl) (fun a1 hS => ?_)
          refine seq_is hS (by decide) (runs_move rfl) (fun a1 hS => ?_)
          refine seq_is hS (by decide) (runs_move rfl) (fun a1 hS => ?_)
          refine seq_is hS (by decide) (runs_len rfl undHashes) (fun a1 hS => ?_)
          refine seq_is hS (by decide) (runs_sub rfl rfl ((IntWalk.i64_in _ (by omega)).trans (show _ = (n : Int) by omega))) (fun a1 hS => ?_)
          refine seq_is hS (by decide) (runs_sliceTo rfl rfl rfl undHashes rfl (by omega)) (fun a1 hS => ?_)
          refine seq_op hS (by decide) (runs_call (args := [.int .i64 ((m - Tree.half m : Nat) : Int), .int .i64 ((p - Tree.half m : Nat) : Int), .string s, .slice (some ⟨b, o, none⟩) n c]) goes47 rfl hc) (fun v3 w3 a3 hp3 hS => ?_)
          obtain ⟨⟨t, rfl, ht1, ht2⟩, hB3⟩ := hp3
          refine seq_is hS (by decide) (runs_move rfl) (fun a1 hS => ?_)
          refine seq_is hS (by decide) (runs_extract rfl rfl) (fun a1 hS => ?_)
          refine seq_is hS (by decide) (runs_extract rfl rfl) (fun a1 hS => ?_)
          refine seq_is hS (by decide) (runs_assign rfl) (fun a1 hS => ?_)
          refine seq_is hS (by decide) (runs_assign rfl) (fun a1 hS => ?_)
          have hX3 := hX2.below hB3 hX2.lt
          have hnode := refNode_any (S x) t w3 (by rw [S_size]; omega)
          rw [bl_S hxb] at hnode
          refine nil_ok (qx_seq (reg_seq ?_))
          refine seq_is hS (by decide) (runs_sliceArr rfl undHash infByte1) (fun a1 hS => ?_)
          refine seq_is hS (by decide) (runs_conv rfl (conv_range hX3.all 32 32 hxl)) (fun a1 hS => ?_)
          refine seq_is hS (by decide) (runs_move rfl) (fun a1 hS => ?_)
          refine seq_op hS (by decide) (runs_call (args := [.string (S x), .string t]) goes39 rfl (str_post (fun w' => Below w3.heap.size w3 w') hnode (fun _ h => h))) (fun v4 w4 a4 hp4 hS => ?_)
          obtain ⟨rfl, hB4⟩ := hp4
          refine seq_is hS (by decide) (runs_move rfl) (fun a1 hS => ?_)
          refine seq_is hS (by decide) (runs_assign rfl) (fun a1 hS => ?_)
          refine seq_is hS (by decide) (runs_assign rfl) (fun a1 hS => ?_)
          have hBw : Below w.heap.size w w4 := (hB2.trans (hB3.mono hB2.size)).trans (hB4.mono (Nat.le_trans hB2.size hB3.size))
          refine nil_ok (qx_ret (ret2 (t := 8) (u := 9) (by kernel_rfl) hS rfl rfl ⟨_, rfl, ⟨_, rfl, by rw [S_size, Tree.node_len]; omega, fun he => ?_⟩, hBw⟩))
          rw [hpath, List.length_append, List.length_singleton, List.length_map, hn] at he
          have hpl : (Tree.path 0 (m - Tree.half m) (p - Tree.half m)).length = n := by omega
          have ht3 := ht2 (by rw [htl, hpl])
          rw [ups_take _ _ _ _ (by omega)] at ht3
          rw [hpath, ups_more _ _ _ _ (by rw [List.length_map]; omega), List.length_map, hpl, ← hx, ups_shift, ht3, bl_S (ups_bytes (Tree.leaf (bl s)) (sha_bytes _) _ _)]
          rfl
end Go.Proofs.YtlldcicnakdjmaaDoor
