/- The document's own Check. Conditions: at most 40 sums, a leaf of at most 900 bytes. -/
import Derived.Test.YtlldcicnakdjmaaDoorTRefC
namespace Go.Proofs.YtlldcicnakdjmaaDoor
open Go.RowKit

noncomputable def reg29 (id : Nat) : Code := ((Tryd.f29.body.bind (regionIn id)).getD .skip)
def outC (n at_ : Int) : Bool := decide (n > 1073741824) || decide (at_ < 0) || decide (at_ ≥ n)
theorem test29 (N R : Act → World → Prop) (X : Nat → Act → World → Prop) (n at_ : Int) (s p5 : Value) (A : Option Addr) (m c : Nat) (w : World) (a : Act) (hm : m ≤ 40) (hS : Sees 45 [(1, .int .i64 n), (2, .int .i64 at_), (3, s), (4, .slice A m c), (5, p5)] a)
    (h : ∀ a', Sees 45 [(28, .bool (outC n at_)), (1, .int .i64 n), (2, .int .i64 at_), (3, s), (4, .slice A m c), (5, p5)] a' → N a' w) : (reg29 1).wp Tryd.prog (Qx N X R) a w := by
  refine reg_seq ?_
  refine seq_is hS (by decide) (runs_move rfl) (fun a1 hS => ?_)
  by_cases h1 : n > 1073741824
  · rw [show outC n at_ = true by simp [outC, h1]] at h
    refine seq_is hS (by decide) (runs_gtr (r := true) rfl rfl (by simpa using h1)) (fun a1 hS => ?_)
    refine seq_is hS (by decide) (runs_move rfl) (fun a1 hS => ?_)
    refine seq_no hS (by decide) rfl (by decide) rfl rfl (fun a1 hS => ?_)
    refine seq_no hS (by decide) rfl (by decide) rfl rfl (fun a1 hS => ?_)
    refine seq_is hS (by decide) (runs_pick rfl rfl) (fun a1 hS => ?_)
    refine seq_is hS (by decide) (runs_move rfl) (fun a1 hS => ?_)
    refine seq_no hS (by decide) rfl (by decide) rfl rfl (fun a1 hS => ?_)
    refine seq_no hS (by decide) rfl (by decide) rfl rfl (fun a1 hS => ?_)
    refine seq_no hS (by decide) rfl (by decide) rfl rfl (fun a1 hS => ?_)
    refine seq_is hS (by decide) (runs_pick rfl rfl) (fun a1 hS => ?_)
    refine seq_is hS (by decide) (runs_move rfl) (fun a1 hS => ?_)
    refine seq_no hS (by decide) rfl (by decide) rfl rfl (fun a1 hS => ?_)
    refine seq_no hS (by decide) rfl (by decide) rfl rfl (fun a1 hS => ?_)
    refine seq_no hS (by decide) rfl (by decide) rfl rfl (fun a1 hS => ?_)
    refine seq_is hS (by decide) (runs_pick rfl rfl) (fun a1 hS => ?_)
    exact nil_ok (h _ (hS.only _ ⟨rfl, rfl, rfl, rfl, rfl, rfl, trivial⟩))
  · refine seq_is hS (by decide) (runs_gtr (r := false) rfl rfl (by simpa using h1)) (fun a1 hS => ?_)
    refine seq_is hS (by decide) (runs_move rfl) (fun a1 hS => ?_)
    refine seq_yis hS (by decide) rfl (by decide) rfl (runs_move rfl) (fun a1 hS => ?_)
    by_cases h2 : at_ < 0
    · rw [show outC n at_ = true by simp [outC, h2]] at h
      refine seq_yis hS (by decide) rfl (by decide) rfl (runs_lss (r := true) rfl rfl (by simpa using h2)) (fun a1 hS => ?_)
      refine seq_is hS (by decide) (runs_pick rfl rfl) (fun a1 hS => ?_)
      refine seq_is hS (by decide) (runs_move rfl) (fun a1 hS => ?_)
      refine seq_no hS (by decide) rfl (by decide) rfl rfl (fun a1 hS => ?_)
      refine seq_no hS (by decide) rfl (by decide) rfl rfl (fun a1 hS => ?_)
      refine seq_no hS (by decide) rfl (by decide) rfl rfl (fun a1 hS => ?_)
      refine seq_is hS (by decide) (runs_pick rfl rfl) (fun a1 hS => ?_)
      refine seq_is hS (by decide) (runs_move rfl) (fun a1 hS => ?_)
      refine seq_no hS (by decide) rfl (by decide) rfl rfl (fun a1 hS => ?_)
      refine seq_no hS (by decide) rfl (by decide) rfl rfl (fun a1 hS => ?_)
      refine seq_no hS (by decide) rfl (by decide) rfl rfl (fun a1 hS => ?_)
      refine seq_is hS (by decide) (runs_pick rfl rfl) (fun a1 hS => ?_)
      exact nil_ok (h _ (hS.only _ ⟨rfl, rfl, rfl, rfl, rfl, rfl, trivial⟩))
    · refine seq_yis hS (by decide) rfl (by decide) rfl (runs_lss (r := false) rfl rfl (by simpa using h2)) (fun a1 hS => ?_)
      refine seq_is hS (by decide) (runs_pick rfl rfl) (fun a1 hS => ?_)
      refine seq_is hS (by decide) (runs_move rfl) (fun a1 hS => ?_)
      refine seq_yis hS (by decide) rfl (by decide) rfl (runs_move rfl) (fun a1 hS => ?_)
      refine seq_yis hS (by decide) rfl (by decide) rfl (runs_move rfl) (fun a1 hS => ?_)
      by_cases h3 : at_ ≥ n
      · rw [show outC n at_ = true by simp [outC, h3]] at h
        refine seq_yis hS (by decide) rfl (by decide) rfl (runs_geq (r := true) rfl rfl (by simpa using h3)) (fun a1 hS => ?_)
        refine seq_is hS (by decide) (runs_pick rfl rfl) (fun a1 hS => ?_)
        refine seq_is hS (by decide) (runs_move rfl) (fun a1 hS => ?_)
        refine seq_no hS (by decide) rfl (by decide) rfl rfl (fun a1 hS => ?_)
        refine seq_no hS (by decide) rfl (by decide) rfl rfl (fun a1 hS => ?_)
        refine seq_no hS (by decide) rfl (by decide) rfl rfl (fun a1 hS => ?_)
        refine seq_is hS (by decide) (runs_pick rfl rfl) (fun a1 hS => ?_)
        exact nil_ok (h _ (hS.only _ ⟨rfl, rfl, rfl, rfl, rfl, rfl, trivial⟩))
      · rw [show outC n at_ = false by simp [outC, h1, h2, h3]] at h
        refine seq_yis hS (by decide) rfl (by decide) rfl (runs_geq (r := false) rfl rfl (by simpa using h3)) (fun a1 hS => ?_)
        refine seq_is hS (by decide) (runs_pick rfl rfl) (fun a1 hS => ?_)
        refine seq_is hS (by decide) (runs_move rfl) (fun a1 hS => ?_)
        refine seq_yis hS (by decide) rfl (by decide) rfl (runs_move rfl) (fun a1 hS => ?_)
        refine seq_yis hS (by decide) rfl (by decide) rfl (runs_len rfl undHashes) (fun a1 hS => ?_)
        refine seq_yis hS (by decide) rfl (by decide) rfl (runs_gtr (r := false) rfl rfl (by rw [decide_eq_false_iff_not]; omega)) (fun a1 hS => ?_)
        refine seq_is hS (by decide) (runs_pick rfl rfl) (fun a1 hS => ?_)
        exact nil_ok (h _ (hS.only _ ⟨rfl, rfl, rfl, rfl, rfl, rfl, trivial⟩))
set_option maxRecDepth 100000 in
set_option maxHeartbeats 1000000 in
theorem refCheck_any (root : List Nat) (n at_ : Int) (s : ByteArray) (pv : Value) (hs : List (List Nat)) (w : World) (hrl : root.length = 32) (hH : Hashes w pv hs) (hl : hs.length ≤ 40) (hsz : s.size ≤ 900) :
    Calls Tryd.prog 29 #[.agg (U8 root).toArray, .int .i64 n, .int .i64 at_, .string s, pv] w fun e w' => e = .returned (.bool (checkB root n at_ (bl s) hs)) ∧ Below w.heap.size w w' := by
  refine calls_qx (args := [.agg (U8 root).toArray, .int .i64 n, .int .i64 at_, .string s, pv]) 45 Tryd.func29 rfl (by kernel_rfl) (by simp) (fun a hS => ?_)
  refine qx_seq (reg_seq ?_)
  refine seq_op hS (by decide) (runs_box rfl) (fun v1 w1 a1 hp1 hS => ?_)
  obtain ⟨rfl, rfl⟩ := hp1
  have hR1 : Has (w.alloc (.cells (Value.agg (U8 root).toArray).cells 26)) w.heap.size 26 (U8 root) := Has.new w 26 (U8 root)
  have hB1 : Below w.heap.size w (w.alloc (.cells (Value.agg (U8 root).toArray).cells 26)) := (Below.refl _ _).alloc (Nat.le_refl _) _
  generalize w.alloc (.cells (Value.agg (U8 root).toArray).cells 26) = w1 at *
  have hH1 := hH.kept hB1
  have hH2 := hH1
  obtain ⟨A, c, rfl, _⟩ := hH2
  refine seq_is hS (by decide) (runs_assign rfl) (fun a1 hS => ?_)
  refine nil_ok (qx_seq (qx_seq (test29 _ _ _ n at_ _ _ A hs.length c w1 a1 hl (hS.only _ ⟨rfl, rfl, rfl, rfl, rfl, trivial⟩) (fun a2 hS => ?_))))
  cases ho : outC n at_ with
  | true =>
    rw [ho] at hS
    have hcb : checkB root n at_ (bl s) hs = false := by
      simp only [outC, Bool.or_eq_true, decide_eq_true_eq] at ho
      unfold checkB
      rw [if_pos ?_]
      by_cases h2 : n > 1073741824
      · exact .inl h2
      · right; left
        simp only [thereB, Bool.and_eq_false_iff, decide_eq_false_iff_not]
        omega
    refine wp_cond_true (hS.eval rfl) (qx_seq (reg_seq ?_))
    refine seq_is hS (by decide) (runs_assign rfl) (fun a1 hS => ?_)
    exact nil_ok (qx_ret (ret1 (t := 10) (by kernel_rfl) hS rfl ⟨by rw [hcb], hB1⟩))
  | false =>
    rw [ho] at hS
    simp only [outC, Bool.or_eq_false_iff, decide_eq_false_iff_not] at ho
    obtain ⟨p, rfl⟩ := Int.eq_ofNat_of_zero_le (show 0 ≤ at_ by omega)
    obtain ⟨m, rfl⟩ := Int.eq_ofNat_of_zero_le (show 0 ≤ n by omega)
    have hpm : p < m := by omega
    have hmm : m ≤ 1073741824 := by omega
    refine wp_cond_false (hS.eval rfl) (wp_skip ?_)
    refine qx_seq (reg_seq ?_)
    refine seq_is hS (by decide) (runs_move rfl) (fun a1 hS => ?_)
    refine seq_is hS (by decide) (runs_move rfl) (fun a1 hS => ?_)
    refine seq_is hS (by decide) (runs_move rfl) (fun a1 hS => ?_)
    refine seq_is hS (by decide) (runs_move rfl) (fun a1 hS => ?_)
    refine seq_op hS (by decide) (runs_call (args := [.int .i64 (m : Int), .int .i64 (p : Int), .string s, .slice A hs.length c]) goes47 rfl (refUp_any s hsz m p _ hs w1 hpm hmm hH1 (by omega))) (fun v3 w3 a3 hp3 hS => ?_)
    obtain ⟨⟨t, rfl, ht1, ht2⟩, hB3⟩ := hp3
    have hR3 := hR1.below hB3 hR1.lt
    have hBw3 : Below w.heap.size w w3 := hB1.trans (hB3.mono hB1.size)
    refine seq_is hS (by decide) (runs_move rfl) (fun a1 hS => ?_)
    refine seq_is hS (by decide) (runs_extract rfl rfl) (fun a1 hS => ?_)
    refine seq_is hS (by decide) (runs_extract rfl rfl) (fun a1 hS => ?_)
    refine seq_is hS (by decide) (runs_assign rfl) (fun a1 hS => ?_)
    refine seq_is hS (by decide) (runs_assign rfl) (fun a1 hS => ?_)
    cases hu : upB m p hs with
    | false =>
      have hcb : checkB root (m : Int) (p : Int) (bl s) hs = false := by
        have hne : hs.length ≠ deepZ (m : Int) (p : Int) := by rw [deepZ_nat hmm hpm]; exact beq_eq_false_iff_ne.1 hu
        unfold checkB
        rw [if_pos (.inr (.inr hne))]
      rw [hu] at hS
      refine nil_ok (qx_seq (reg_guard (fun w' => Below w3.heap.size w3 w') [.inl (.bool false), .inl (.bool false), .inl undef, .inl undef, .inl undef, .inl undef, .inl undef, .inl (.bool false), .inl (.bool false)] 9 0 mixed rfl (by kernel_rfl) hS (Below.refl _ _) (fun _ h => h.drew) ?_))
      refine hs_is rfl (fun w' hw => runs_move rfl) ?_
      refine hs_is rfl (fun w' hw => runs_move rfl) ?_
      refine hs_no rfl rfl rfl ?_
      refine hs_no rfl rfl rfl ?_
      refine hs_no rfl rfl rfl ?_
      refine hs_no rfl rfl rfl ?_
      refine hs_no rfl rfl rfl ?_
      refine hs_is rfl (fun w' hw => runs_pick rfl rfl) ?_
      refine hs_is rfl (fun w' hw => runs_assign rfl) ?_
      refine (fun a5 w5 hS5 hB5 _ => ?_)
      refine wpAnyH_done (by kernel_rfl) ?_ _
      exact qx_ret (ret1 (t := 10) (by kernel_rfl) hS5 rfl ⟨by rw [hcb], hBw3.trans (hB5.mono hBw3.size)⟩)
    | true =>
      have hle : hs.length = (Tree.path 0 m p).length := beq_iff_eq.1 hu
      obtain rfl := ht2 hle
      rw [hu] at hS
      have hul := ups_len _ (Tree.leaf_len (bl s)) (Tree.path 0 m p) hs
      have hub := ups_bytes (Tree.leaf (bl s)) (sha_bytes _) (Tree.path 0 m p) hs
      have hcb : checkB root (m : Int) (p : Int) (bl s) hs = (Tree.root m (ups (Tree.leaf (bl s)) (Tree.path 0 m p) hs) == root) := by
        unfold checkB
        rw [if_neg (by rw [deepZ_nat hmm hpm]; simp [thereB]; omega)]
        simp
      rw [hcb]
      generalize ups (Tree.leaf (bl s)) (Tree.path 0 m p) hs = t at *
      refine nil_ok (qx_seq (reg_guard (fun w' => Below w3.heap.size w3 w') [.inl (.bool true), .inl (.bool true), .inl (.int .i64 (m : Int)), .inl (.string (S t)), .inl (.agg (U8 (Tree.root m t)).toArray), .inl (.agg (U8 root).toArray), .inl (.bool (Tree.root m t == root)), .inl (.bool (Tree.root m t == root)), .inl (.bool (Tree.root m t == root))] 9 0 mixed rfl (by kernel_rfl) hS (Below.refl _ _) (fun _ h => h.drew) ?_))
      refine hs_is rfl (fun w' hw => runs_move rfl) ?_
      refine hs_is rfl (fun w' hw => runs_move rfl) ?_
      refine hs_yis rfl rfl (fun w' hw => runs_move rfl) ?_
      refine hs_yis rfl rfl (fun w' hw => runs_move rfl) ?_
      refine hs_yval rfl rfl (fun w' hw _ => runs_call (args := [.int .i64 (m : Int), .string (S t)]) goes37 rfl (hash_post _ (refRoot_any m t w' (by omega) hul hub) (fun _ h => ⟨hw.trans (h.mono hw.size), h⟩))) ?_
      refine hs_yis rfl rfl (fun w' hw => runs_loadRow rfl (hR3.below hw hR3.lt) undHash rfl (by rw [infHash, U8_length, hrl])) ?_
      refine hs_yis rfl rfl (fun w' hw => runs_eqHash rfl rfl (root_len _ _) hrl rfl) ?_
      refine hs_is rfl (fun w' hw => runs_pick rfl rfl) ?_
      refine hs_is rfl (fun w' hw => runs_assign rfl) ?_
      refine (fun a5 w5 hS5 hB5 _ => ?_)
      refine wpAnyH_done (by kernel_rfl) ?_ _
      exact qx_ret (ret1 (t := 10) (by kernel_rfl) hS5 rfl ⟨rfl, hBw3.trans (hB5.mono hBw3.size)⟩)
end Go.Proofs.YtlldcicnakdjmaaDoor
