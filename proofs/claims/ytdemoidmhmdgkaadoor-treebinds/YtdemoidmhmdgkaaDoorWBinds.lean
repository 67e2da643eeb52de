/- The walk of TreeBinds. Conditions: the table of constants lies as it was laid. -/
import Derived.Test.YtdemoidmhmdgkaaDoorBTwice
namespace Go.Proofs.YtdemoidmhmdgkaaDoor
open Go.RowKit
set_option maxRecDepth 100000

theorem check_true {root : List Nat} {n at_ : Int} {leaf : List Nat} {hs : List (List Nat)} (h : checkB root n at_ leaf hs = true) : ¬ n > 1073741824 ∧ thereB n at_ = true ∧ hs.length = deepZ n at_ ∧ Tree.root n.toNat (ups (Tree.leaf leaf) (Tree.path 0 n.toNat at_.toNat) hs) = root := by
  unfold checkB at h
  split at h
  · cases h
  · rename_i hc
    refine ⟨fun h1 => hc (.inl h1), ?_, ?_, by simpa using h⟩
    · cases ht : thereB n at_ with
      | true => rfl
      | false => exact absurd (.inr (.inl ht)) hc
    · exact Classical.byContradiction fun h2 => hc (.inr (.inr h2))
set_option maxHeartbeats 2000000 in
theorem binds_walk (root : List Nat) (hrl : root.length = 32) (n at_ : Int) (a b : ByteArray) (pv : Value) (hs : List (List Nat)) (qv : Value) (gs : List (List Nat)) (w : World) (hH : Hashes w pv hs) (hG : Hashes w qv gs) (hk : Kept w) : Calls Tryd.prog 4 #[.agg (U8 root).toArray, .int .i64 n, .int .i64 at_, .string a, .string b, pv, qv] w fun e w' => e = .returned (.bool true) ∧ Below w.heap.size w w' := by
  obtain ⟨A, c, rfl, _⟩ := id hH
  obtain ⟨A', c', rfl, _⟩ := id hG
  refine calls_qx (args := [.agg (U8 root).toArray, .int .i64 n, .int .i64 at_, .string a, .string b, .slice A hs.length c, .slice A' gs.length c']) 94 Tryd.func4 rfl (by kernel_rfl) (by simp) (fun act hS => ?_)
  refine qx_seq (reg_seq ?_)
  refine seq_op hS (by decide) (runs_box rfl) (fun v1 w0 a1 hp1 hS => ?_)
  obtain ⟨rfl, rfl⟩ := hp1
  have hR0 : Has (w.alloc (.cells (Value.agg (U8 root).toArray).cells 26)) w.heap.size 26 (U8 root) := Has.new w 26 (U8 root)
  have hB0 : Below w.heap.size w (w.alloc (.cells (Value.agg (U8 root).toArray).cells 26)) := (Below.refl _ _).alloc (Nat.le_refl _) _
  generalize w.alloc (.cells (Value.agg (U8 root).toArray).cells 26) = w0 at *
  have hk0 := hk.below hB0 hk.pos
  refine seq_is hS (by decide) (runs_assign rfl) (fun a1 hS => ?_)
  refine nil_ok (qx_seq (qx_seq (reg_seq ?_)))
  refine seq_op hS (by decide) (runs_call (args := []) goes11 rfl (awake_call w0 hk0)) (fun v1 w1 a1 hp1 hS => ?_)
  obtain ⟨rfl, hB01⟩ := hp1
  have hB1 : Below w.heap.size w w1 := hB0.trans (hB01.mono hB0.size)
  have hk1 := hk.below hB1 hk.pos
  have hH1 := hH.kept hB1
  have hG1 := hG.kept hB1
  have hR1 := hR0.below hB01 hR0.lt
  refine seq_is hS (by decide) (runs_not (b := true) rfl) (fun a1 hS => ?_)
  refine seq_is hS (by decide) (runs_move rfl) (fun a1 hS => ?_)
  refine seq_yis hS (by decide) rfl (by decide) rfl (runs_move rfl) (fun a1 hS => ?_)
  refine seq_yis hS (by decide) rfl (by decide) rfl (runs_lens rfl (by kernel_rfl)) (fun a1 hS => ?_)
  have last : ∀ (L : List (Nat × Value)) (a9 : Act) (N : Act → World → Prop) (X : Nat → Act → World → Prop), Sees 94 L a9 → ((Tryd.f4.body.bind (regionIn 2)).getD .skip).wp Tryd.prog (Qx (fun a' w' => Code.ret.wp Tryd.prog (Qx N X (Rets Tryd.prog Tryd.f4 (fun e w' => e = .returned (.bool true) ∧ Below w.heap.size w w'))) a' w') X (Rets Tryd.prog Tryd.f4 (fun e w' => e = .returned (.bool true) ∧ Below w.heap.size w w'))) a9 w1 := fun L a9 N X hS => by
    refine reg_seq ?_
    refine seq_op hS (by decide) (runs_call (args := []) goes11 rfl (awake_call w1 hk1)) (fun v2 w2 a2 hp2 hS => ?_)
    obtain ⟨rfl, hB2⟩ := hp2
    refine seq_is hS (by decide) (runs_assign rfl) (fun a1 hS => ?_)
    exact nil_ok (qx_ret (ret1 (t := 14) (by kernel_rfl) hS rfl ⟨rfl, hB1.trans (hB2.mono hB1.size)⟩))
  obtain ⟨ih, hih, hzh, hszh, hbh⟩ := info_parts infHashb
  obtain ⟨ib, hib, hzb0, hzbs, hzbb⟩ := info_parts infBytes
  by_cases h0 : 200 < a.size
  · refine seq_yis hS (by decide) rfl (by decide) rfl (runs_gtr (r := true) rfl rfl (by rw [decide_eq_true_eq]; omega)) (fun a1 hS => ?_)
    refine seq_is hS (by decide) (runs_pick rfl rfl) (fun a1 hS => ?_)
    refine seq_is hS (by decide) (runs_move rfl) (fun a1 hS => ?_)
    refine seq_no hS (by decide) rfl (by decide) rfl rfl (fun a1 hS => ?_)
    refine seq_no hS (by decide) rfl (by decide) rfl rfl (fun a1 hS => ?_)
    refine seq_no hS (by decide) rfl (by decide) rfl rfl (fun a1 hS => ?_)
    refine seq_is hS (by decide) (runs_pick rfl rfl) (fun a1 hS => ?_)
    refine seq_is hS (by decide) (runs_move rfl) (fun a1 hS => ?_)
    refine seq_no hS (by decide) rfl (by decide) rfl rfl (fun a1 hS => ?_)
    refine seq_no hS (by decide) rfl (by decide) rfl rfl (fun a1 hS => ?_)
    refine seq_no hS (by decide) rfl (by decide) rfl rfl (fun a1 hS => ?_)
    refine seq_is hS (by decide) (runs_pick rfl rfl) (fun a1 hS => ?_)
    refine seq_is hS (by decide) (runs_move rfl) (fun a1 hS => ?_)
    refine seq_no hS (by decide) rfl (by decide) rfl rfl (fun a1 hS => ?_)
    refine seq_no hS (by decide) rfl (by decide) rfl rfl (fun a1 hS => ?_)
    refine seq_no hS (by decide) rfl (by decide) rfl rfl (fun a1 hS => ?_)
    refine seq_is hS (by decide) (runs_pick rfl rfl) (fun a1 hS => ?_)
    exact nil_ok (wp_cond_true (hS.eval rfl) (qx_seq (last _ _ _ _ hS)))
  refine seq_yis hS (by decide) rfl (by decide) rfl (runs_gtr (r := false) rfl rfl (by rw [decide_eq_false_iff_not]; omega)) (fun a1 hS => ?_)
  refine seq_is hS (by decide) (runs_pick rfl rfl) (fun a1 hS => ?_)
  refine seq_is hS (by decide) (runs_move rfl) (fun a1 hS => ?_)
  refine seq_yis hS (by decide) rfl (by decide) rfl (runs_move rfl) (fun a1 hS => ?_)
  refine seq_yis hS (by decide) rfl (by decide) rfl (runs_lens rfl (by kernel_rfl)) (fun a1 hS => ?_)
  by_cases h1 : 200 < b.size
  · refine seq_yis hS (by decide) rfl (by decide) rfl (runs_gtr (r := true) rfl rfl (by rw [decide_eq_true_eq]; omega)) (fun a1 hS => ?_)
    refine seq_is hS (by decide) (runs_pick rfl rfl) (fun a1 hS => ?_)
    refine seq_is hS (by decide) (runs_move rfl) (fun a1 hS => ?_)
    refine seq_no hS (by decide) rfl (by decide) rfl rfl (fun a1 hS => ?_)
    refine seq_no hS (by decide) rfl (by decide) rfl rfl (fun a1 hS => ?_)
    refine seq_no hS (by decide) rfl (by decide) rfl rfl (fun a1 hS => ?_)
    refine seq_is hS (by decide) (runs_pick rfl rfl) (fun a1 hS => ?_)
    refine seq_is hS (by decide) (runs_move rfl) (fun a1 hS => ?_)
    refine seq_no hS (by decide) rfl (by decide) rfl rfl (fun a1 hS => ?_)
    refine seq_no hS (by decide) rfl (by decide) rfl rfl (fun a1 hS => ?_)
    refine seq_no hS (by decide) rfl (by decide) rfl rfl (fun a1 hS => ?_)
    refine seq_is hS (by decide) (runs_pick rfl rfl) (fun a1 hS => ?_)
    exact nil_ok (wp_cond_true (hS.eval rfl) (qx_seq (last _ _ _ _ hS)))
  refine seq_yis hS (by decide) rfl (by decide) rfl (runs_gtr (r := false) rfl rfl (by rw [decide_eq_false_iff_not]; omega)) (fun a1 hS => ?_)
  refine seq_is hS (by decide) (runs_pick rfl rfl) (fun a1 hS => ?_)
  refine seq_is hS (by decide) (runs_move rfl) (fun a1 hS => ?_)
  refine seq_yis hS (by decide) rfl (by decide) rfl (runs_move rfl) (fun a1 hS => ?_)
  refine seq_yis hS (by decide) rfl (by decide) rfl (runs_len rfl undHashes) (fun a1 hS => ?_)
  by_cases h2 : 40 < hs.length
  · refine seq_yis hS (by decide) rfl (by decide) rfl (runs_gtr (r := true) rfl rfl (by rw [decide_eq_true_eq]; omega)) (fun a1 hS => ?_)
    refine seq_is hS (by decide) (runs_pick rfl rfl) (fun a1 hS => ?_)
    refine seq_is hS (by decide) (runs_move rfl) (fun a1 hS => ?_)
    refine seq_no hS (by decide) rfl (by decide) rfl rfl (fun a1 hS => ?_)
    refine seq_no hS (by decide) rfl (by decide) rfl rfl (fun a1 hS => ?_)
    refine seq_no hS (by decide) rfl (by decide) rfl rfl (fun a1 hS => ?_)
    refine seq_is hS (by decide) (runs_pick rfl rfl) (fun a1 hS => ?_)
    exact nil_ok (wp_cond_true (hS.eval rfl) (qx_seq (last _ _ _ _ hS)))
  refine seq_yis hS (by decide) rfl (by decide) rfl (runs_gtr (r := false) rfl rfl (by rw [decide_eq_false_iff_not]; omega)) (fun a1 hS => ?_)
  refine seq_is hS (by decide) (runs_pick rfl rfl) (fun a1 hS => ?_)
  refine seq_is hS (by decide) (runs_move rfl) (fun a1 hS => ?_)
  refine seq_yis hS (by decide) rfl (by decide) rfl (runs_move rfl) (fun a1 hS => ?_)
  refine seq_yis hS (by decide) rfl (by decide) rfl (runs_len rfl undHashes) (fun a1 hS => ?_)
  by_cases h3 : 40 < gs.length
  · refine seq_yis hS (by decide) rfl (by decide) rfl (runs_gtr (r := true) rfl rfl (by rw [decide_eq_true_eq]; omega)) (fun a1 hS => ?_)
    refine seq_is hS (by decide) (runs_pick rfl rfl) (fun a1 hS => ?_)
    exact nil_ok (wp_cond_true (hS.eval rfl) (qx_seq (last _ _ _ _ hS)))
  refine seq_yis hS (by decide) rfl (by decide) rfl (runs_gtr (r := false) rfl rfl (by rw [decide_eq_false_iff_not]; omega)) (fun a1 hS => ?_)
  refine seq_is hS (by decide) (runs_pick rfl rfl) (fun a1 hS => ?_)
  refine nil_ok (wp_cond_false (hS.eval rfl) (wp_skip ?_))
  have hS := hS.only [(1, .int .i64 n), (2, .int .i64 at_), (3, .string a), (4, .string b), (5, .slice A hs.length c), (6, .slice A' gs.length c'), (7, .pointer (some ⟨w.heap.size, 0, none⟩))] ⟨rfl, rfl, rfl, rfl, rfl, rfl, rfl, trivial⟩
  have yes : ∀ (L : List (Nat × Value)) (a9 : Act) (w9 : World) (N : Act → World → Prop) (X : Nat → Act → World → Prop), Below w1.heap.size w1 w9 → Sees 94 L a9 → ((Tryd.f4.body.bind (regionIn 4)).getD .skip).wp Tryd.prog (Qx (fun a' w' => Code.ret.wp Tryd.prog (Qx N X (Rets Tryd.prog Tryd.f4 (fun e w' => e = .returned (.bool true) ∧ Below w.heap.size w w'))) a' w') X (Rets Tryd.prog Tryd.f4 (fun e w' => e = .returned (.bool true) ∧ Below w.heap.size w w'))) a9 w9 := fun L a9 w9 N X hB9 hS => by
    refine reg_seq ?_
    refine seq_is hS (by decide) (runs_assign rfl) (fun a1 hS => ?_)
    exact nil_ok (qx_ret (ret1 (t := 14) (by kernel_rfl) hS rfl ⟨rfl, hB1.trans (hB9.mono hB1.size)⟩))
  cases hc1 : checkB root n at_ (bl a) hs with
  | false =>
    refine qx_seq (qx_seq ?_)
    refine reg_guard (fun w' => Below w1.heap.size w1 w') [.inl (.agg (U8 root).toArray), .inl (.int .i64 n), .inl (.int .i64 at_), .inl (.string a), .inr (fun v _ => ∃ g, v = .slice (some ⟨g, 0, none⟩) 0 0), .inl (.slice A hs.length c), .inr (fun v w' => Hashes w' v hs), .inl (.bool false), .inl (.bool true), .inl (.bool true), .inl undef, .inl undef, .inl undef, .inl undef, .inl undef, .inl undef, .inl undef, .inl undef, .inl undef, .inl (.bool true), .inl (.bool true), .inl undef, .inl undef, .inl undef, .inl (.bool true)] 25 0 mixed rfl (by kernel_rfl) hS (Below.refl _ _) (fun _ h => h.drew) ?_
    refine hs_is rfl (fun w' hw => runs_loadRow rfl (hR1.below hw hR1.lt) undHash rfl (by rw [infHash]; simp [hrl])) ?_
    refine hs_is rfl (fun w' hw => runs_move rfl) ?_
    refine hs_is rfl (fun w' hw => runs_move rfl) ?_
    refine hs_is rfl (fun w' hw => runs_move rfl) ?_
    refine hs_pr rfl (fun _ _ _ h _ => h) (fun w' hw hq => (runs_buildNone undHashes hih).mono (by rintro v w2 ⟨rfl, rfl⟩; exact ⟨⟨_, rfl⟩, hw.alloc hw.size _, (Below.refl _ _).alloc (Nat.le_refl _) _⟩)) (fun v45 => ?_)
    refine hs_is rfl (fun w' hw => runs_move rfl) ?_
    refine hs_pr rfl (fun _ _ _ h hb => h.kept hb) (fun w' hw hq => (by obtain ⟨g, rfl⟩ := hq (4, _) List.mem_cons_self (by kernel_rfl); exact (copy_hashes (hH1.kept hw) (by omega) rfl rfl).mono (by rintro u w2 ⟨h1, h2⟩; exact ⟨h1, hw.trans (h2.mono hw.size), h2⟩))) (fun v47 => ?_)
    refine hs_val rfl (fun w' hw hq => runs_call (args := [.agg (U8 root).toArray, .int .i64 n, .int .i64 at_, .string a, v47]) goes15 rfl (bool_post _ (by have := check_any root n at_ a v47 hs w' hrl (hq (6, _) List.mem_cons_self (by kernel_rfl)) (by omega) (by omega) (hk1.below hw hk1.pos); rwa [hc1] at this) (fun _ h => ⟨hw.trans (h.mono hw.size), h⟩))) ?_
    refine hs_is rfl (fun w' hw => runs_not (b := false) rfl) ?_
    refine hs_is rfl (fun w' hw => runs_move rfl) ?_
    refine hs_no rfl rfl rfl ?_
    refine hs_no rfl rfl rfl ?_
    refine hs_no rfl rfl rfl ?_
    refine hs_no rfl rfl rfl ?_
    refine hs_no rfl rfl rfl ?_
    refine hs_no rfl rfl rfl ?_
    refine hs_no rfl rfl rfl ?_
    refine hs_no rfl rfl rfl ?_
    refine hs_no rfl rfl rfl ?_
    refine hs_is rfl (fun w' hw => runs_pick rfl rfl) ?_
    refine hs_is rfl (fun w' hw => runs_move rfl) ?_
    refine hs_no rfl rfl rfl ?_
    refine hs_no rfl rfl rfl ?_
    refine hs_no rfl rfl rfl ?_
    refine hs_is rfl (fun w' hw => runs_pick rfl rfl) ?_
    refine (fun a5 w5 hS5 hB5 _ => ?_)
    refine wpAnyH_done (by kernel_rfl) ?_ _
    exact wp_cond_true (hS5.eval rfl) (qx_seq (yes _ _ _ _ _ hB5 hS5))
  | true =>
    cases hc2 : checkB root n at_ (bl b) gs with
    | false =>
      refine qx_seq (qx_seq ?_)
      refine reg_guard (fun w' => Below w1.heap.size w1 w') [.inl (.agg (U8 root).toArray), .inl (.int .i64 n), .inl (.int .i64 at_), .inl (.string a), .inr (fun v _ => ∃ g, v = .slice (some ⟨g, 0, none⟩) 0 0), .inl (.slice A hs.length c), .inr (fun v w' => Hashes w' v hs), .inl (.bool true), .inl (.bool false), .inl (.bool false), .inl (.agg (U8 root).toArray), .inl (.int .i64 n), .inl (.int .i64 at_), .inl (.string b), .inr (fun v _ => ∃ g, v = .slice (some ⟨g, 0, none⟩) 0 0), .inl (.slice A' gs.length c'), .inr (fun v w' => Hashes w' v gs), .inl (.bool false), .inl (.bool true), .inl (.bool true), .inl (.bool true), .inl undef, .inl undef, .inl undef, .inl (.bool true)] 25 0 mixed rfl (by kernel_rfl) hS (Below.refl _ _) (fun _ h => h.drew) ?_
      refine hs_is rfl (fun w' hw => runs_loadRow rfl (hR1.below hw hR1.lt) undHash rfl (by rw [infHash]; simp [hrl])) ?_
      refine hs_is rfl (fun w' hw => runs_move rfl) ?_
      refine hs_is rfl (fun w' hw => runs_move rfl) ?_
      refine hs_is rfl (fun w' hw => runs_move rfl) ?_
      refine hs_pr rfl (fun _ _ _ h _ => h) (fun w' hw hq => (runs_buildNone undHashes hih).mono (by rintro v w2 ⟨rfl, rfl⟩; exact ⟨⟨_, rfl⟩, hw.alloc hw.size _, (Below.refl _ _).alloc (Nat.le_refl _) _⟩)) (fun v45 => ?_)
      refine hs_is rfl (fun w' hw => runs_move rfl) ?_
      refine hs_pr rfl (fun _ _ _ h hb => h.kept hb) (fun w' hw hq => (by obtain ⟨g, rfl⟩ := hq (4, _) List.mem_cons_self (by kernel_rfl); exact (copy_hashes (hH1.kept hw) (by omega) rfl rfl).mono (by rintro u w2 ⟨h1, h2⟩; exact ⟨h1, hw.trans (h2.mono hw.size), h2⟩))) (fun v47 => ?_)
      refine hs_val rfl (fun w' hw hq => runs_call (args := [.agg (U8 root).toArray, .int .i64 n, .int .i64 at_, .string a, v47]) goes15 rfl (bool_post _ (by have := check_any root n at_ a v47 hs w' hrl (hq (6, _) List.mem_cons_self (by kernel_rfl)) (by omega) (by omega) (hk1.below hw hk1.pos); rwa [hc1] at this) (fun _ h => ⟨hw.trans (h.mono hw.size), h⟩))) ?_
      refine hs_is rfl (fun w' hw => runs_not (b := true) rfl) ?_
      refine hs_is rfl (fun w' hw => runs_move rfl) ?_
      refine hs_yis rfl rfl (fun w' hw => runs_loadRow rfl (hR1.below hw hR1.lt) undHash rfl (by rw [infHash]; simp [hrl])) ?_
      refine hs_yis rfl rfl (fun w' hw => runs_move rfl) ?_
      refine hs_yis rfl rfl (fun w' hw => runs_move rfl) ?_
      refine hs_yis rfl rfl (fun w' hw => runs_move rfl) ?_
      refine hs_ypr rfl rfl (fun _ _ _ h _ => h) (fun w' hw hq => (runs_buildNone undHashes hih).mono (by rintro v w2 ⟨rfl, rfl⟩; exact ⟨⟨_, rfl⟩, hw.alloc hw.size _, (Below.refl _ _).alloc (Nat.le_refl _) _⟩)) (fun v55 => ?_)
      refine hs_yis rfl rfl (fun w' hw => runs_move rfl) ?_
      refine hs_ypr rfl rfl (fun _ _ _ h hb => h.kept hb) (fun w' hw hq => (by obtain ⟨g, rfl⟩ := hq (14, _) List.mem_cons_self (by kernel_rfl); exact (copy_hashes (hG1.kept hw) (by omega) rfl rfl).mono (by rintro u w2 ⟨h1, h2⟩; exact ⟨h1, hw.trans (h2.mono hw.size), h2⟩))) (fun v57 => ?_)
      refine hs_yval rfl rfl (fun w' hw hq => runs_call (args := [.agg (U8 root).toArray, .int .i64 n, .int .i64 at_, .string b, v57]) goes15 rfl (bool_post _ (by have := check_any root n at_ b v57 gs w' hrl (hq (16, _) List.mem_cons_self (by kernel_rfl)) (by omega) (by omega) (hk1.below hw hk1.pos); rwa [hc2] at this) (fun _ h => ⟨hw.trans (h.mono hw.size), h⟩))) ?_
      refine hs_yis rfl rfl (fun w' hw => runs_not (b := false) rfl) ?_
      refine hs_is rfl (fun w' hw => runs_pick rfl rfl) ?_
      refine hs_is rfl (fun w' hw => runs_move rfl) ?_
      refine hs_no rfl rfl rfl ?_
      refine hs_no rfl rfl rfl ?_
      refine hs_no rfl rfl rfl ?_
      refine hs_is rfl (fun w' hw => runs_pick rfl rfl) ?_
      refine (fun a5 w5 hS5 hB5 _ => ?_)
      refine wpAnyH_done (by kernel_rfl) ?_ _
      exact wp_cond_true (hS5.eval rfl) (qx_seq (yes _ _ _ _ _ hB5 hS5))
    | true =>
      by_cases heq : bl a = bl b
      · refine qx_seq (qx_seq ?_)
        refine reg_guard (fun w' => Below w1.heap.size w1 w') [.inl (.agg (U8 root).toArray), .inl (.int .i64 n), .inl (.int .i64 at_), .inl (.string a), .inr (fun v _ => ∃ g, v = .slice (some ⟨g, 0, none⟩) 0 0), .inl (.slice A hs.length c), .inr (fun v w' => Hashes w' v hs), .inl (.bool true), .inl (.bool false), .inl (.bool false), .inl (.agg (U8 root).toArray), .inl (.int .i64 n), .inl (.int .i64 at_), .inl (.string b), .inr (fun v _ => ∃ g, v = .slice (some ⟨g, 0, none⟩) 0 0), .inl (.slice A' gs.length c'), .inr (fun v w' => Hashes w' v gs), .inl (.bool true), .inl (.bool false), .inl (.bool false), .inl (.bool false), .inl (.string a), .inl (.string b), .inl (.bool true), .inl (.bool true)] 25 0 mixed rfl (by kernel_rfl) hS (Below.refl _ _) (fun _ h => h.drew) ?_
        refine hs_is rfl (fun w' hw => runs_loadRow rfl (hR1.below hw hR1.lt) undHash rfl (by rw [infHash]; simp [hrl])) ?_
        refine hs_is rfl (fun w' hw => runs_move rfl) ?_
        refine hs_is rfl (fun w' hw => runs_move rfl) ?_
        refine hs_is rfl (fun w' hw => runs_move rfl) ?_
        refine hs_pr rfl (fun _ _ _ h _ => h) (fun w' hw hq => (runs_buildNone undHashes hih).mono (by rintro v w2 ⟨rfl, rfl⟩; exact ⟨⟨_, rfl⟩, hw.alloc hw.size _, (Below.refl _ _).alloc (Nat.le_refl _) _⟩)) (fun v45 => ?_)
        refine hs_is rfl (fun w' hw => runs_move rfl) ?_
        refine hs_pr rfl (fun _ _ _ h hb => h.kept hb) (fun w' hw hq => (by obtain ⟨g, rfl⟩ := hq (4, _) List.mem_cons_self (by kernel_rfl); exact (copy_hashes (hH1.kept hw) (by omega) rfl rfl).mono (by rintro u w2 ⟨h1, h2⟩; exact ⟨h1, hw.trans (h2.mono hw.size), h2⟩))) (fun v47 => ?_)
        refine hs_val rfl (fun w' hw hq => runs_call (args := [.agg (U8 root).toArray, .int .i64 n, .int .i64 at_, .string a, v47]) goes15 rfl (bool_post _ (by have := check_any root n at_ a v47 hs w' hrl (hq (6, _) List.mem_cons_self (by kernel_rfl)) (by omega) (by omega) (hk1.below hw hk1.pos); rwa [hc1] at this) (fun _ h => ⟨hw.trans (h.mono hw.size), h⟩))) ?_
        refine hs_is rfl (fun w' hw => runs_not (b := true) rfl) ?_
        refine hs_is rfl (fun w' hw => runs_move rfl) ?_
        refine hs_yis rfl rfl (fun w' hw => runs_loadRow rfl (hR1.below hw hR1.lt) undHash rfl (by rw [infHash]; simp [hrl])) ?_
        refine hs_yis rfl rfl (fun w' hw => runs_move rfl) ?_
        refine hs_yis rfl rfl (fun w' hw => runs_move rfl) ?_
        refine hs_yis rfl rfl (fun w' hw => runs_move rfl) ?_
        refine hs_ypr rfl rfl (fun _ _ _ h _ => h) (fun w' hw hq => (runs_buildNone undHashes hih).mono (by rintro v w2 ⟨rfl, rfl⟩; exact ⟨⟨_, rfl⟩, hw.alloc hw.size _, (Below.refl _ _).alloc (Nat.le_refl _) _⟩)) (fun v55 => ?_)
        refine hs_yis rfl rfl (fun w' hw => runs_move rfl) ?_
        refine hs_ypr rfl rfl (fun _ _ _ h hb => h.kept hb) (fun w' hw hq => (by obtain ⟨g, rfl⟩ := hq (14, _) List.mem_cons_self (by kernel_rfl); exact (copy_hashes (hG1.kept hw) (by omega) rfl rfl).mono (by rintro u w2 ⟨h1, h2⟩; exact ⟨h1, hw.trans (h2.mono hw.size), h2⟩))) (fun v57 => ?_)
        refine hs_yval rfl rfl (fun w' hw hq => runs_call (args := [.agg (U8 root).toArray, .int .i64 n, .int .i64 at_, .string b, v57]) goes15 rfl (bool_post _ (by have := check_any root n at_ b v57 gs w' hrl (hq (16, _) List.mem_cons_self (by kernel_rfl)) (by omega) (by omega) (hk1.below hw hk1.pos); rwa [hc2] at this) (fun _ h => ⟨hw.trans (h.mono hw.size), h⟩))) ?_
        refine hs_yis rfl rfl (fun w' hw => runs_not (b := true) rfl) ?_
        refine hs_is rfl (fun w' hw => runs_pick rfl rfl) ?_
        refine hs_is rfl (fun w' hw => runs_move rfl) ?_
        refine hs_yis rfl rfl (fun w' hw => runs_move rfl) ?_
        refine hs_yis rfl rfl (fun w' hw => runs_move rfl) ?_
        refine hs_yis rfl rfl (fun w' hw => runs_eqStr (r := true) rfl rfl (by rw [heq]; simp)) ?_
        refine hs_is rfl (fun w' hw => runs_pick rfl rfl) ?_
        refine (fun a5 w5 hS5 hB5 _ => ?_)
        refine wpAnyH_done (by kernel_rfl) ?_ _
        exact wp_cond_true (hS5.eval rfl) (qx_seq (yes _ _ _ _ _ hB5 hS5))
      obtain ⟨e1, e2, e3, e4⟩ := check_true hc1
      obtain ⟨_, _, f3, f4⟩ := check_true hc2
      simp only [thereB, Bool.and_eq_true, decide_eq_true_eq] at e2
      obtain ⟨m, rfl⟩ := Int.eq_ofNat_of_zero_le (show 0 ≤ n by omega)
      obtain ⟨p, rfl⟩ := Int.eq_ofNat_of_zero_le e2.1
      rw [deepZ_nat (by omega) (by omega)] at e3 f3
      simp only [Int.toNat_natCast] at e4 f4
      refine qx_seq (qx_seq ?_)
      refine reg_guard (fun w' => Below w1.heap.size w1 w') [.inl (.agg (U8 root).toArray), .inl (.int .i64 (m : Int)), .inl (.int .i64 (p : Int)), .inl (.string a), .inr (fun v _ => ∃ g, v = .slice (some ⟨g, 0, none⟩) 0 0), .inl (.slice A hs.length c), .inr (fun v w' => Hashes w' v hs), .inl (.bool true), .inl (.bool false), .inl (.bool false), .inl (.agg (U8 root).toArray), .inl (.int .i64 (m : Int)), .inl (.int .i64 (p : Int)), .inl (.string b), .inr (fun v _ => ∃ g, v = .slice (some ⟨g, 0, none⟩) 0 0), .inl (.slice A' gs.length c'), .inr (fun v w' => Hashes w' v gs), .inl (.bool true), .inl (.bool false), .inl (.bool false), .inl (.bool false), .inl (.string a), .inl (.string b), .inl (.bool false), .inl (.bool false)] 25 0 mixed rfl (by kernel_rfl) hS (Below.refl _ _) (fun _ h => h.drew) ?_
      refine hs_is rfl (fun w' hw => runs_loadRow rfl (hR1.below hw hR1.lt) undHash rfl (by rw [infHash]; simp [hrl])) ?_
      refine hs_is rfl (fun w' hw => runs_move rfl) ?_
      refine hs_is rfl (fun w' hw => runs_move rfl) ?_
      refine hs_is rfl (fun w' hw => runs_move rfl) ?_
      refine hs_pr rfl (fun _ _ _ h _ => h) (fun w' hw hq => (runs_buildNone undHashes hih).mono (by rintro v w2 ⟨rfl, rfl⟩; exact ⟨⟨_, rfl⟩, hw.alloc hw.size _, (Below.refl _ _).alloc (Nat.le_refl _) _⟩)) (fun v45 => ?_)
      refine hs_is rfl (fun w' hw => runs_move rfl) ?_
      refine hs_pr rfl (fun _ _ _ h hb => h.kept hb) (fun w' hw hq => (by obtain ⟨g, rfl⟩ := hq (4, _) List.mem_cons_self (by kernel_rfl); exact (copy_hashes (hH1.kept hw) (by omega) rfl rfl).mono (by rintro u w2 ⟨h1, h2⟩; exact ⟨h1, hw.trans (h2.mono hw.size), h2⟩))) (fun v47 => ?_)
      refine hs_val rfl (fun w' hw hq => runs_call (args := [.agg (U8 root).toArray, .int .i64 (m : Int), .int .i64 (p : Int), .string a, v47]) goes15 rfl (bool_post _ (by have := check_any root m p a v47 hs w' hrl (hq (6, _) List.mem_cons_self (by kernel_rfl)) (by omega) (by omega) (hk1.below hw hk1.pos); rwa [hc1] at this) (fun _ h => ⟨hw.trans (h.mono hw.size), h⟩))) ?_
      refine hs_is rfl (fun w' hw => runs_not (b := true) rfl) ?_
      refine hs_is rfl (fun w' hw => runs_move rfl) ?_
      refine hs_yis rfl rfl (fun w' hw => runs_loadRow rfl (hR1.below hw hR1.lt) undHash rfl (by rw [infHash]; simp [hrl])) ?_
      refine hs_yis rfl rfl (fun w' hw => runs_move rfl) ?_
      refine hs_yis rfl rfl (fun w' hw => runs_move rfl) ?_
      refine hs_yis rfl rfl (fun w' hw => runs_move rfl) ?_
      refine hs_ypr rfl rfl (fun _ _ _ h _ => h) (fun w' hw hq => (runs_buildNone undHashes hih).mono (by rintro v w2 ⟨rfl, rfl⟩; exact ⟨⟨_, rfl⟩, hw.alloc hw.size _, (Below.refl _ _).alloc (Nat.le_refl _) _⟩)) (fun v55 => ?_)
      refine hs_yis rfl rfl (fun w' hw => runs_move rfl) ?_
      refine hs_ypr rfl rfl (fun _ _ _ h hb => h.kept hb) (fun w' hw hq => (by obtain ⟨g, rfl⟩ := hq (14, _) List.mem_cons_self (by kernel_rfl); exact (copy_hashes (hG1.kept hw) (by omega) rfl rfl).mono (by rintro u w2 ⟨h1, h2⟩; exact ⟨h1, hw.trans (h2.mono hw.size), h2⟩))) (fun v57 => ?_)
      refine hs_yval rfl rfl (fun w' hw hq => runs_call (args := [.agg (U8 root).toArray, .int .i64 (m : Int), .int .i64 (p : Int), .string b, v57]) goes15 rfl (bool_post _ (by have := check_any root m p b v57 gs w' hrl (hq (16, _) List.mem_cons_self (by kernel_rfl)) (by omega) (by omega) (hk1.below hw hk1.pos); rwa [hc2] at this) (fun _ h => ⟨hw.trans (h.mono hw.size), h⟩))) ?_
      refine hs_yis rfl rfl (fun w' hw => runs_not (b := true) rfl) ?_
      refine hs_is rfl (fun w' hw => runs_pick rfl rfl) ?_
      refine hs_is rfl (fun w' hw => runs_move rfl) ?_
      refine hs_yis rfl rfl (fun w' hw => runs_move rfl) ?_
      refine hs_yis rfl rfl (fun w' hw => runs_move rfl) ?_
      refine hs_yis rfl rfl (fun w' hw => runs_eqStr (r := false) rfl rfl (by rw [beq_eq_false_iff_ne]; exact heq)) ?_
      refine hs_is rfl (fun w' hw => runs_pick rfl rfl) ?_
      refine (fun a5 w5 hS5 hB5 _ => ?_)
      refine wpAnyH_done (by kernel_rfl) ?_ _
      refine wp_cond_false (hS5.eval rfl) (wp_skip ?_)
      have hS := hS5.only [(1, .int .i64 (m : Int)), (2, .int .i64 (p : Int)), (3, .string a), (4, .string b), (5, .slice A hs.length c), (6, .slice A' gs.length c'), (7, .pointer (some ⟨w.heap.size, 0, none⟩))] ⟨rfl, rfl, rfl, rfl, rfl, rfl, rfl, trivial⟩
      refine qx_seq (reg_seq ?_)
      refine seq_is hS (by decide) (runs_move rfl) (fun a1 hS => ?_)
      refine seq_is hS (by decide) (runs_move rfl) (fun a1 hS => ?_)
      refine seq_is hS (by decide) (runs_move rfl) (fun a1 hS => ?_)
      refine seq_is hS (by decide) (runs_move rfl) (fun a1 hS => ?_)
      refine seq_is hS (by decide) (runs_move rfl) (fun a1 hS => ?_)
      refine seq_is hS (by decide) (runs_move rfl) (fun a1 hS => ?_)
      refine seq_op hS (by decide) (runs_call (args := [.int .i64 (m : Int), .int .i64 (p : Int), .string a, .slice A hs.length c, .string b, .slice A' gs.length c']) (Post := fun v w' => ∃ x y : ByteArray, v = .tuple #[.string x, .string y, .bool true] ∧ bl x ≠ bl y ∧ Sha.sha (bl x) = Sha.sha (bl y) ∧ x.size ≤ 1000 ∧ y.size ≤ 1000 ∧ Below w5.heap.size w5 w') goes17 rfl ((twice_any m p a b _ _ hs gs w5 (by omega) (by omega) heq (by omega) (by omega) (hH1.kept hB5) (hG1.kept hB5) (by omega) (by omega) (e4.trans f4.symm)).mono (by rintro e w' ⟨x, y, rfl, h⟩; exact ⟨_, rfl, x, y, rfl, h⟩))) (fun v6 w6 a6 hp6 hS => ?_)
      obtain ⟨x, y, rfl, hxy, hsum, hsx, hsy, hB6⟩ := hp6
      have hB16 : Below w1.heap.size w1 w6 := hB5.trans (hB6.mono hB5.size)
      refine seq_is hS (by decide) (runs_move rfl) (fun a1 hS => ?_)
      refine seq_is hS (by decide) (runs_extract rfl rfl) (fun a1 hS => ?_)
      refine seq_is hS (by decide) (runs_extract rfl rfl) (fun a1 hS => ?_)
      refine seq_is hS (by decide) (runs_extract rfl rfl) (fun a1 hS => ?_)
      refine seq_is hS (by decide) (runs_assign rfl) (fun a1 hS => ?_)
      refine seq_is hS (by decide) (runs_assign rfl) (fun a1 hS => ?_)
      refine seq_is hS (by decide) (runs_assign rfl) (fun a1 hS => ?_)
      obtain ⟨w7, c7, hcv7, hz7, hB7, hS7⟩ := conv_str w6 x (by unfold maxLen; omega)
      have hk7 := hk1.below (hB16.trans (hB7.mono hB16.size)) hk1.pos
      refine nil_ok (qx_seq (reg_seq ?_))
      refine seq_is hS (by decide) (runs_move rfl) (fun a1 hS => ?_)
      refine seq_is hS (by decide) (runs_move rfl) (fun a1 hS => ?_)
      refine seq_yis hS (by decide) rfl (by decide) rfl (runs_move rfl) (fun a1 hS => ?_)
      refine seq_yis hS (by decide) rfl (by decide) rfl (runs_move rfl) (fun a1 hS => ?_)
      refine seq_yis hS (by decide) rfl (by decide) rfl (runs_neStr (r := true) rfl rfl (by rw [bne_iff_ne]; exact hxy)) (fun a1 hS => ?_)
      refine seq_is hS (by decide) (runs_pick rfl rfl) (fun a1 hS => ?_)
      refine seq_is hS (by decide) (runs_move rfl) (fun a1 hS => ?_)
      refine seq_yis hS (by decide) rfl (by decide) rfl (runs_move rfl) (fun a1 hS => ?_)
      refine seq_yis hS (by decide) rfl (by decide) rfl (runs_conv rfl hcv7) (fun a1 hS => ?_)
      refine seq_yes hS (by decide) rfl (by decide) rfl (runs_buildSlice (pv := [(0, .slice (some ⟨w6.heap.size, 0, none⟩) x.size c7)]) rfl undParts hib hzb0 hzbs (by omega) (by omega) (cells := #[.slice (some ⟨w6.heap.size, 0, none⟩) x.size c7]) (by kernel_rfl)) (fun vq w8 aq hpqw8 hS => ?_)
      obtain ⟨rfl, rfl⟩ := hpqw8
      have hPw8 := parts_of hS7
      have hDw8 : Below w7.heap.size w7 (w7.alloc (.cells #[.slice (some ⟨w6.heap.size, 0, none⟩) x.size c7] 37)) := (Below.refl _ _).alloc (Nat.le_refl _) _
      generalize w7.alloc (.cells #[.slice (some ⟨w6.heap.size, 0, none⟩) x.size c7] 37) = w8 at *
      refine seq_yes hS (by decide) rfl (by decide) rfl (runs_call (args := [.slice (some ⟨w7.heap.size, 0, none⟩) 1 1]) goes18 rfl (hash_post (fun w' => Below w8.heap.size w8 w') (by have := of_any [bl x] _ w8 hPw8 (fun l hl => by rw [List.mem_singleton.1 hl]; exact bl_bytes x) (hk7.below hDw8 hk7.pos) (by simp [bl_length]; omega); rwa [List.flatten_singleton] at this) (fun _ h => h))) (fun v9 w9 a9 hp9 hS => ?_)
      obtain ⟨rfl, hB9⟩ := hp9
      obtain ⟨w10, c10, hcv10, hz10, hB10, hS10⟩ := conv_str w9 y (by unfold maxLen; omega)
      have hB19 : Below w1.heap.size w1 w9 := (hB16.trans (hB7.mono hB16.size)).trans ((hDw8.trans (hB9.mono hDw8.size)).mono (Nat.le_trans hB16.size hB7.size))
      have hB110 : Below w1.heap.size w1 w10 := hB19.trans (hB10.mono hB19.size)
      have hk10 := hk1.below hB110 hk1.pos
      refine seq_yis hS (by decide) rfl (by decide) rfl (runs_move rfl) (fun a1 hS => ?_)
      refine seq_yis hS (by decide) rfl (by decide) rfl (runs_conv rfl hcv10) (fun a1 hS => ?_)
      refine seq_yes hS (by decide) rfl (by decide) rfl (runs_buildSlice (pv := [(0, .slice (some ⟨w9.heap.size, 0, none⟩) y.size c10)]) rfl undParts hib hzb0 hzbs (by omega) (by omega) (cells := #[.slice (some ⟨w9.heap.size, 0, none⟩) y.size c10]) (by kernel_rfl)) (fun vq w11 aq hpqw11 hS => ?_)
      obtain ⟨rfl, rfl⟩ := hpqw11
      have hPw11 := parts_of hS10
      have hDw11 : Below w10.heap.size w10 (w10.alloc (.cells #[.slice (some ⟨w9.heap.size, 0, none⟩) y.size c10] 37)) := (Below.refl _ _).alloc (Nat.le_refl _) _
      generalize w10.alloc (.cells #[.slice (some ⟨w9.heap.size, 0, none⟩) y.size c10] 37) = w11 at *
      refine seq_yes hS (by decide) rfl (by decide) rfl (runs_call (args := [.slice (some ⟨w10.heap.size, 0, none⟩) 1 1]) goes18 rfl (hash_post (fun w' => Below w11.heap.size w11 w') (by have := of_any [bl y] _ w11 hPw11 (fun l hl => by rw [List.mem_singleton.1 hl]; exact bl_bytes y) (hk10.below hDw11 hk10.pos) (by simp [bl_length]; omega); rwa [List.flatten_singleton] at this) (fun _ h => h))) (fun v12 w12 a12 hp12 hS => ?_)
      obtain ⟨rfl, hB12⟩ := hp12
      have hB112 : Below w1.heap.size w1 w12 := hB110.trans ((hDw11.trans (hB12.mono hDw11.size)).mono hB110.size)
      refine seq_yis hS (by decide) rfl (by decide) rfl (runs_eqHash (r := true) rfl rfl Sha.Holds.sumText Sha.Holds.sumText (by rw [hsum]; simp)) (fun a1 hS => ?_)
      refine seq_is hS (by decide) (runs_pick rfl rfl) (fun a1 hS => ?_)
      refine seq_is hS (by decide) (runs_assign rfl) (fun a1 hS => ?_)
      exact nil_ok (qx_ret (ret1 (t := 14) (by kernel_rfl) hS rfl ⟨rfl, hB1.trans (hB112.mono hB1.size)⟩))
end Go.Proofs.YtdemoidmhmdgkaaDoor
