/- The walk of ManyChecks. Conditions: the table of constants lies as it was laid. -/
import Derived.Test.YtdemoidmhmdgkaaDoorMAwake
import Derived.Test.YtdemoidmhmdgkaaDoorMRTop
namespace Go.Proofs.YtdemoidmhmdgkaaDoor
open Go.RowKit Many
set_option maxRecDepth 100000

set_option maxHeartbeats 2000000 in
theorem mchecks_walk (root : List Nat) (hrb : Sha.Bytes root) (hrl : root.length = 32) (n : Int) (atv : Value) (xs : List Int) (lv : Value) (ss : List ByteArray) (pv : Value) (hs : List (List Nat)) (w : World) (hx : Ints w atv xs) (hL : Strs w lv ss) (hH : Hashes w pv hs) (hk : Kept w) : Calls Tryd.prog 6 #[.agg (U8 root).toArray, .int .i64 n, atv, lv, pv] w fun e w' => e = .returned (.bool true) ∧ Below w.heap.size w w' := by
  obtain ⟨A1, c1, rfl, _⟩ := id hx
  obtain ⟨A, c, rfl, _⟩ := id hL
  obtain ⟨A4, c4, rfl, _⟩ := id hH
  refine calls_qx (args := [.agg (U8 root).toArray, .int .i64 n, .slice A1 xs.length c1, .slice A ss.length c, .slice A4 hs.length c4]) 59 Tryd.func6 rfl (by kernel_rfl) (by simp) (fun a hS => ?_)
  refine qx_seq (reg_seq ?_)
  refine seq_op hS (by decide) (runs_box rfl) (fun v1 w0 a1 hp1 hS => ?_)
  obtain ⟨rfl, rfl⟩ := hp1
  have hR0 : Has (w.alloc (.cells (Value.agg (U8 root).toArray).cells 26)) w.heap.size 26 (U8 root) := Has.new w 26 (U8 root)
  have hB0 : Below w.heap.size w (w.alloc (.cells (Value.agg (U8 root).toArray).cells 26)) := (Below.refl _ _).alloc (Nat.le_refl _) _
  generalize w.alloc (.cells (Value.agg (U8 root).toArray).cells 26) = w0 at *
  have hk0 := hk.below hB0 hk.pos
  refine seq_is hS (by decide) (runs_assign rfl) (fun a1 hS => ?_)
  refine nil_ok (qx_seq (qx_seq (reg_seq ?_)))
  refine seq_op hS (by decide) (runs_call (args := []) goes19 rfl (awakeM_call w0 hk0)) (fun v1 w1 a1 hp1 hS => ?_)
  obtain ⟨rfl, hB01⟩ := hp1
  have hB1 : Below w.heap.size w w1 := hB0.trans (hB01.mono hB0.size)
  have hk1 := hk.below hB1 hk.pos
  have hs1 := hL.kept hB1
  have hx1 := hx.kept hB1
  have hH1 := hH.kept hB1
  have hR1 := hR0.below hB01 hR0.lt
  refine seq_is hS (by decide) (runs_not (b := true) rfl) (fun a1 hS => ?_)
  refine seq_is hS (by decide) (runs_move rfl) (fun a1 hS => ?_)
  refine seq_yis hS (by decide) rfl (by decide) rfl (runs_move rfl) (fun a1 hS => ?_)
  refine seq_yis hS (by decide) rfl (by decide) rfl (runs_call (args := [.slice A ss.length c]) goes12 rfl (few_call ss _ w1 hs1)) (fun a1 hS => ?_)
  have last : ∀ (L : List (Nat × Value)) (a9 : Act) (N : Act → World → Prop) (X : Nat → Act → World → Prop), Sees 59 L a9 → ((Tryd.f6.body.bind (regionIn 2)).getD .skip).wp Tryd.prog (Qx (fun a' w' => Code.ret.wp Tryd.prog (Qx N X (Rets Tryd.prog Tryd.f6 (fun e w' => e = .returned (.bool true) ∧ Below w.heap.size w w'))) a' w') X (Rets Tryd.prog Tryd.f6 (fun e w' => e = .returned (.bool true) ∧ Below w.heap.size w w'))) a9 w1 := fun L a9 N X hS => by
    refine reg_seq ?_
    refine seq_op hS (by decide) (runs_call (args := []) goes19 rfl (awakeM_call w1 hk1)) (fun v2 w2 a2 hp2 hS => ?_)
    obtain ⟨rfl, hB2⟩ := hp2
    refine seq_is hS (by decide) (runs_assign rfl) (fun a1 hS => ?_)
    exact nil_ok (qx_ret (ret1 (t := 10) (by kernel_rfl) hS rfl ⟨rfl, hB1.trans (hB2.mono hB1.size)⟩))
  cases hf : fewB ss with
  | false =>
    rw [hf] at hS
    refine seq_yis hS (by decide) rfl (by decide) rfl (runs_not (b := false) rfl) (fun a1 hS => ?_)
    refine seq_is hS (by decide) (runs_pick rfl rfl) (fun a1 hS => ?_)
    refine seq_is hS (by decide) (runs_move rfl) (fun a1 hS => ?_)
    refine seq_no hS (by decide) rfl (by decide) rfl rfl (fun a1 hS => ?_)
    refine seq_no hS (by decide) rfl (by decide) rfl rfl (fun a1 hS => ?_)
    refine seq_no hS (by decide) rfl (by decide) rfl rfl (fun a1 hS => ?_)
    refine seq_is hS (by decide) (runs_pick rfl rfl) (fun a1 hS => ?_)
    refine seq_is hS (by decide) (runs_move rfl) (fun a1 hS => ?_)
    refine seq_no hS (by decide) rfl (by decide) rfl rfl (fun a1 hS => ?_)
    refine seq_no hS (by decide) rfl (by decide) rfl rfl (fun a1 hS => ?_)
    refine seq_no hS (by decide) rfl (by decide) rfl rfl (fun a1 hS => ?_)
    refine seq_is hS (by decide) (runs_pick rfl rfl) (fun a1 hS => ?_)
    exact nil_ok (wp_cond_true (hS.eval rfl) (qx_seq (last _ _ _ _ hS)))
  | true =>
    rw [hf] at hS
    simp only [fewB, Bool.and_eq_true, List.all_eq_true, decide_eq_true_eq] at hf
    obtain ⟨hsz, hn20⟩ := hf
    have hsz1 : ∀ s ∈ ss, s.size ≤ 100000 := fun s h => by have := hsz s h; omega
    have hsz2 : ∀ s ∈ ss, s.size ≤ 900 := fun s h => by have := hsz s h; omega
    obtain ⟨i9, hi9, hz9, hzs9, hzb9⟩ := info_parts infStr
    obtain ⟨i3, hi3, hz3, hzs3, hzb3⟩ := info_parts infInt
    obtain ⟨ih, hih, hzh, hszh, hbh⟩ := info_parts infHashb
    refine seq_yis hS (by decide) rfl (by decide) rfl (runs_not (b := true) rfl) (fun a1 hS => ?_)
    refine seq_is hS (by decide) (runs_pick rfl rfl) (fun a1 hS => ?_)
    refine seq_is hS (by decide) (runs_move rfl) (fun a1 hS => ?_)
    refine seq_yis hS (by decide) rfl (by decide) rfl (runs_move rfl) (fun a1 hS => ?_)
    refine seq_yis hS (by decide) rfl (by decide) rfl (runs_len rfl undInts) (fun a1 hS => ?_)
    by_cases h1 : 20 < xs.length
    · refine seq_yis hS (by decide) rfl (by decide) rfl (runs_gtr (r := true) rfl rfl (by rw [decide_eq_true_eq]; omega)) (fun a1 hS => ?_)
      refine seq_is hS (by decide) (runs_pick rfl rfl) (fun a1 hS => ?_)
      refine seq_is hS (by decide) (runs_move rfl) (fun a1 hS => ?_)
      refine seq_no hS (by decide) rfl (by decide) rfl rfl (fun a1 hS => ?_)
      refine seq_no hS (by decide) rfl (by decide) rfl rfl (fun a1 hS => ?_)
      refine seq_no hS (by decide) rfl (by decide) rfl rfl (fun a1 hS => ?_)
      refine seq_is hS (by decide) (runs_pick rfl rfl) (fun a1 hS => ?_)
      exact nil_ok (wp_cond_true (hS.eval rfl) (qx_seq (last _ _ _ _ hS)))
    refine seq_yis hS (by decide) rfl (by decide) rfl (runs_gtr (r := false) rfl rfl (by rw [decide_eq_false_iff_not]; omega)) (fun a1 hS => ?_)
    refine seq_is hS (by decide) (runs_pick rfl rfl) (fun a1 hS => ?_)
    refine seq_is hS (by decide) (runs_move rfl) (fun a1 hS => ?_)
    refine seq_yis hS (by decide) rfl (by decide) rfl (runs_move rfl) (fun a1 hS => ?_)
    refine seq_yis hS (by decide) rfl (by decide) rfl (runs_len rfl undHashes) (fun a1 hS => ?_)
    by_cases h2 : 300 < hs.length
    · refine seq_yis hS (by decide) rfl (by decide) rfl (runs_gtr (r := true) rfl rfl (by rw [decide_eq_true_eq]; omega)) (fun a1 hS => ?_)
      refine seq_is hS (by decide) (runs_pick rfl rfl) (fun a1 hS => ?_)
      exact nil_ok (wp_cond_true (hS.eval rfl) (qx_seq (last _ _ _ _ hS)))
    refine seq_yis hS (by decide) rfl (by decide) rfl (runs_gtr (r := false) rfl rfl (by rw [decide_eq_false_iff_not]; omega)) (fun a1 hS => ?_)
    refine seq_is hS (by decide) (runs_pick rfl rfl) (fun a1 hS => ?_)
    refine nil_ok (wp_cond_false (hS.eval rfl) (wp_skip (qx_seq ?_)))
    have hS := hS.only [(1, .int .i64 n), (2, .slice A1 xs.length c1), (3, .slice A ss.length c), (4, .slice A4 hs.length c4), (5, .pointer (some ⟨w.heap.size, 0, none⟩))] ⟨rfl, rfl, rfl, rfl, rfl, trivial⟩
    refine reg_guard (fun w' => Below w1.heap.size w1 w') [.inl (.agg (U8 root).toArray), .inl (.int .i64 n), .inr (fun v _ => ∃ g, v = .slice (some ⟨g, 0, none⟩) 0 0), .inl (.slice A1 xs.length c1), .inr (fun v w' => Ints w' v xs), .inr (fun v _ => ∃ g, v = .slice (some ⟨g, 0, none⟩) 0 0), .inl (.slice A ss.length c), .inr (fun v w' => Strs w' v ss), .inr (fun v _ => ∃ g, v = .slice (some ⟨g, 0, none⟩) 0 0), .inl (.slice A4 hs.length c4), .inr (fun v w' => Hashes w' v hs), .inl (.bool (checkM root n xs (ss.map bl) hs)), .inl (.agg (U8 root).toArray), .inl (.int .i64 n), .inl (.slice A1 xs.length c1), .inl (.slice A ss.length c), .inl (.slice A4 hs.length c4), .inl (.bool (checkM root n xs (ss.map bl) hs)), .inl (.bool true), .inl (.bool true), .inl (.int .i64 n), .inr (fun v _ => ∃ g, v = .slice (some ⟨g, 0, none⟩) 0 0), .inl (.slice A1 xs.length c1), .inr (fun v w' => Ints w' v xs), .inl (.int .i64 ((sizeZ n xs : Nat) : Int)), .inl (.int .i64 n), .inl (.slice A1 xs.length c1), .inl (.int .i64 ((sizeZ n xs : Nat) : Int)), .inl (.bool true), .inl (.bool true), .inl (.bool true)] 31 0 mixed rfl (by kernel_rfl) hS (Below.refl _ _) (fun _ h => h.drew) ?_
    refine hs_is rfl (fun w' hw => runs_loadRow rfl (hR1.below hw hR1.lt) undHash rfl (by rw [infHash]; simp [hrl])) ?_
    refine hs_is rfl (fun w' hw => runs_move rfl) ?_
    refine hs_pr rfl (fun _ _ _ h _ => h) (fun w' hw hq => (runs_buildNone undInts hi3).mono (by rintro v w2 ⟨rfl, rfl⟩; exact ⟨⟨_, rfl⟩, hw.alloc hw.size _, (Below.refl _ _).alloc (Nat.le_refl _) _⟩)) (fun v31 => ?_)
    refine hs_is rfl (fun w' hw => runs_move rfl) ?_
    refine hs_pr rfl (fun _ _ _ h hb => h.kept hb) (fun w' hw hq => (by obtain ⟨g, rfl⟩ := hq (2, _) List.mem_cons_self (by kernel_rfl); exact (copy_ints (hx1.kept hw) (by omega) rfl rfl).mono (by rintro u w2 ⟨h1, h2⟩; exact ⟨h1, hw.trans (h2.mono hw.size), h2⟩))) (fun v33 => ?_)
    refine hs_pr rfl (fun _ _ _ h _ => h) (fun w' hw hq => (runs_buildNone undStrs hi9).mono (by rintro v w2 ⟨rfl, rfl⟩; exact ⟨⟨_, rfl⟩, hw.alloc hw.size _, (Below.refl _ _).alloc (Nat.le_refl _) _⟩)) (fun v34 => ?_)
    refine hs_is rfl (fun w' hw => runs_move rfl) ?_
    refine hs_pr rfl (fun _ _ _ h hb => h.kept hb) (fun w' hw hq => (by obtain ⟨g, rfl⟩ := hq (5, _) List.mem_cons_self (by kernel_rfl); exact (copy_strs (hs1.kept hw) (by omega) rfl rfl).mono (by rintro u w2 ⟨h1, h2⟩; exact ⟨h1, hw.trans (h2.mono hw.size), h2⟩))) (fun v36 => ?_)
    refine hs_pr rfl (fun _ _ _ h _ => h) (fun w' hw hq => (runs_buildNone undHashes hih).mono (by rintro v w2 ⟨rfl, rfl⟩; exact ⟨⟨_, rfl⟩, hw.alloc hw.size _, (Below.refl _ _).alloc (Nat.le_refl _) _⟩)) (fun v37 => ?_)
    refine hs_is rfl (fun w' hw => runs_move rfl) ?_
    refine hs_pr rfl (fun _ _ _ h hb => h.kept hb) (fun w' hw hq => (by obtain ⟨g, rfl⟩ := hq (8, _) List.mem_cons_self (by kernel_rfl); exact (copy_hashes (hH1.kept hw) (by omega) rfl rfl).mono (by rintro u w2 ⟨h1, h2⟩; exact ⟨h1, hw.trans (h2.mono hw.size), h2⟩))) (fun v39 => ?_)
    refine hs_val rfl (fun w' hw hq => runs_call (args := [.agg (U8 root).toArray, .int .i64 n, v33, v36, v39]) goes26 rfl (bool_post _ (checkM_any root n xs ss hs v33 v36 v39 w' hrl (hq (4, _) (List.mem_cons_of_mem _ (List.mem_cons_of_mem _ (List.mem_cons_of_mem _ (List.mem_cons_of_mem _ List.mem_cons_self)))) (by kernel_rfl)) (hq (7, _) (List.mem_cons_of_mem _ (List.mem_cons_of_mem _ List.mem_cons_self)) (by kernel_rfl)) (hq (10, _) List.mem_cons_self (by kernel_rfl)) hsz1 (by omega) (by omega) (hk1.below hw hk1.pos)) (fun _ h => ⟨hw.trans (h.mono hw.size), h⟩))) ?_
    refine hs_is rfl (fun w' hw => runs_loadRow rfl (hR1.below hw hR1.lt) undHash rfl (by rw [infHash]; simp [hrl])) ?_
    refine hs_is rfl (fun w' hw => runs_move rfl) ?_
    refine hs_is rfl (fun w' hw => runs_move rfl) ?_
    refine hs_is rfl (fun w' hw => runs_move rfl) ?_
    refine hs_is rfl (fun w' hw => runs_move rfl) ?_
    refine hs_val rfl (fun w' hw hq => runs_call (args := [.agg (U8 root).toArray, .int .i64 n, .slice A1 xs.length c1, .slice A ss.length c, .slice A4 hs.length c4]) goes29 rfl (bool_post _ (refCheckM_any root n xs ss hs _ _ _ w' hrl hrb (hx1.kept hw) (hs1.kept hw) (hH1.kept hw) hsz2 (by omega)) (fun _ h => ⟨hw.trans (h.mono hw.size), h⟩))) ?_
    refine hs_is rfl (fun w' hw => runs_eqBool (r := true) rfl rfl (beq_iff_eq.2 rfl)) ?_
    refine hs_is rfl (fun w' hw => runs_move rfl) ?_
    refine hs_yis rfl rfl (fun w' hw => runs_move rfl) ?_
    refine hs_ypr rfl rfl (fun _ _ _ h _ => h) (fun w' hw hq => (runs_buildNone undInts hi3).mono (by rintro v w2 ⟨rfl, rfl⟩; exact ⟨⟨_, rfl⟩, hw.alloc hw.size _, (Below.refl _ _).alloc (Nat.le_refl _) _⟩)) (fun v50 => ?_)
    refine hs_yis rfl rfl (fun w' hw => runs_move rfl) ?_
    refine hs_ypr rfl rfl (fun _ _ _ h hb => h.kept hb) (fun w' hw hq => (by obtain ⟨g, rfl⟩ := hq (21, _) List.mem_cons_self (by kernel_rfl); exact (copy_ints (hx1.kept hw) (by omega) rfl rfl).mono (by rintro u w2 ⟨h1, h2⟩; exact ⟨h1, hw.trans (h2.mono hw.size), h2⟩))) (fun v52 => ?_)
    refine hs_yval rfl rfl (fun w' hw hq => runs_call (args := [.int .i64 n, v52]) goes23 rfl ((size_any n xs v52 w' (hq (23, _) List.mem_cons_self (by kernel_rfl))).mono (by rintro e w2 ⟨rfl, rfl⟩; exact ⟨_, rfl, rfl, hw, Below.refl _ _⟩))) ?_
    refine hs_yis rfl rfl (fun w' hw => runs_move rfl) ?_
    refine hs_yis rfl rfl (fun w' hw => runs_move rfl) ?_
    refine hs_yval rfl rfl (fun w' hw hq => runs_call (args := [.int .i64 n, .slice A1 xs.length c1]) goes30 rfl ((refSizeM_any n xs _ w' (hx1.kept hw)).mono (by rintro e w2 ⟨rfl, h⟩; exact ⟨_, rfl, rfl, hw.trans (h.mono hw.size), h⟩))) ?_
    refine hs_yis rfl rfl (fun w' hw => runs_eql (r := true) rfl rfl (beq_iff_eq.2 rfl)) ?_
    refine hs_is rfl (fun w' hw => runs_pick rfl rfl) ?_
    refine hs_is rfl (fun w' hw => runs_assign rfl) ?_
    refine (fun a5 w5 hS5 hB5 _ => ?_)
    refine wpAnyH_done (by kernel_rfl) ?_ _
    exact qx_ret (ret1 (t := 10) (by kernel_rfl) hS5 rfl ⟨rfl, hB1.trans (hB5.mono hB1.size)⟩)
end Go.Proofs.YtdemoidmhmdgkaaDoor
