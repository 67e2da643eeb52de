/- The walk of TreeProves. Conditions: the table of constants lies as it was laid. -/
import Derived.Test.YtlldcicnakdjmaaDoorTSame
namespace Go.Proofs.YtlldcicnakdjmaaDoor
open Go.RowKit

set_option maxRecDepth 100000 in
set_option maxHeartbeats 1000000 in
theorem proves_walk (v : Value) (ss : List ByteArray) (at_ : Int) (w : World) (hs : Strs w v ss) (hk : Kept w) : Calls Tryd.prog 5 #[v, .int .i64 at_] w fun e w' => e = .returned (.bool true) ∧ Below w.heap.size w w' := by
  obtain ⟨A, c, rfl, hs0⟩ := id hs
  refine calls_qx (args := [.slice A ss.length c, .int .i64 at_]) 71 Tryd.func5 rfl (by kernel_rfl) (by simp) (fun a hS => ?_)
  refine qx_seq (reg_seq ?_)
  refine seq_is hS (by decide) (runs_assign rfl) (fun a1 hS => ?_)
  refine nil_ok (qx_seq (qx_seq (reg_seq ?_)))
  refine seq_op hS (by decide) (runs_call (args := []) goes12 rfl (awake_call w hk)) (fun v1 w1 a1 hp1 hS => ?_)
  obtain ⟨rfl, hB1⟩ := hp1
  have hk1 := hk.below hB1 hk.pos
  have hs1 := hs.kept hB1
  refine seq_is hS (by decide) (runs_not (b := true) rfl) (fun a1 hS => ?_)
  refine seq_is hS (by decide) (runs_move rfl) (fun a1 hS => ?_)
  refine seq_yis hS (by decide) rfl (by decide) rfl (runs_move rfl) (fun a1 hS => ?_)
  refine seq_yis hS (by decide) rfl (by decide) rfl (runs_call (args := [.slice A ss.length c]) goes13 rfl (few_call ss _ w1 hs1)) (fun a1 hS => ?_)
  cases hf : fewB ss with
  | false =>
    rw [hf] at hS
    refine seq_yis hS (by decide) rfl (by decide) rfl (runs_not (b := false) rfl) (fun a1 hS => ?_)
    refine seq_is hS (by decide) (runs_pick rfl rfl) (fun a1 hS => ?_)
    refine nil_ok (wp_cond_true (hS.eval rfl) (qx_seq (reg_seq ?_)))
    refine seq_op hS (by decide) (runs_call (args := []) goes12 rfl (awake_call w1 hk1)) (fun v2 w2 a2 hp2 hS => ?_)
    obtain ⟨rfl, hB2⟩ := hp2
    refine seq_is hS (by decide) (runs_assign rfl) (fun a1 hS => ?_)
    exact nil_ok (qx_ret (ret1 (t := 4) (by kernel_rfl) hS rfl ⟨rfl, hB1.trans (hB2.mono hB1.size)⟩))
  | true =>
    rw [hf] at hS
    simp only [fewB, Bool.and_eq_true, List.all_eq_true, decide_eq_true_eq] at hf
    obtain ⟨hsz, hn20⟩ := hf
    have hsz1 : ∀ s ∈ ss, s.size ≤ 100000 := fun s h => by have := hsz s h; omega
    have hsz2 : ∀ s ∈ ss, s.size ≤ 900 := fun s h => by have := hsz s h; omega
    obtain ⟨i9, hi9, hz9, hzs9, hzb9⟩ := info_parts infStr
    refine seq_yis hS (by decide) rfl (by decide) rfl (runs_not (b := true) rfl) (fun a1 hS => ?_)
    refine seq_is hS (by decide) (runs_pick rfl rfl) (fun a1 hS => ?_)
    refine nil_ok (wp_cond_false (hS.eval rfl) (wp_skip ?_))
    refine qx_seq (reg_seq ?_)
    refine seq_op hS (by decide) (runs_buildNone undStrs hi9) (fun v2 w2 a2 hp2 hS => ?_)
    obtain ⟨rfl, rfl⟩ := hp2
    have hB2 : Below w1.heap.size w1 (w1.alloc (.cells #[] 9)) := (Below.refl _ _).alloc (Nat.le_refl _) _
    generalize w1.alloc (.cells #[] 9) = w2 at *
    refine seq_is hS (by decide) (runs_move rfl) (fun a1 hS => ?_)
    refine seq_op hS (by decide) (copy_strs (hs1.kept hB2) (by omega) rfl rfl) (fun v3 w3 a3 hp3 hS => ?_)
    obtain ⟨hs3, hB3⟩ := hp3
    have hB13 : Below w1.heap.size w1 w3 := hB2.trans (hB3.mono hB2.size)
    refine seq_is hS (by decide) (runs_move rfl) (fun a1 hS => ?_)
    refine seq_op hS (by decide) (runs_call (args := [v3, .int .i64 at_]) (Post := fun v w' => ∃ pv : Value, v = .tuple #[pv, .int .i64 (if thereB ss.length at_ then 0 else 30)] ∧ Hashes w' pv (if thereB ss.length at_ then proofOf (ss.map bl) at_.toNat else []) ∧ Below w3.heap.size w3 w') goes24 rfl ((prove_any ss v3 at_ w3 hs3 hsz1 (by omega) (hk1.below hB13 hk1.pos)).mono (by rintro e w' ⟨pv, rfl, h⟩; exact ⟨_, rfl, pv, rfl, h⟩))) (fun v4 w4 a4 hp4 hS => ?_)
    obtain ⟨pv, rfl, hH4, hB4⟩ := hp4
    have hB14 : Below w1.heap.size w1 w4 := hB13.trans (hB4.mono hB13.size)
    refine seq_is hS (by decide) (runs_move rfl) (fun a1 hS => ?_)
    refine seq_is hS (by decide) (runs_extract rfl rfl) (fun a1 hS => ?_)
    refine seq_is hS (by decide) (runs_extract rfl rfl) (fun a1 hS => ?_)
    refine seq_is hS (by decide) (runs_assign rfl) (fun a1 hS => ?_)
    refine seq_is hS (by decide) (runs_assign rfl) (fun a1 hS => ?_)
    refine nil_ok (qx_seq (qx_seq (reg_seq ?_)))
    have out : thereB ss.length at_ = false → ∀ (L : List (Nat × Value)) (a9 : Act) (N : Act → World → Prop) (X : Nat → Act → World → Prop), Sees 71 L a9 → look L 5 = some pv → look L 6 = some (.int .i64 (if thereB ss.length at_ then 0 else 30)) → ((Tryd.f5.body.bind (regionIn 5)).getD .skip).wp Tryd.prog (Qx (fun a' w' => Code.ret.wp Tryd.prog (Qx N X (Rets Tryd.prog Tryd.f5 (fun e w' => e = .returned (.bool true) ∧ Below w.heap.size w w'))) a' w') X (Rets Tryd.prog Tryd.f5 (fun e w' => e = .returned (.bool true) ∧ Below w.heap.size w w'))) a9 w4 := fun ht L a9 N X hS9 h5 h6 => by
      rw [ht] at hH4 h6
      obtain ⟨A4, c4, rfl, _⟩ := hH4
      simp only [Bool.false_eq_true, if_false] at h5 h6
      have hS := hS9
      refine reg_seq ?_
      refine seq_is hS (by decide) (runs_move h5) (fun a1 hS => ?_)
      refine seq_is hS (by decide) (runs_len rfl undHashes) (fun a1 hS => ?_)
      refine seq_is hS (by decide) (runs_eql (r := true) rfl rfl rfl) (fun a1 hS => ?_)
      refine seq_is hS (by decide) (runs_move rfl) (fun a1 hS => ?_)
      refine seq_yis hS (by decide) rfl (by decide) rfl (runs_move h6) (fun a1 hS => ?_)
      refine seq_yis hS (by decide) rfl (by decide) rfl (runs_eql (r := true) rfl rfl rfl) (fun a1 hS => ?_)
      refine seq_is hS (by decide) (runs_pick rfl rfl) (fun a1 hS => ?_)
      refine seq_is hS (by decide) (runs_assign rfl) (fun a1 hS => ?_)
      exact nil_ok (qx_ret (ret1 (t := 4) (by kernel_rfl) hS rfl ⟨rfl, hB1.trans (hB14.mono hB1.size)⟩))
    refine seq_is hS (by decide) (runs_move rfl) (fun a1 hS => ?_)
    by_cases h0 : at_ < 0
    · have ht : thereB ss.length at_ = false := by simp only [thereB, Bool.and_eq_false_iff, decide_eq_false_iff_not]; omega
      refine seq_is hS (by decide) (runs_lss (r := true) rfl rfl (by rw [decide_eq_true_eq]; omega)) (fun a1 hS => ?_)
      refine seq_is hS (by decide) (runs_move rfl) (fun a1 hS => ?_)
      refine seq_no hS (by decide) rfl (by decide) rfl rfl (fun a1 hS => ?_)
      refine seq_no hS (by decide) rfl (by decide) rfl rfl (fun a1 hS => ?_)
      refine seq_no hS (by decide) rfl (by decide) rfl rfl (fun a1 hS => ?_)
      refine seq_no hS (by decide) rfl (by decide) rfl rfl (fun a1 hS => ?_)
      refine seq_is hS (by decide) (runs_pick rfl rfl) (fun a1 hS => ?_)
      exact nil_ok (wp_cond_true (hS.eval rfl) (qx_seq (out ht _ _ _ _ hS rfl rfl)))
    · refine seq_is hS (by decide) (runs_lss (r := false) rfl rfl (by rw [decide_eq_false_iff_not]; omega)) (fun a1 hS => ?_)
      refine seq_is hS (by decide) (runs_move rfl) (fun a1 hS => ?_)
      refine seq_yis hS (by decide) rfl (by decide) rfl (runs_move rfl) (fun a1 hS => ?_)
      refine seq_yis hS (by decide) rfl (by decide) rfl (runs_move rfl) (fun a1 hS => ?_)
      refine seq_yis hS (by decide) rfl (by decide) rfl (runs_len rfl undStrs) (fun a1 hS => ?_)
      by_cases h1 : at_ ≥ ss.length
      · have ht : thereB ss.length at_ = false := by simp only [thereB, Bool.and_eq_false_iff, decide_eq_false_iff_not]; omega
        refine seq_yis hS (by decide) rfl (by decide) rfl (runs_geq (r := true) rfl rfl (by rw [decide_eq_true_eq]; omega)) (fun a1 hS => ?_)
        refine seq_is hS (by decide) (runs_pick rfl rfl) (fun a1 hS => ?_)
        exact nil_ok (wp_cond_true (hS.eval rfl) (qx_seq (out ht _ _ _ _ hS rfl rfl)))
      · have ht : thereB ss.length at_ = true := by simp only [thereB, Bool.and_eq_true, decide_eq_true_eq]; omega
        refine seq_yis hS (by decide) rfl (by decide) rfl (runs_geq (r := false) rfl rfl (by rw [decide_eq_false_iff_not]; omega)) (fun a1 hS => ?_)
        refine seq_is hS (by decide) (runs_pick rfl rfl) (fun a1 hS => ?_)
        refine nil_ok (wp_cond_false (hS.eval rfl) (wp_skip ?_))
        obtain ⟨p, rfl⟩ := Int.eq_ofNat_of_zero_le (show 0 ≤ at_ by omega)
        have hp : p < ss.length := by omega
        rw [ht] at hH4 hS
        simp only [if_true, Int.toNat_natCast] at hH4
        have hpl := proof_len (ss.map bl) p (by simpa using hp) (by simp; omega)
        have hchk := check_proof (ss.map bl) p (by simpa using hp) (by simp; omega)
        rw [List.length_map] at hpl hchk
        have hpok := proofOf_ok (ss.map bl) p
        obtain ⟨hs', hpe⟩ : ∃ x, x = proofOf (ss.map bl) p := ⟨_, rfl⟩
        rw [← hpe] at hH4 hpl hchk hpok
        have hp20 : hs'.length ≤ 20 := by
          rw [hpe]; unfold proofOf; rw [List.length_map]
          exact path_len 20 _ _ _ (by simp; omega)
        have hH5 := hH4
        obtain ⟨A4, c4, rfl, _⟩ := hH5
        have hs4 := hs1.kept hB14
        have hk4 := hk1.below hB14 hk1.pos
        obtain ⟨A5, c5, e5, _, _, hA5⟩ := id hs4
        simp only [Value.slice.injEq] at e5
        obtain ⟨rfl, _, rfl⟩ := e5
        obtain ⟨b, o, rfl, hb, hcell⟩ := hA5 (by omega)
        have hcp := hcell p hp
        have hgd : (ss.map bl).getD p [] = bl (ss.getD p ByteArray.empty) := by simp [hp]
        rw [hgd] at hchk
        have hsp : (ss.getD p ByteArray.empty).size ≤ 100000 := by
          rw [List.getD_eq_getElem?_getD, List.getElem?_eq_getElem hp]; exact hsz1 _ (List.getElem_mem hp)
        generalize ss.getD p ByteArray.empty = sp at *
        have hS := hS.only [(0, .slice (some ⟨b, o, none⟩) ss.length c), (1, .int .i64 (p : Int)), (5, .slice A4 hs'.length c4), (6, .int .i64 0)] ⟨rfl, rfl, rfl, rfl, trivial⟩
        refine qx_seq (reg_guard (fun w' => Below w4.heap.size w4 w') [.inl (.int .i64 0), .inl (.bool true), .inl (.bool true), .inl (.slice A4 hs'.length c4), .inl (.slice (some ⟨b, o, none⟩) ss.length c), .inl (.int .i64 (p : Int)), .inr (fun v w' => Hashes w' v hs'), .inl (.bool true), .inl (.bool true), .inl (.bool true), .inr (fun v _ => ∃ g, v = .slice (some ⟨g, 0, none⟩) 0 0), .inl (.slice (some ⟨b, o, none⟩) ss.length c), .inr (fun v w' => Strs w' v ss), .inl (.agg (U8 (Tree.root ss.length (Tree.top (ss.map bl)))).toArray), .inl (.slice (some ⟨b, o, none⟩) ss.length c), .inl (.int .i64 ((ss.length : Nat) : Int)), .inl (.int .i64 (p : Int)), .inl (.slice (some ⟨b, o, none⟩) ss.length c), .inl (.int .i64 (p : Int)), .inl (.pointer (some ⟨b, o + p, none⟩)), .inl (.string sp), .inl (.slice A4 hs'.length c4), .inl (.bool true), .inl (.bool true), .inl (.bool true), .inl (.slice (some ⟨b, o, none⟩) ss.length c), .inl (.int .i64 ((ss.length : Nat) : Int)), .inl (.int .i64 (p : Int)), .inl (.int .i64 ((hs'.length : Nat) : Int)), .inl (.slice A4 hs'.length c4), .inl (.int .i64 ((hs'.length : Nat) : Int)), .inl (.bool true), .inl (.bool true), .inl (.bool true)] 34 0 mixed rfl (by kernel_rfl) hS (Below.refl _ _) (fun _ h => h.drew) ?_)
        refine hs_is rfl (fun w' hw => runs_move rfl) ?_
        refine hs_is rfl (fun w' hw => runs_eql (r := true) rfl rfl rfl) ?_
        refine hs_is rfl (fun w' hw => runs_move rfl) ?_
        refine hs_yis rfl rfl (fun w' hw => runs_move rfl) ?_
        refine hs_yis rfl rfl (fun w' hw => runs_move rfl) ?_
        refine hs_yis rfl rfl (fun w' hw => runs_move rfl) ?_
        refine hs_ypr rfl rfl (fun _ _ _ h hb => h.kept hb) (fun w' hw hq => runs_call (args := [.slice (some ⟨b, o, none⟩) ss.length c, .int .i64 (p : Int)]) goes26 rfl ((refProve_any ss.length ss _ p w' rfl hp (hs4.kept hw) hsz2 (by omega)).mono (by rintro e w2 ⟨q, rfl, h1, h2⟩; rw [← hpe] at h1; exact ⟨_, rfl, hashes_own h1 hpok, hw.trans (h2.mono hw.size), h2⟩))) (fun v44 => ?_)
        refine hs_yval rfl rfl (fun w' hw hq => runs_call (args := [.slice A4 hs'.length c4, v44]) goes25 rfl (bool_post _ (by have := refSame_any hs' hs' _ v44 w' (hH4.kept hw) (hq (6, _) List.mem_cons_self (by kernel_rfl)); rwa [beq_self_eq_true] at this) (fun _ h => ⟨hw.trans (h.mono hw.size), h⟩))) ?_
        refine hs_is rfl (fun w' hw => runs_pick rfl rfl) ?_
        refine hs_is rfl (fun w' hw => runs_move rfl) ?_
        refine hs_ypr rfl rfl (fun _ _ _ h _ => h) (fun w' hw hq => (runs_buildNone undStrs hi9).mono (by rintro v w2 ⟨rfl, rfl⟩; exact ⟨⟨_, rfl⟩, hw.alloc hw.size _, (Below.refl _ _).alloc (Nat.le_refl _) _⟩)) (fun v48 => ?_)
        refine hs_yis rfl rfl (fun w' hw => runs_move rfl) ?_
        refine hs_ypr rfl rfl (fun _ _ _ h hb => h.kept hb) (fun w' hw hq => (by obtain ⟨g, rfl⟩ := hq (10, _) List.mem_cons_self (by kernel_rfl); exact (copy_strs (hs4.kept hw) (by omega) rfl rfl).mono (by rintro u w2 ⟨h1, h2⟩; exact ⟨h1, hw.trans (h2.mono hw.size), h2⟩))) (fun v50 => ?_)
        refine hs_yval rfl rfl (fun w' hw hq => runs_call (args := [v50]) goes16 rfl (hash_post _ (root_any ss v50 w' (hq (12, _) List.mem_cons_self (by kernel_rfl)) hsz1 (by omega) (hk4.below hw hk4.pos)) (fun _ h => ⟨hw.trans (h.mono hw.size), h⟩))) ?_
        refine hs_yis rfl rfl (fun w' hw => runs_move rfl) ?_
        refine hs_yis rfl rfl (fun w' hw => runs_len rfl undStrs) ?_
        refine hs_yis rfl rfl (fun w' hw => runs_move rfl) ?_
        refine hs_yis rfl rfl (fun w' hw => runs_move rfl) ?_
        refine hs_yis rfl rfl (fun w' hw => runs_move rfl) ?_
        refine hs_yis rfl rfl (fun w' hw => runs_indexAddr (j := p) rfl rfl undStrs infStr1 rfl hp) ?_
        refine hs_yis rfl rfl (fun w' hw => runs_load rfl (by kernel_rfl) (by rw [hw.cell (p := ⟨b, o + p, none⟩) hb]; exact hcp)) ?_
        refine hs_yis rfl rfl (fun w' hw => runs_move rfl) ?_
        refine hs_yval rfl rfl (fun w' hw hq => runs_call (args := [.agg (U8 (Tree.root ss.length (Tree.top (ss.map bl)))).toArray, .int .i64 (ss.length : Int), .int .i64 (p : Int), .string sp, .slice A4 hs'.length c4]) goes27 rfl (bool_post _ (by have := check_any (Tree.root ss.length (Tree.top (ss.map bl))) ss.length p sp _ hs' w' (root_len _ _) (hH4.kept hw) (by omega) hsp (hk4.below hw hk4.pos); rwa [hchk] at this) (fun _ h => ⟨hw.trans (h.mono hw.size), h⟩))) ?_
        refine hs_is rfl (fun w' hw => runs_pick rfl rfl) ?_
        refine hs_is rfl (fun w' hw => runs_move rfl) ?_
        refine hs_yis rfl rfl (fun w' hw => runs_move rfl) ?_
        refine hs_yis rfl rfl (fun w' hw => runs_len rfl undStrs) ?_
        refine hs_yis rfl rfl (fun w' hw => runs_move rfl) ?_
        refine hs_yval rfl rfl (fun w' hw hq => runs_call (args := [.int .i64 (ss.length : Int), .int .i64 (p : Int)]) goes28 rfl ((deep_any ss.length p w').mono (by rintro e w2 ⟨rfl, h⟩; exact ⟨_, rfl, by rw [hpl], hw.trans (h.mono hw.size), h⟩))) ?_
        refine hs_yis rfl rfl (fun w' hw => runs_move rfl) ?_
        refine hs_yis rfl rfl (fun w' hw => runs_len rfl undHashes) ?_
        refine hs_yis rfl rfl (fun w' hw => runs_eql (r := true) rfl rfl (beq_iff_eq.2 rfl)) ?_
        refine hs_is rfl (fun w' hw => runs_pick rfl rfl) ?_
        refine hs_is rfl (fun w' hw => runs_assign rfl) ?_
        refine (fun a5 w5 hS5 hB5 _ => ?_)
        refine wpAnyH_done (by kernel_rfl) ?_ _
        exact qx_ret (ret1 (t := 4) (by kernel_rfl) hS5 rfl ⟨rfl, hB1.trans ((hB14.trans (hB5.mono hB14.size)).mono hB1.size)⟩)
end Go.Proofs.YtlldcicnakdjmaaDoor
