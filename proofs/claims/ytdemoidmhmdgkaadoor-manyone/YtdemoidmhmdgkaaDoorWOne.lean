/- The walk of ManyOne. Conditions: the table of constants lies as it was laid. -/
import Derived.Test.YtdemoidmhmdgkaaDoorMAwake
namespace Go.Proofs.YtdemoidmhmdgkaaDoor
open Go.RowKit Many
set_option maxRecDepth 100000

/-- Of one leaf both chapters say the same. -/
theorem one_eq (l : List (List Nat)) (p : Nat) (r s : List Nat) (hp : p < l.length) (hn : l.length ≤ 65536) : checkM r l.length (ofN [p]) [s] (provesL l [p]) = checkB r l.length p s (proofOf l p) := by
  have hrp : risesB (l.length : Int) (-1) (ofN [p]) = true := rises_of l.length [p] (-1) ⟨by omega, hp, trivial⟩ (by omega)
  have ha : askB (l.length : Int) (ofN [p]) = true := by
    unfold askB
    rw [hrp, show decide ((0 : Int) ≤ l.length) = true by simp, show decide ((l.length : Int) ≤ 65536) = true by simp; omega]; rfl
  have hz : sizeZ (l.length : Int) (ofN [p]) = (parts 0 l.length [p]).length := by unfold sizeZ; rw [if_pos ha, toN_of]; simp
  have h1 : checkM r l.length (ofN [p]) [s] (provesL l [p]) = (Tree.root l.length (chk 0 l.length [p] (provesL l [p]) [s]) == r) := by
    unfold checkM
    rw [if_pos ⟨ha, rfl, by rw [hz]; simp [provesL]⟩, toN_of]; simp
  have hpl := proof_len l p hp (by omega)
  have h2 : checkB r l.length p s (proofOf l p) = (Tree.root l.length (ups (Tree.leaf s) (Tree.path 0 l.length p) (proofOf l p)) == r) := by
    unfold checkB
    rw [if_neg (by rw [hpl]; simp [thereB]; omega)]; simp
  rw [h1, h2]
  have := ups_eq_chk l s l.length 0 p
  unfold provesL proofOf
  rw [this]
set_option maxHeartbeats 2000000 in
theorem one_walk (root : List Nat) (hrt : root.length = 32) (v : Value) (ss : List ByteArray) (at_ : Int) (s : ByteArray) (w : World) (hs : Strs w v ss) (hk : Kept w) : Calls Tryd.prog 7 #[.agg (U8 root).toArray, v, .int .i64 at_, .string s] w fun e w' => e = .returned (.bool true) ∧ Below w.heap.size w w' := by
  obtain ⟨A, c, rfl, hs0⟩ := id hs
  refine calls_qx (args := [.agg (U8 root).toArray, .slice A ss.length c, .int .i64 at_, .string s]) 119 Tryd.func7 rfl (by kernel_rfl) (by simp) (fun a hS => ?_)
  refine qx_seq (reg_seq ?_)
  refine seq_op hS (by decide) (runs_box rfl) (fun v1 w0 a1 hp1 hS => ?_)
  obtain ⟨rfl, rfl⟩ := hp1
  have hR0 : Has (w.alloc (.cells (Value.agg (U8 root).toArray).cells 26)) w.heap.size 26 (U8 root) := Has.new w 26 (U8 root)
  have hB0 : Below w.heap.size w (w.alloc (.cells (Value.agg (U8 root).toArray).cells 26)) := (Below.refl _ _).alloc (Nat.le_refl _) _
  generalize w.alloc (.cells (Value.agg (U8 root).toArray).cells 26) = w0 at *
  have hk0 := hk.below hB0 hk.pos
  refine seq_is hS (by decide) (runs_assign rfl) (fun a1 hS => ?_)
  refine nil_ok (qx_seq (qx_seq (reg_seq ?_)))
  refine seq_op hS (by decide) (runs_call (args := []) goes19 rfl (awakeM_call w0 hk0)) (fun v1 w1 a1 hp1 hS => ?_)
  obtain ⟨rfl, hB01⟩ := hp1
  have hB1 : Below w.heap.size w w1 := hB0.trans (hB01.mono hB0.size)
  have hk1 := hk.below hB1 hk.pos
  have hs1 := hs.kept hB1
  have hR1 := hR0.below hB01 hR0.lt
  refine seq_is hS (by decide) (runs_not (b := true) rfl) (fun a1 hS => ?_)
  refine seq_is hS (by decide) (runs_move rfl) (fun a1 hS => ?_)
  refine seq_yis hS (by decide) rfl (by decide) rfl (runs_move rfl) (fun a1 hS => ?_)
  refine seq_yis hS (by decide) rfl (by decide) rfl (runs_call (args := [.slice A ss.length c]) goes12 rfl (few_call ss _ w1 hs1)) (fun a1 hS => ?_)
  have last : ∀ (L : List (Nat × Value)) (a9 : Act) (N : Act → World → Prop) (X : Nat → Act → World → Prop), Sees 119 L a9 → ((Tryd.f7.body.bind (regionIn 2)).getD .skip).wp Tryd.prog (Qx (fun a' w' => Code.ret.wp Tryd.prog (Qx N X (Rets Tryd.prog Tryd.f7 (fun e w' => e = .returned (.bool true) ∧ Below w.heap.size w w'))) a' w') X (Rets Tryd.prog Tryd.f7 (fun e w' => e = .returned (.bool true) ∧ Below w.heap.size w w'))) a9 w1 := fun L a9 N X hS => by
    refine reg_seq ?_
    refine seq_op hS (by decide) (runs_call (args := []) goes19 rfl (awakeM_call w1 hk1)) (fun v2 w2 a2 hp2 hS => ?_)
    obtain ⟨rfl, hB2⟩ := hp2
    refine seq_is hS (by decide) (runs_assign rfl) (fun a1 hS => ?_)
    exact nil_ok (qx_ret (ret1 (t := 8) (by kernel_rfl) hS rfl ⟨rfl, hB1.trans (hB2.mono hB1.size)⟩))
  cases hf : fewB ss with
  | false =>
    rw [hf] at hS
    refine seq_yis hS (by decide) rfl (by decide) rfl (runs_not (b := false) rfl) (fun a1 hS => ?_)
    refine seq_is hS (by decide) (runs_pick rfl rfl) (fun a1 hS => ?_)
    refine seq_is hS (by decide) (runs_move rfl) (fun a1 hS => ?_)
    refine seq_no hS (by decide) rfl (by decide) rfl rfl (fun a1 hS => ?_)
    refine seq_no hS (by decide) rfl (by decide) rfl rfl (fun a1 hS => ?_)
    refine seq_is hS (by decide) (runs_pick rfl rfl) (fun a1 hS => ?_)
    refine seq_is hS (by decide) (runs_move rfl) (fun a1 hS => ?_)
    refine seq_no hS (by decide) rfl (by decide) rfl rfl (fun a1 hS => ?_)
    refine seq_no hS (by decide) rfl (by decide) rfl rfl (fun a1 hS => ?_)
    refine seq_no hS (by decide) rfl (by decide) rfl rfl (fun a1 hS => ?_)
    refine seq_no hS (by decide) rfl (by decide) rfl rfl (fun a1 hS => ?_)
    refine seq_is hS (by decide) (runs_pick rfl rfl) (fun a1 hS => ?_)
    refine seq_is hS (by decide) (runs_move rfl) (fun a1 hS => ?_)
    refine seq_no hS (by decide) rfl (by decide) rfl rfl (fun a1 hS => ?_)
    refine seq_no hS (by decide) rfl (by decide) rfl rfl (fun a1 hS => ?_)
    refine seq_no hS (by decide) rfl (by decide) rfl rfl (fun a1 hS => ?_)
    refine seq_is hS (by decide) (runs_pick rfl rfl) (fun a1 hS => ?_)
    exact nil_ok (wp_cond_true (hS.eval rfl) (qx_seq (last _ _ _ _ hS)))
  | true =>
    rw [hf] at hS
    simp only [fewB, Bool.and_eq_true, List.all_eq_true, decide_eq_true_eq] at hf
    obtain ⟨hsz, hn20⟩ := hf
    have hsz1 : ∀ s ∈ ss, s.size ≤ 100000 := fun s h => by have := hsz s h; omega
    have hsz2 : ∀ s ∈ ss, s.size ≤ 900 := fun s h => by have := hsz s h; omega
    obtain ⟨i9, hi9, hz9, hzs9, hzb9⟩ := info_parts infStr
    obtain ⟨i3, hi3, hz3, hzs3, hzb3⟩ := info_parts infInt
    obtain ⟨ih, hih, hzh, hszh, hbh⟩ := info_parts infHashb
    refine seq_yis hS (by decide) rfl (by decide) rfl (runs_not (b := true) rfl) (fun a1 hS => ?_)
    refine seq_is hS (by decide) (runs_pick rfl rfl) (fun a1 hS => ?_)
    refine seq_is hS (by decide) (runs_move rfl) (fun a1 hS => ?_)
    refine seq_yis hS (by decide) rfl (by decide) rfl (runs_move rfl) (fun a1 hS => ?_)
    by_cases h0 : at_ < 0
    · refine seq_yis hS (by decide) rfl (by decide) rfl (runs_lss (r := true) rfl rfl (by rw [decide_eq_true_eq]; omega)) (fun a1 hS => ?_)
      refine seq_is hS (by decide) (runs_pick rfl rfl) (fun a1 hS => ?_)
      refine seq_is hS (by decide) (runs_move rfl) (fun a1 hS => ?_)
      refine seq_no hS (by decide) rfl (by decide) rfl rfl (fun a1 hS => ?_)
      refine seq_no hS (by decide) rfl (by decide) rfl rfl (fun a1 hS => ?_)
      refine seq_no hS (by decide) rfl (by decide) rfl rfl (fun a1 hS => ?_)
      refine seq_no hS (by decide) rfl (by decide) rfl rfl (fun a1 hS => ?_)
      refine seq_is hS (by decide) (runs_pick rfl rfl) (fun a1 hS => ?_)
      refine seq_is hS (by decide) (runs_move rfl) (fun a1 hS => ?_)
      refine seq_no hS (by decide) rfl (by decide) rfl rfl (fun a1 hS => ?_)
      refine seq_no hS (by decide) rfl (by decide) rfl rfl (fun a1 hS => ?_)
      refine seq_no hS (by decide) rfl (by decide) rfl rfl (fun a1 hS => ?_)
      refine seq_is hS (by decide) (runs_pick rfl rfl) (fun a1 hS => ?_)
      exact nil_ok (wp_cond_true (hS.eval rfl) (qx_seq (last _ _ _ _ hS)))
    refine seq_yis hS (by decide) rfl (by decide) rfl (runs_lss (r := false) rfl rfl (by rw [decide_eq_false_iff_not]; omega)) (fun a1 hS => ?_)
    refine seq_is hS (by decide) (runs_pick rfl rfl) (fun a1 hS => ?_)
    refine seq_is hS (by decide) (runs_move rfl) (fun a1 hS => ?_)
    refine seq_yis hS (by decide) rfl (by decide) rfl (runs_move rfl) (fun a1 hS => ?_)
    refine seq_yis hS (by decide) rfl (by decide) rfl (runs_move rfl) (fun a1 hS => ?_)
    refine seq_yis hS (by decide) rfl (by decide) rfl (runs_len rfl undStrs) (fun a1 hS => ?_)
    by_cases h1 : at_ ≥ ss.length
    · refine seq_yis hS (by decide) rfl (by decide) rfl (runs_geq (r := true) rfl rfl (by rw [decide_eq_true_eq]; omega)) (fun a1 hS => ?_)
      refine seq_is hS (by decide) (runs_pick rfl rfl) (fun a1 hS => ?_)
      refine seq_is hS (by decide) (runs_move rfl) (fun a1 hS => ?_)
      refine seq_no hS (by decide) rfl (by decide) rfl rfl (fun a1 hS => ?_)
      refine seq_no hS (by decide) rfl (by decide) rfl rfl (fun a1 hS => ?_)
      refine seq_no hS (by decide) rfl (by decide) rfl rfl (fun a1 hS => ?_)
      refine seq_is hS (by decide) (runs_pick rfl rfl) (fun a1 hS => ?_)
      exact nil_ok (wp_cond_true (hS.eval rfl) (qx_seq (last _ _ _ _ hS)))
    refine seq_yis hS (by decide) rfl (by decide) rfl (runs_geq (r := false) rfl rfl (by rw [decide_eq_false_iff_not]; omega)) (fun a1 hS => ?_)
    refine seq_is hS (by decide) (runs_pick rfl rfl) (fun a1 hS => ?_)
    refine seq_is hS (by decide) (runs_move rfl) (fun a1 hS => ?_)
    refine seq_yis hS (by decide) rfl (by decide) rfl (runs_move rfl) (fun a1 hS => ?_)
    refine seq_yis hS (by decide) rfl (by decide) rfl (runs_lens rfl (by kernel_rfl)) (fun a1 hS => ?_)
    by_cases h2 : 200 < s.size
    · refine seq_yis hS (by decide) rfl (by decide) rfl (runs_gtr (r := true) rfl rfl (by rw [decide_eq_true_eq]; omega)) (fun a1 hS => ?_)
      refine seq_is hS (by decide) (runs_pick rfl rfl) (fun a1 hS => ?_)
      exact nil_ok (wp_cond_true (hS.eval rfl) (qx_seq (last _ _ _ _ hS)))
    refine seq_yis hS (by decide) rfl (by decide) rfl (runs_gtr (r := false) rfl rfl (by rw [decide_eq_false_iff_not]; omega)) (fun a1 hS => ?_)
    refine seq_is hS (by decide) (runs_pick rfl rfl) (fun a1 hS => ?_)
    refine nil_ok (wp_cond_false (hS.eval rfl) (wp_skip ?_))
    obtain ⟨p, rfl⟩ := Int.eq_ofNat_of_zero_le (show 0 ≤ at_ by omega)
    have hp : p < ss.length := by omega
    have ht : thereB ss.length (p : Int) = true := by simp only [thereB, Bool.and_eq_true, decide_eq_true_eq]; omega
    have hrp : risesB (ss.length : Int) (-1) (ofN [p]) = true := rises_of ss.length [p] (-1) ⟨by omega, hp, trivial⟩ (by omega)
    refine qx_seq (reg_seq ?_)
    refine seq_op hS (by decide) (runs_buildNone undStrs hi9) (fun v w2 a1 hpw2 hS => ?_)
    obtain ⟨rfl, rfl⟩ := hpw2
    have hB2 : Below w1.heap.size w1 (w1.alloc (.cells #[] 9)) := (Below.refl _ _).alloc (Nat.le_refl _) _
    generalize w1.alloc (.cells #[] 9) = w2 at *
    refine seq_is hS (by decide) (runs_move rfl) (fun a1 hS => ?_)
    refine seq_op hS (by decide) (copy_strs (hs1.kept hB2) (by omega) rfl rfl) (fun v3 w3 a1 hpw3 hS => ?_)
    obtain ⟨hs3, hB3⟩ := hpw3
    refine seq_is hS (by decide) (runs_move rfl) (fun a1 hS => ?_)
    refine seq_op hS (by decide) (runs_call (args := [v3, .int .i64 (p : Int)]) (Post := fun v w' => ∃ pv : Value, v = .tuple #[pv, .int .i64 0] ∧ Hashes w' pv (proofOf (ss.map bl) p) ∧ Below w3.heap.size w3 w') goes14 rfl ((prove_any ss v3 p w3 hs3 hsz1 (by omega) (hk1.below (hB2.trans (hB3.mono hB2.size)) hk1.pos)).mono (by rintro e w' ⟨pv, rfl, h1, h2⟩; rw [ht] at h1 ⊢; exact ⟨_, rfl, pv, rfl, h1, h2⟩))) (fun v4 w4 a4 hp4 hS => ?_)
    obtain ⟨pv, rfl, hH4, hB4⟩ := hp4
    have hB14 : Below w1.heap.size w1 w4 := (hB2.trans (hB3.mono hB2.size)).trans (hB4.mono (Nat.le_trans hB2.size hB3.size))
    refine seq_is hS (by decide) (runs_move rfl) (fun a1 hS => ?_)
    refine seq_is hS (by decide) (runs_extract rfl rfl) (fun a1 hS => ?_)
    refine seq_is hS (by decide) (runs_extract rfl rfl) (fun a1 hS => ?_)
    refine seq_is hS (by decide) (runs_assign rfl) (fun a1 hS => ?_)
    refine seq_is hS (by decide) (runs_assign rfl) (fun a1 hS => ?_)
    refine nil_ok (qx_seq (reg_seq ?_))
    refine seq_op hS (by decide) (runs_buildNone undStrs hi9) (fun v w5 a1 hpw5 hS => ?_)
    obtain ⟨rfl, rfl⟩ := hpw5
    have hB5 : Below w4.heap.size w4 (w4.alloc (.cells #[] 9)) := (Below.refl _ _).alloc (Nat.le_refl _) _
    generalize w4.alloc (.cells #[] 9) = w5 at *
    refine seq_is hS (by decide) (runs_move rfl) (fun a1 hS => ?_)
    refine seq_op hS (by decide) (copy_strs (hs1.kept (hB14.trans (hB5.mono hB14.size))) (by omega) rfl rfl) (fun v6 w6 a1 hpw6 hS => ?_)
    obtain ⟨hs6, hB6⟩ := hpw6
    refine seq_is hS (by decide) (runs_move rfl) (fun a1 hS => ?_)
    refine seq_op hS (by decide) (runs_buildSlice (pv := [(0, .int .i64 (p : Int))]) rfl undInts hi3 hz3 hzs3 (by omega) (by omega) (cells := #[.int .i64 (p : Int)]) (by kernel_rfl)) (fun v w7 a7 hp7 hS => ?_)
    obtain ⟨rfl, rfl⟩ := hp7
    have hA7 : Ints (w6.alloc (.cells #[.int .i64 (p : Int)] 3)) (.slice (some ⟨w6.heap.size, 0, none⟩) 1 1) (ofN [p]) := ints_has (xs := ofN [p]) (Has.new w6 3 [.int .i64 (p : Int)]) (by simp [ofN])
    have hB7 : Below w6.heap.size w6 (w6.alloc (.cells #[.int .i64 (p : Int)] 3)) := (Below.refl _ _).alloc (Nat.le_refl _) _
    generalize w6.alloc (.cells #[.int .i64 (p : Int)] 3) = w7 at *
    have hB47 : Below w4.heap.size w4 w7 := (hB5.trans (hB6.mono hB5.size)).trans (hB7.mono (Nat.le_trans hB5.size hB6.size))
    have hB17 : Below w1.heap.size w1 w7 := hB14.trans (hB47.mono hB14.size)
    refine seq_op hS (by decide) (runs_call (args := [v6, .slice (some ⟨w6.heap.size, 0, none⟩) 1 1]) (Post := fun v w' => ∃ qv : Value, v = .tuple #[qv, .int .i64 0] ∧ Hashes w' qv (provesL (ss.map bl) [p]) ∧ Below w7.heap.size w7 w') goes20 rfl ((proveM_yes ss v6 _ [p] w7 (hs6.kept hB7) hA7 hrp hsz1 (by omega) (hk1.below hB17 hk1.pos)).mono (by rintro e w' ⟨qv, rfl, h1, h2⟩; exact ⟨_, rfl, qv, rfl, h1, h2⟩))) (fun v8 w8 a8 hp8 hS => ?_)
    obtain ⟨qv, rfl, hQ8, hB8⟩ := hp8
    have hB48 : Below w4.heap.size w4 w8 := hB47.trans (hB8.mono hB47.size)
    have hB18 : Below w1.heap.size w1 w8 := hB14.trans (hB48.mono hB14.size)
    refine seq_is hS (by decide) (runs_move rfl) (fun a1 hS => ?_)
    refine seq_is hS (by decide) (runs_extract rfl rfl) (fun a1 hS => ?_)
    refine seq_is hS (by decide) (runs_extract rfl rfl) (fun a1 hS => ?_)
    refine seq_is hS (by decide) (runs_assign rfl) (fun a1 hS => ?_)
    refine seq_is hS (by decide) (runs_assign rfl) (fun a1 hS => ?_)
    have hpl := proof_len (ss.map bl) p (by simpa using hp) (by simp; omega)
    rw [List.length_map] at hpl
    have hpok := proofOf_ok (ss.map bl) p
    have hql : (provesL (ss.map bl) [p]).length = (proofOf (ss.map bl) p).length := by unfold provesL proofOf; simp [parts_one]
    have hone := fun r s' => one_eq (ss.map bl) p r s' (by simpa using hp) (by simp; omega)
    have hchk := check_proof (ss.map bl) p (by simpa using hp) (by simp; omega)
    rw [List.length_map] at hchk hone
    obtain ⟨ps, hps⟩ : ∃ x, x = proofOf (ss.map bl) p := ⟨_, rfl⟩
    obtain ⟨qs, hqs⟩ : ∃ x, x = provesL (ss.map bl) [p] := ⟨_, rfl⟩
    rw [← hps] at hH4 hpl hpok hql hchk hone
    rw [← hqs] at hQ8 hql hone
    have hp20 : ps.length ≤ 20 := by
      rw [hps]; unfold proofOf; rw [List.length_map]
      exact path_len 20 _ _ _ (by simp; omega)
    have hH8 := hH4.kept hB48
    obtain ⟨A4, c4, rfl, _⟩ := id hH8
    obtain ⟨A8, c8, rfl, _⟩ := id hQ8
    refine nil_ok (qx_seq (qx_seq (reg_seq ?_)))
    refine seq_is hS (by decide) (runs_move rfl) (fun a1 hS => ?_)
    refine seq_is hS (by decide) (runs_neq (r := false) rfl rfl rfl) (fun a1 hS => ?_)
    refine seq_is hS (by decide) (runs_move rfl) (fun a1 hS => ?_)
    refine seq_yis hS (by decide) rfl (by decide) rfl (runs_move rfl) (fun a1 hS => ?_)
    refine seq_yis hS (by decide) rfl (by decide) rfl (runs_neq (r := false) rfl rfl rfl) (fun a1 hS => ?_)
    refine seq_is hS (by decide) (runs_pick rfl rfl) (fun a1 hS => ?_)
    refine seq_is hS (by decide) (runs_move rfl) (fun a1 hS => ?_)
    refine seq_yis hS (by decide) rfl (by decide) rfl (runs_move rfl) (fun a1 hS => ?_)
    refine seq_yis hS (by decide) rfl (by decide) rfl (runs_len rfl undHashes) (fun a1 hS => ?_)
    refine seq_yis hS (by decide) rfl (by decide) rfl (runs_move rfl) (fun a1 hS => ?_)
    refine seq_yis hS (by decide) rfl (by decide) rfl (runs_len rfl undHashes) (fun a1 hS => ?_)
    refine seq_yis hS (by decide) rfl (by decide) rfl (runs_neq (r := false) rfl rfl (by rw [hql]; simp)) (fun a1 hS => ?_)
    refine seq_is hS (by decide) (runs_pick rfl rfl) (fun a1 hS => ?_)
    refine nil_ok (wp_cond_false (hS.eval rfl) (wp_skip ?_))
    refine qx_seq (reg_seq ?_)
    refine seq_is hS (by decide) (runs_move rfl) (fun a1 hS => ?_)
    refine seq_op hS (by decide) (runs_call (args := [.slice A ss.length c]) goes27 rfl (hash_post (fun w' => Below w8.heap.size w8 w') (refRootH_any ss _ w8 (hs1.kept hB18) hsz2 (by omega)) (fun _ h => h))) (fun v9 w9 a9 hp9 hS => ?_)
    obtain ⟨rfl, hB9⟩ := hp9
    have hB19 : Below w1.heap.size w1 w9 := hB18.trans (hB9.mono hB18.size)
    have hrl : (Tree.root ss.length (Tree.top (ss.map bl))).length = 32 := root_len _ _
    obtain ⟨r, hr⟩ : ∃ x, x = Tree.root ss.length (Tree.top (ss.map bl)) := ⟨_, rfl⟩
    rw [← hr] at hS hrl hchk
    refine seq_op hS (by decide) (alloc_hash) (fun v10 w10 a10 hp10 hS => ?_)
    obtain ⟨rfl, rfl⟩ := hp10
    have hT10 := Has.new w9 26 (U8 (List.replicate 32 0))
    have hB10 : Below w9.heap.size w9 (w9.alloc (.cells (U8 (List.replicate 32 0)).toArray 26)) := (Below.refl _ _).alloc (Nat.le_refl _) _
    generalize w9.alloc (.cells (U8 (List.replicate 32 0)).toArray 26) = w10 at *
    refine seq_none hS (runs_storeRow rfl rfl hT10 (by simp [hrl]) (agg_all _) (by rw [infHash]; simp [hrl])) (fun v11 w11 a11 hp11 hS => ?_)
    obtain ⟨rfl, rfl⟩ := hp11
    have hT11 := has_setRow (cs := U8 r) hT10
    have hB11 : Below w9.heap.size w9 (w10.setRow w9.heap.size (U8 r).toArray) := below_row hB10 (Nat.le_refl _) _
    generalize w10.setRow w9.heap.size (U8 r).toArray = w11 at *
    have hB111 : Below w1.heap.size w1 w11 := hB19.trans (hB11.mono hB19.size)
    have hB811 : Below w8.heap.size w8 w11 := hB9.trans (hB11.mono hB9.size)
    have hs11 := hs1.kept hB111
    have hk11 := hk1.below hB111 hk1.pos
    have hR11 := hR1.below hB111 hR1.lt
    have hP11 := hH8.kept hB811
    have hQ11 := hQ8.kept hB811
    obtain ⟨A5, c5, e5, _, _, hA5⟩ := id hs11
    simp only [Value.slice.injEq] at e5
    obtain ⟨rfl, _, rfl⟩ := e5
    obtain ⟨b, o, rfl, hb, hcell⟩ := hA5 (by omega)
    have hcp := hcell p hp
    have hgd : (ss.map bl).getD p [] = bl (ss.getD p ByteArray.empty) := by simp [hp]
    rw [hgd] at hchk
    have hsp : (ss.getD p ByteArray.empty).size ≤ 200 := by
      rw [List.getD_eq_getElem?_getD, List.getElem?_eq_getElem hp]; exact hsz _ (List.getElem_mem hp)
    generalize ss.getD p ByteArray.empty = sp at *
    have hS := hS.only [(1, .slice (some ⟨b, o, none⟩) ss.length c), (2, .int .i64 (p : Int)), (3, .string s), (4, .pointer (some ⟨w.heap.size, 0, none⟩)), (9, .slice A4 ps.length c4), (11, .slice A8 qs.length c8), (13, .pointer (some ⟨w9.heap.size, 0, none⟩))] ⟨rfl, rfl, rfl, rfl, rfl, rfl, rfl, trivial⟩
    refine qx_seq (reg_guard (fun w' => Below w11.heap.size w11 w') [.inl (.agg (U8 root).toArray), .inl (.slice (some ⟨b, o, none⟩) ss.length c), .inl (.int .i64 ((ss.length : Nat) : Int)), .inl (.int .i64 (p : Int)), .inl (.string s), .inl (.slice A4 ps.length c4), .inl (.bool (checkB root ss.length p (bl s) ps)), .inl (.agg (U8 root).toArray), .inl (.slice (some ⟨b, o, none⟩) ss.length c), .inl (.int .i64 ((ss.length : Nat) : Int)), .inl (.int .i64 (p : Int)), .inr (fun v w' => Ints w' v (ofN [p])), .inl (.string s), .inr (fun v w' => Strs w' v [s]), .inl (.slice A8 qs.length c8), .inl (.bool (checkB root ss.length p (bl s) ps)), .inl (.bool true), .inl (.bool true), .inl (.agg (U8 r).toArray), .inl (.slice (some ⟨b, o, none⟩) ss.length c), .inl (.int .i64 ((ss.length : Nat) : Int)), .inl (.int .i64 (p : Int)), .inr (fun v w' => Ints w' v (ofN [p])), .inl (.slice (some ⟨b, o, none⟩) ss.length c), .inl (.int .i64 (p : Int)), .inl (.pointer (some ⟨b, o + p, none⟩)), .inl (.string sp), .inr (fun v w' => Strs w' v [sp]), .inl (.slice A8 qs.length c8), .inl (.bool true), .inl (.bool true), .inl (.bool true), .inl (.agg (U8 r).toArray), .inl (.slice (some ⟨b, o, none⟩) ss.length c), .inl (.int .i64 ((ss.length : Nat) : Int)), .inl (.int .i64 (p : Int)), .inl (.string s), .inl (.slice A4 ps.length c4), .inl (.bool (checkB r ss.length p (bl s) ps)), .inl (.agg (U8 r).toArray), .inl (.slice (some ⟨b, o, none⟩) ss.length c), .inl (.int .i64 ((ss.length : Nat) : Int)), .inl (.int .i64 (p : Int)), .inr (fun v w' => Ints w' v (ofN [p])), .inl (.string s), .inr (fun v w' => Strs w' v [s]), .inl (.slice A8 qs.length c8), .inl (.bool (checkB r ss.length p (bl s) ps)), .inl (.bool true), .inl (.bool true), .inl (.bool true)] 51 0 mixed rfl (by kernel_rfl) hS (Below.refl _ _) (fun _ h => h.drew) ?_)
    refine hs_is rfl (fun w' hw => runs_loadRow rfl (hR11.below hw hR11.lt) undHash rfl (by rw [infHash]; simp [hrt])) ?_
    refine hs_is rfl (fun w' hw => runs_move rfl) ?_
    refine hs_is rfl (fun w' hw => runs_len rfl undStrs) ?_
    refine hs_is rfl (fun w' hw => runs_move rfl) ?_
    refine hs_is rfl (fun w' hw => runs_move rfl) ?_
    refine hs_is rfl (fun w' hw => runs_move rfl) ?_
    refine hs_val rfl (fun w' hw hq => runs_call (args := [.agg (U8 root).toArray, .int .i64 (ss.length : Int), .int .i64 (p : Int), .string s, .slice A4 ps.length c4]) goes15 rfl (bool_post _ (check_any root ss.length p s _ ps w' hrt (hP11.kept hw) (by omega) (by omega) (hk11.below hw hk11.pos)) (fun _ h => ⟨hw.trans (h.mono hw.size), h⟩))) ?_
    refine hs_is rfl (fun w' hw => runs_loadRow rfl (hR11.below hw hR11.lt) undHash rfl (by rw [infHash]; simp [hrt])) ?_
    refine hs_is rfl (fun w' hw => runs_move rfl) ?_
    refine hs_is rfl (fun w' hw => runs_len rfl undStrs) ?_
    refine hs_is rfl (fun w' hw => runs_move rfl) ?_
    refine hs_pr rfl (fun _ _ _ h hb => h.kept hb) (fun w' hw hq => (runs_buildSlice (pv := [(0, .int .i64 (p : Int))]) rfl undInts hi3 hz3 hzs3 (by omega) (by omega) (cells := #[.int .i64 (p : Int)]) (by kernel_rfl)).mono (by rintro v w2 ⟨rfl, rfl⟩; exact ⟨ints_has (xs := ofN [p]) (Has.new w' 3 [.int .i64 (p : Int)]) (by simp [ofN]), hw.alloc hw.size _, (Below.refl _ _).alloc (Nat.le_refl _) _⟩)) (fun v80 => ?_)
    refine hs_is rfl (fun w' hw => runs_move rfl) ?_
    refine hs_pr rfl (fun _ _ _ h hb => h.kept hb) (fun w' hw hq => (runs_buildSlice (pv := [(0, .string s)]) rfl undStrs hi9 hz9 hzs9 (by omega) (by omega) (cells := #[.string s]) (by kernel_rfl)).mono (by rintro v w2 ⟨rfl, rfl⟩; exact ⟨strs_has (ss := [s]) (Has.new w' 9 [.string s]) (by unfold maxLen; simp), hw.alloc hw.size _, (Below.refl _ _).alloc (Nat.le_refl _) _⟩)) (fun v82 => ?_)
    refine hs_is rfl (fun w' hw => runs_move rfl) ?_
    refine hs_val rfl (fun w' hw hq => runs_call (args := [.agg (U8 root).toArray, .int .i64 (ss.length : Int), v80, v82, .slice A8 qs.length c8]) goes26 rfl (bool_post _ (by have := checkM_any root ss.length (ofN [p]) [s] qs v80 v82 _ w' hrt (hq (11, _) (List.mem_cons_of_mem _ List.mem_cons_self) (by kernel_rfl)) (hq (13, _) List.mem_cons_self (by kernel_rfl)) (hQ11.kept hw) (fun s' h' => by rw [List.mem_singleton.1 h']; omega) (by omega) (by simp) (hk11.below hw hk11.pos); rwa [show [s].map bl = [bl s] from rfl, hone] at this) (fun _ h => ⟨hw.trans (h.mono hw.size), h⟩))) ?_
    refine hs_is rfl (fun w' hw => runs_eqBool (r := true) rfl rfl (beq_iff_eq.2 rfl)) ?_
    refine hs_is rfl (fun w' hw => runs_move rfl) ?_
    refine hs_yis rfl rfl (fun w' hw => runs_loadRow rfl (hT11.below hw hT11.lt) undHash rfl (by rw [infHash]; simp [hrl])) ?_
    refine hs_yis rfl rfl (fun w' hw => runs_move rfl) ?_
    refine hs_yis rfl rfl (fun w' hw => runs_len rfl undStrs) ?_
    refine hs_yis rfl rfl (fun w' hw => runs_move rfl) ?_
    refine hs_ypr rfl rfl (fun _ _ _ h hb => h.kept hb) (fun w' hw hq => (runs_buildSlice (pv := [(0, .int .i64 (p : Int))]) rfl undInts hi3 hz3 hzs3 (by omega) (by omega) (cells := #[.int .i64 (p : Int)]) (by kernel_rfl)).mono (by rintro v w2 ⟨rfl, rfl⟩; exact ⟨ints_has (xs := ofN [p]) (Has.new w' 3 [.int .i64 (p : Int)]) (by simp [ofN]), hw.alloc hw.size _, (Below.refl _ _).alloc (Nat.le_refl _) _⟩)) (fun v91 => ?_)
    refine hs_yis rfl rfl (fun w' hw => runs_move rfl) ?_
    refine hs_yis rfl rfl (fun w' hw => runs_move rfl) ?_
    refine hs_yis rfl rfl (fun w' hw => runs_indexAddr (j := p) rfl rfl undStrs infStr1 rfl hp) ?_
    refine hs_yis rfl rfl (fun w' hw => runs_load rfl (by kernel_rfl) (by rw [hw.cell (p := ⟨b, o + p, none⟩) hb]; exact hcp)) ?_
    refine hs_ypr rfl rfl (fun _ _ _ h hb => h.kept hb) (fun w' hw hq => (runs_buildSlice (pv := [(0, .string sp)]) rfl undStrs hi9 hz9 hzs9 (by omega) (by omega) (cells := #[.string sp]) (by kernel_rfl)).mono (by rintro v w2 ⟨rfl, rfl⟩; exact ⟨strs_has (ss := [sp]) (Has.new w' 9 [.string sp]) (by unfold maxLen; simp), hw.alloc hw.size _, (Below.refl _ _).alloc (Nat.le_refl _) _⟩)) (fun v96 => ?_)
    refine hs_yis rfl rfl (fun w' hw => runs_move rfl) ?_
    refine hs_yval rfl rfl (fun w' hw hq => runs_call (args := [.agg (U8 r).toArray, .int .i64 (ss.length : Int), v91, v96, .slice A8 qs.length c8]) goes26 rfl (bool_post _ (by have := checkM_any r ss.length (ofN [p]) [sp] qs v91 v96 _ w' hrl (hq (22, _) (List.mem_cons_of_mem _ List.mem_cons_self) (by kernel_rfl)) (hq (27, _) List.mem_cons_self (by kernel_rfl)) (hQ11.kept hw) (fun s' h' => by rw [List.mem_singleton.1 h']; omega) (by omega) (by simp) (hk11.below hw hk11.pos); rwa [show [sp].map bl = [bl sp] from rfl, hone, hchk] at this) (fun _ h => ⟨hw.trans (h.mono hw.size), h⟩))) ?_
    refine hs_is rfl (fun w' hw => runs_pick rfl rfl) ?_
    refine hs_is rfl (fun w' hw => runs_move rfl) ?_
    refine hs_yis rfl rfl (fun w' hw => runs_loadRow rfl (hT11.below hw hT11.lt) undHash rfl (by rw [infHash]; simp [hrl])) ?_
    refine hs_yis rfl rfl (fun w' hw => runs_move rfl) ?_
    refine hs_yis rfl rfl (fun w' hw => runs_len rfl undStrs) ?_
    refine hs_yis rfl rfl (fun w' hw => runs_move rfl) ?_
    refine hs_yis rfl rfl (fun w' hw => runs_move rfl) ?_
    refine hs_yis rfl rfl (fun w' hw => runs_move rfl) ?_
    refine hs_yval rfl rfl (fun w' hw hq => runs_call (args := [.agg (U8 r).toArray, .int .i64 (ss.length : Int), .int .i64 (p : Int), .string s, .slice A4 ps.length c4]) goes15 rfl (bool_post _ (check_any r ss.length p s _ ps w' hrl (hP11.kept hw) (by omega) (by omega) (hk11.below hw hk11.pos)) (fun _ h => ⟨hw.trans (h.mono hw.size), h⟩))) ?_
    refine hs_yis rfl rfl (fun w' hw => runs_loadRow rfl (hT11.below hw hT11.lt) undHash rfl (by rw [infHash]; simp [hrl])) ?_
    refine hs_yis rfl rfl (fun w' hw => runs_move rfl) ?_
    refine hs_yis rfl rfl (fun w' hw => runs_len rfl undStrs) ?_
    refine hs_yis rfl rfl (fun w' hw => runs_move rfl) ?_
    refine hs_ypr rfl rfl (fun _ _ _ h hb => h.kept hb) (fun w' hw hq => (runs_buildSlice (pv := [(0, .int .i64 (p : Int))]) rfl undInts hi3 hz3 hzs3 (by omega) (by omega) (cells := #[.int .i64 (p : Int)]) (by kernel_rfl)).mono (by rintro v w2 ⟨rfl, rfl⟩; exact ⟨ints_has (xs := ofN [p]) (Has.new w' 3 [.int .i64 (p : Int)]) (by simp [ofN]), hw.alloc hw.size _, (Below.refl _ _).alloc (Nat.le_refl _) _⟩)) (fun v112 => ?_)
    refine hs_yis rfl rfl (fun w' hw => runs_move rfl) ?_
    refine hs_ypr rfl rfl (fun _ _ _ h hb => h.kept hb) (fun w' hw hq => (runs_buildSlice (pv := [(0, .string s)]) rfl undStrs hi9 hz9 hzs9 (by omega) (by omega) (cells := #[.string s]) (by kernel_rfl)).mono (by rintro v w2 ⟨rfl, rfl⟩; exact ⟨strs_has (ss := [s]) (Has.new w' 9 [.string s]) (by unfold maxLen; simp), hw.alloc hw.size _, (Below.refl _ _).alloc (Nat.le_refl _) _⟩)) (fun v114 => ?_)
    refine hs_yis rfl rfl (fun w' hw => runs_move rfl) ?_
    refine hs_yval rfl rfl (fun w' hw hq => runs_call (args := [.agg (U8 r).toArray, .int .i64 (ss.length : Int), v112, v114, .slice A8 qs.length c8]) goes26 rfl (bool_post _ (by have := checkM_any r ss.length (ofN [p]) [s] qs v112 v114 _ w' hrl (hq (43, _) (List.mem_cons_of_mem _ List.mem_cons_self) (by kernel_rfl)) (hq (45, _) List.mem_cons_self (by kernel_rfl)) (hQ11.kept hw) (fun s' h' => by rw [List.mem_singleton.1 h']; omega) (by omega) (by simp) (hk11.below hw hk11.pos); rwa [show [s].map bl = [bl s] from rfl, hone] at this) (fun _ h => ⟨hw.trans (h.mono hw.size), h⟩))) ?_
    refine hs_yis rfl rfl (fun w' hw => runs_eqBool (r := true) rfl rfl (beq_iff_eq.2 rfl)) ?_
    refine hs_is rfl (fun w' hw => runs_pick rfl rfl) ?_
    refine hs_is rfl (fun w' hw => runs_assign rfl) ?_
    refine (fun a5 w5 hS5 hB5 _ => ?_)
    refine wpAnyH_done (by kernel_rfl) ?_ _
    exact qx_ret (ret1 (t := 8) (by kernel_rfl) hS5 rfl ⟨rfl, hB1.trans ((hB111.trans (hB5.mono hB111.size)).mono hB1.size)⟩)
end Go.Proofs.YtdemoidmhmdgkaaDoor
