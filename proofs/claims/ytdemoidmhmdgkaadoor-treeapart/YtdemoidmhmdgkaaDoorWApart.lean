/- The walk of TreeApart. Conditions: the table of constants lies as it was laid. -/
import Derived.Test.YtdemoidmhmdgkaaDoorEngA
namespace Go.Proofs.YtdemoidmhmdgkaaDoor
open Go.RowKit
set_option maxRecDepth 100000

set_option maxHeartbeats 2000000 in
theorem apart_walk (v : Value) (ss : List ByteArray) (w : World) (hs : Strs w v ss) (at_ oth : Int) (s : ByteArray) (hk : Kept w) : Calls Tryd.prog 3 #[v, .int .i64 at_, .int .i64 oth, .string s] w fun e w' => e = .returned (.bool true) ∧ Below w.heap.size w w' := by
  obtain ⟨A, c, rfl, hs0⟩ := id hs
  refine calls_qx (args := [.slice A ss.length c, .int .i64 at_, .int .i64 oth, .string s]) 145 Tryd.func3 rfl (by kernel_rfl) (by simp) (fun a hS => ?_)
  refine qx_seq (reg_seq ?_)
  refine seq_is hS (by decide) (runs_assign rfl) (fun a1 hS => ?_)
  refine nil_ok (qx_seq (qx_seq (reg_seq ?_)))
  refine seq_op hS (by decide) (runs_call (args := []) goes11 rfl (awake_call w hk)) (fun v1 w1 a1 hp1 hS => ?_)
  obtain ⟨rfl, hB1⟩ := hp1
  have hk1 := hk.below hB1 hk.pos
  have hs1 := hs.kept hB1
  refine seq_is hS (by decide) (runs_not (b := true) rfl) (fun a1 hS => ?_)
  refine seq_is hS (by decide) (runs_move rfl) (fun a1 hS => ?_)
  refine seq_yis hS (by decide) rfl (by decide) rfl (runs_move rfl) (fun a1 hS => ?_)
  refine seq_yis hS (by decide) rfl (by decide) rfl (runs_call (args := [.slice A ss.length c]) goes12 rfl (few_call ss _ w1 hs1)) (fun a1 hS => ?_)
  have last : ∀ (L : List (Nat × Value)) (a9 : Act) (N : Act → World → Prop) (X : Nat → Act → World → Prop), Sees 145 L a9 → ((Tryd.f3.body.bind (regionIn 2)).getD .skip).wp Tryd.prog (Qx (fun a' w' => Code.ret.wp Tryd.prog (Qx N X (Rets Tryd.prog Tryd.f3 (fun e w' => e = .returned (.bool true) ∧ Below w.heap.size w w'))) a' w') X (Rets Tryd.prog Tryd.f3 (fun e w' => e = .returned (.bool true) ∧ Below w.heap.size w w'))) a9 w1 := fun L a9 N X hS => by
    refine reg_seq ?_
    refine seq_op hS (by decide) (runs_call (args := []) goes11 rfl (awake_call w1 hk1)) (fun v2 w2 a2 hp2 hS => ?_)
    obtain ⟨rfl, hB2⟩ := hp2
    refine seq_is hS (by decide) (runs_assign rfl) (fun a1 hS => ?_)
    exact nil_ok (qx_ret (ret1 (t := 8) (by kernel_rfl) hS rfl ⟨rfl, hB1.trans (hB2.mono hB1.size)⟩))
  cases hf : fewB ss with
  | false =>
    rw [hf] at hS
    refine seq_yis hS (by decide) rfl (by decide) rfl (runs_not (b := false) rfl) (fun a1 hS => ?_)
    refine seq_is hS (by decide) (runs_pick rfl rfl) (fun a1 hS => ?_)
    refine seq_is hS (by decide) (runs_move rfl) (fun a1 hS => ?_)
    refine seq_no hS (by decide) rfl (by decide) rfl rfl (fun a1 hS => ?_)
    refine seq_no hS (by decide) rfl (by decide) rfl rfl (fun a1 hS => ?_)
    refine seq_is hS (by decide) (runs_pick rfl rfl) (fun a1 hS => ?_)
    refine seq_is hS (by decide) (runs_move rfl) (fun a1 hS => ?_)
    refine seq_no hS (by decide) rfl (by decide) rfl rfl (fun a1 hS => ?_)
    refine seq_no hS (by decide) rfl (by decide) rfl rfl (fun a1 hS => ?_)
    refine seq_no hS (by decide) rfl (by decide) rfl rfl (fun a1 hS => ?_)
    refine seq_no hS (by decide) rfl (by decide) rfl rfl (fun a1 hS => ?_)
    refine seq_is hS (by decide) (runs_pick rfl rfl) (fun a1 hS => ?_)
    refine seq_is hS (by decide) (runs_move rfl) (fun a1 hS => ?_)
    refine seq_no hS (by decide) rfl (by decide) rfl rfl (fun a1 hS => ?_)
    refine seq_no hS (by decide) rfl (by decide) rfl rfl (fun a1 hS => ?_)
    refine seq_no hS (by decide) rfl (by decide) rfl rfl (fun a1 hS => ?_)
    refine seq_is hS (by decide) (runs_pick rfl rfl) (fun a1 hS => ?_)
    exact nil_ok (wp_cond_true (hS.eval rfl) (qx_seq (last _ _ _ _ hS)))
  | true =>
    rw [hf] at hS
    simp only [fewB, Bool.and_eq_true, List.all_eq_true, decide_eq_true_eq] at hf
    obtain ⟨hsz, hn20⟩ := hf
    have hsz1 : ∀ s ∈ ss, s.size ≤ 100000 := fun s h => by have := hsz s h; omega
    have hsz2 : ∀ s ∈ ss, s.size ≤ 900 := fun s h => by have := hsz s h; omega
    obtain ⟨i9, hi9, hz9, hzs9, hzb9⟩ := info_parts infStr
    obtain ⟨ih, hih, hzh, hszh, hbh⟩ := info_parts infHashb
    refine seq_yis hS (by decide) rfl (by decide) rfl (runs_not (b := true) rfl) (fun a1 hS => ?_)
    refine seq_is hS (by decide) (runs_pick rfl rfl) (fun a1 hS => ?_)
    refine seq_is hS (by decide) (runs_move rfl) (fun a1 hS => ?_)
    refine seq_yis hS (by decide) rfl (by decide) rfl (runs_move rfl) (fun a1 hS => ?_)
    by_cases h0 : at_ < 0
    · refine seq_yis hS (by decide) rfl (by decide) rfl (runs_lss (r := true) rfl rfl (by rw [decide_eq_true_eq]; omega)) (fun a1 hS => ?_)
      refine seq_is hS (by decide) (runs_pick rfl rfl) (fun a1 hS => ?_)
      refine seq_is hS (by decide) (runs_move rfl) (fun a1 hS => ?_)
      refine seq_no hS (by decide) rfl (by decide) rfl rfl (fun a1 hS => ?_)
      refine seq_no hS (by decide) rfl (by decide) rfl rfl (fun a1 hS => ?_)
      refine seq_no hS (by decide) rfl (by decide) rfl rfl (fun a1 hS => ?_)
      refine seq_no hS (by decide) rfl (by decide) rfl rfl (fun a1 hS => ?_)
      refine seq_is hS (by decide) (runs_pick rfl rfl) (fun a1 hS => ?_)
      refine seq_is hS (by decide) (runs_move rfl) (fun a1 hS => ?_)
      refine seq_no hS (by decide) rfl (by decide) rfl rfl (fun a1 hS => ?_)
      refine seq_no hS (by decide) rfl (by decide) rfl rfl (fun a1 hS => ?_)
      refine seq_no hS (by decide) rfl (by decide) rfl rfl (fun a1 hS => ?_)
      refine seq_is hS (by decide) (runs_pick rfl rfl) (fun a1 hS => ?_)
      exact nil_ok (wp_cond_true (hS.eval rfl) (qx_seq (last _ _ _ _ hS)))
    refine seq_yis hS (by decide) rfl (by decide) rfl (runs_lss (r := false) rfl rfl (by rw [decide_eq_false_iff_not]; omega)) (fun a1 hS => ?_)
    refine seq_is hS (by decide) (runs_pick rfl rfl) (fun a1 hS => ?_)
    refine seq_is hS (by decide) (runs_move rfl) (fun a1 hS => ?_)
    refine seq_yis hS (by decide) rfl (by decide) rfl (runs_move rfl) (fun a1 hS => ?_)
    refine seq_yis hS (by decide) rfl (by decide) rfl (runs_move rfl) (fun a1 hS => ?_)
    refine seq_yis hS (by decide) rfl (by decide) rfl (runs_len rfl undStrs) (fun a1 hS => ?_)
    by_cases h1 : at_ ≥ ss.length
    · refine seq_yis hS (by decide) rfl (by decide) rfl (runs_geq (r := true) rfl rfl (by rw [decide_eq_true_eq]; omega)) (fun a1 hS => ?_)
      refine seq_is hS (by decide) (runs_pick rfl rfl) (fun a1 hS => ?_)
      refine seq_is hS (by decide) (runs_move rfl) (fun a1 hS => ?_)
      refine seq_no hS (by decide) rfl (by decide) rfl rfl (fun a1 hS => ?_)
      refine seq_no hS (by decide) rfl (by decide) rfl rfl (fun a1 hS => ?_)
      refine seq_no hS (by decide) rfl (by decide) rfl rfl (fun a1 hS => ?_)
      refine seq_is hS (by decide) (runs_pick rfl rfl) (fun a1 hS => ?_)
      exact nil_ok (wp_cond_true (hS.eval rfl) (qx_seq (last _ _ _ _ hS)))
    refine seq_yis hS (by decide) rfl (by decide) rfl (runs_geq (r := false) rfl rfl (by rw [decide_eq_false_iff_not]; omega)) (fun a1 hS => ?_)
    refine seq_is hS (by decide) (runs_pick rfl rfl) (fun a1 hS => ?_)
    refine seq_is hS (by decide) (runs_move rfl) (fun a1 hS => ?_)
    refine seq_yis hS (by decide) rfl (by decide) rfl (runs_move rfl) (fun a1 hS => ?_)
    refine seq_yis hS (by decide) rfl (by decide) rfl (runs_lens rfl (by kernel_rfl)) (fun a1 hS => ?_)
    by_cases h2 : 200 < s.size
    · refine seq_yis hS (by decide) rfl (by decide) rfl (runs_gtr (r := true) rfl rfl (by rw [decide_eq_true_eq]; omega)) (fun a1 hS => ?_)
      refine seq_is hS (by decide) (runs_pick rfl rfl) (fun a1 hS => ?_)
      exact nil_ok (wp_cond_true (hS.eval rfl) (qx_seq (last _ _ _ _ hS)))
    refine seq_yis hS (by decide) rfl (by decide) rfl (runs_gtr (r := false) rfl rfl (by rw [decide_eq_false_iff_not]; omega)) (fun a1 hS => ?_)
    refine seq_is hS (by decide) (runs_pick rfl rfl) (fun a1 hS => ?_)
    refine nil_ok (wp_cond_false (hS.eval rfl) (wp_skip ?_))
    obtain ⟨p, rfl⟩ := Int.eq_ofNat_of_zero_le (show 0 ≤ at_ by omega)
    have hp : p < ss.length := by omega
    have ht : thereB ss.length (p : Int) = true := by simp only [thereB, Bool.and_eq_true, decide_eq_true_eq]; omega
    refine qx_seq (reg_seq ?_)
    refine seq_op hS (by decide) (runs_buildNone undStrs hi9) (fun v2 w2 a2 hp2 hS => ?_)
    obtain ⟨rfl, rfl⟩ := hp2
    have hB2 : Below w1.heap.size w1 (w1.alloc (.cells #[] 9)) := (Below.refl _ _).alloc (Nat.le_refl _) _
    generalize w1.alloc (.cells #[] 9) = w2 at *
    refine seq_is hS (by decide) (runs_move rfl) (fun a1 hS => ?_)
    refine seq_op hS (by decide) (copy_strs (hs1.kept hB2) (by omega) rfl rfl) (fun v3 w3 a3 hp3 hS => ?_)
    obtain ⟨hs3, hB3⟩ := hp3
    have hB13 : Below w1.heap.size w1 w3 := hB2.trans (hB3.mono hB2.size)
    refine seq_op hS (by decide) (runs_call (args := [v3]) goes13 rfl (hash_post (fun w' => Below w3.heap.size w3 w') (root_any ss v3 w3 hs3 hsz1 (by omega) (hk1.below hB13 hk1.pos)) (fun _ h => h))) (fun v4 w4 a4 hp4 hS => ?_)
    obtain ⟨rfl, hB4⟩ := hp4
    have hB14 : Below w1.heap.size w1 w4 := hB13.trans (hB4.mono hB13.size)
    have hrl : (Tree.root ss.length (Tree.top (ss.map bl))).length = 32 := root_len _ _
    obtain ⟨r, hr⟩ : ∃ x, x = Tree.root ss.length (Tree.top (ss.map bl)) := ⟨_, rfl⟩
    rw [← hr] at hS hrl
    refine seq_op hS (by decide) (alloc_hash) (fun v5 w5 a5 hp5 hS => ?_)
    obtain ⟨rfl, rfl⟩ := hp5
    have hT5 := Has.new w4 26 (U8 (List.replicate 32 0))
    have hB5 : Below w4.heap.size w4 (w4.alloc (.cells (U8 (List.replicate 32 0)).toArray 26)) := (Below.refl _ _).alloc (Nat.le_refl _) _
    have hz5 : (w4.alloc (.cells (U8 (List.replicate 32 0)).toArray 26)).heap.size = w4.heap.size + 1 := by simp
    generalize w4.alloc (.cells (U8 (List.replicate 32 0)).toArray 26) = w5 at *
    refine seq_none hS (runs_storeRow rfl rfl hT5 (by simp [hrl]) (agg_all _) (by rw [infHash]; simp [hrl])) (fun v6 w6 a6 hp6 hS => ?_)
    obtain ⟨rfl, rfl⟩ := hp6
    have hT6 := has_setRow (cs := U8 r) hT5
    have hB6 : Below w4.heap.size w4 (w5.setRow w4.heap.size (U8 r).toArray) := below_row hB5 (Nat.le_refl _) _
    have hz6 : (w5.setRow w4.heap.size (U8 r).toArray).heap.size = w4.heap.size + 1 := by simp [World.setRow, hz5]
    generalize w5.setRow w4.heap.size (U8 r).toArray = w6 at *
    have hB16 : Below w1.heap.size w1 w6 := hB14.trans (hB6.mono hB14.size)
    refine nil_ok (qx_seq (reg_seq ?_))
    refine seq_op hS (by decide) (runs_buildNone undStrs hi9) (fun v7 w7 a7 hp7 hS => ?_)
    obtain ⟨rfl, rfl⟩ := hp7
    have hB7 : Below w6.heap.size w6 (w6.alloc (.cells #[] 9)) := (Below.refl _ _).alloc (Nat.le_refl _) _
    generalize w6.alloc (.cells #[] 9) = w7 at *
    have hB17 : Below w1.heap.size w1 w7 := hB16.trans (hB7.mono hB16.size)
    refine seq_is hS (by decide) (runs_move rfl) (fun a1 hS => ?_)
    refine seq_op hS (by decide) (copy_strs (hs1.kept hB17) (by omega) rfl rfl) (fun v8 w8 a8 hp8 hS => ?_)
    obtain ⟨hs8, hB8⟩ := hp8
    have hB68 : Below w6.heap.size w6 w8 := hB7.trans (hB8.mono hB7.size)
    have hB18 : Below w1.heap.size w1 w8 := hB16.trans (hB68.mono hB16.size)
    refine seq_is hS (by decide) (runs_move rfl) (fun a1 hS => ?_)
    refine seq_op hS (by decide) (runs_call (args := [v8, .int .i64 (p : Int)]) (Post := fun v w' => ∃ pv : Value, v = .tuple #[pv, .int .i64 0] ∧ Hashes w' pv (proofOf (ss.map bl) p) ∧ Below w8.heap.size w8 w') goes14 rfl ((prove_any ss v8 p w8 hs8 hsz1 (by omega) (hk1.below hB18 hk1.pos)).mono (by rintro e w' ⟨pv, rfl, h1, h2⟩; rw [ht] at h1 ⊢; exact ⟨_, rfl, pv, rfl, h1, h2⟩))) (fun v9 w9 a9 hp9 hS => ?_)
    obtain ⟨pv, rfl, hH9, hB9⟩ := hp9
    have hB69 : Below w6.heap.size w6 w9 := hB68.trans (hB9.mono hB68.size)
    have hB19 : Below w1.heap.size w1 w9 := hB16.trans (hB69.mono hB16.size)
    refine seq_is hS (by decide) (runs_move rfl) (fun a1 hS => ?_)
    refine seq_is hS (by decide) (runs_extract rfl rfl) (fun a1 hS => ?_)
    refine seq_is hS (by decide) (runs_extract rfl rfl) (fun a1 hS => ?_)
    refine seq_is hS (by decide) (runs_assign rfl) (fun a1 hS => ?_)
    refine seq_is hS (by decide) (runs_assign rfl) (fun a1 hS => ?_)
    refine nil_ok (qx_seq (qx_seq (reg_seq ?_)))
    refine seq_is hS (by decide) (runs_move rfl) (fun a1 hS => ?_)
    refine seq_is hS (by decide) (runs_neq (r := false) rfl rfl rfl) (fun a1 hS => ?_)
    refine nil_ok (wp_cond_false (hS.eval rfl) (wp_skip ?_))
    have hpl := proof_len (ss.map bl) p (by simpa using hp) (by simp; omega)
    rw [List.length_map] at hpl
    have hpok := proofOf_ok (ss.map bl) p
    obtain ⟨hs', hpe⟩ : ∃ x, x = proofOf (ss.map bl) p := ⟨_, rfl⟩
    rw [← hpe] at hH9 hpl hpok
    have hp20 : hs'.length ≤ 20 := by
      rw [hpe]; unfold proofOf; rw [List.length_map]
      exact path_len 20 _ _ _ (by simp; omega)
    have hflat := flat_len hs' (fun h hh => (hpok h hh).1)
    have hH5 := hH9
    obtain ⟨A4, c4, rfl, hc4a, hc4b, _, hA4⟩ := hH5
    have hs9 := hs1.kept hB19
    have hk9 := hk1.below hB19 hk1.pos
    have hT9 : Has w9 w4.heap.size 26 (U8 r) := hT6.below hB69 hT6.lt
    obtain ⟨A5, c5, e5, _, _, hA5⟩ := id hs9
    simp only [Value.slice.injEq] at e5
    obtain ⟨rfl, _, rfl⟩ := e5
    obtain ⟨b, o, rfl, hb, hcell⟩ := hA5 (by omega)
    have hcp := hcell p hp
    have hsp : (ss.getD p ByteArray.empty).size ≤ 200 := by
      rw [List.getD_eq_getElem?_getD, List.getElem?_eq_getElem hp]; exact hsz _ (List.getElem_mem hp)
    generalize ss.getD p ByteArray.empty = sp at *
    obtain ⟨n, hn⟩ : ∃ n, n = hs'.length := ⟨_, rfl⟩
    rw [← hn] at hpl hp20 hS hc4a hA4 hflat
    obtain ⟨xs, hxs⟩ : ∃ x, x = U8 hs'.flatten := ⟨_, rfl⟩
    have hxl : xs.length = n * 32 := by rw [hxs, U8_length, hflat]
    have kg : ∀ w1 w2 : World, w9.heap.size ≤ w1.heap.size → Below w1.heap.size w1 w2 → Below w9.heap.size w1 w2 ∧ (∀ v, w1.ownsRow w9.heap.size 26 32 v n xs → w2.ownsRow w9.heap.size 26 32 v n xs) ∧ (∀ v, w1.ownsRow w9.heap.size 26 32 v 1 (U8 r) → w2.ownsRow w9.heap.size 26 32 v 1 (U8 r)) := fun w1 w2 h1 h2 => ⟨h2.mono h1, fun v hv => owns_kept hv h2, fun v hv => owns_kept hv h2⟩
    have hS := hS.only [(0, .slice (some ⟨b, o, none⟩) ss.length c), (1, .int .i64 (p : Int)), (2, .int .i64 oth), (3, .string s), (9, .pointer (some ⟨w4.heap.size, 0, none⟩)), (10, .slice A4 n c4)] ⟨rfl, rfl, rfl, rfl, rfl, rfl, trivial⟩
    have next : ∀ (a9 : Act) (w10 : World), Below w9.heap.size w9 w10 → Sees 145 [(0, .slice (some ⟨b, o, none⟩) ss.length c), (1, .int .i64 (p : Int)), (2, .int .i64 oth), (3, .string s), (9, .pointer (some ⟨w4.heap.size, 0, none⟩)), (10, .slice A4 n c4)] a9 → ∀ (N : Act → World → Prop) (X : Nat → Act → World → Prop), (Code.seq ((Tryd.f3.body.bind (regionIn 9)).getD .skip) .ret).wp Tryd.prog (Qx N X (Rets Tryd.prog Tryd.f3 (fun e w' => e = .returned (.bool true) ∧ Below w.heap.size w w'))) a9 w10 := fun a9 w10 hB10 hS N X => by
      have hT10 : Has w10 w4.heap.size 26 (U8 r) := hT9.below hB10 hT9.lt
      have hH10 := hH9.kept hB10
      rw [← hn] at hH10
      have hk10 := hk9.below hB10 hk9.pos
      have hn40 : hs'.length ≤ 40 := by omega
      have hbB : b < w10.heap.size := by have := hB10.size; omega
      have hcp10 : w10.cell? ⟨b, o + p, none⟩ = some (.string sp) := by rw [hB10.cell (p := ⟨b, o + p, none⟩) hb]; exact hcp
      refine qx_seq ?_
      refine reg_guard (fun w' => Below w10.heap.size w10 w') [.inl (.agg (U8 r).toArray), .inl (.slice (some ⟨b, o, none⟩) ss.length c), .inl (.int .i64 ((ss.length : Nat) : Int)), .inl (.int .i64 (p : Int)), .inl (.string s), .inl (.slice A4 n c4), .inl (.bool (checkB r (ss.length : Int) (p : Int) (bl s) hs')), .inl (.agg (U8 r).toArray), .inl (.slice (some ⟨b, o, none⟩) ss.length c), .inl (.int .i64 ((ss.length : Nat) : Int)), .inl (.int .i64 (p : Int)), .inl (.string s), .inl (.slice A4 n c4), .inl (.bool (checkB r (ss.length : Int) (p : Int) (bl s) hs')), .inl (.bool true), .inl (.bool true), .inl (.agg (U8 r).toArray), .inl (.slice (some ⟨b, o, none⟩) ss.length c), .inl (.int .i64 ((ss.length : Nat) : Int)), .inl (.int .i64 oth), .inl (.slice (some ⟨b, o, none⟩) ss.length c), .inl (.int .i64 (p : Int)), .inl (.pointer (some ⟨b, o + p, none⟩)), .inl (.string sp), .inl (.slice A4 n c4), .inl (.bool (checkB r (ss.length : Int) oth (bl sp) hs')), .inl (.agg (U8 r).toArray), .inl (.slice (some ⟨b, o, none⟩) ss.length c), .inl (.int .i64 ((ss.length : Nat) : Int)), .inl (.int .i64 oth), .inl (.slice (some ⟨b, o, none⟩) ss.length c), .inl (.int .i64 (p : Int)), .inl (.pointer (some ⟨b, o + p, none⟩)), .inl (.string sp), .inl (.slice A4 n c4), .inl (.bool (checkB r (ss.length : Int) oth (bl sp) hs')), .inl (.bool true), .inl (.bool true), .inl (.bool true), .inl (.agg (U8 r).toArray), .inl (.slice (some ⟨b, o, none⟩) ss.length c), .inl (.int .i64 ((ss.length : Nat) : Int)), .inl (.int .i64 ((ss.length + 1 : Nat) : Int)), .inl (.int .i64 (p : Int)), .inl (.slice (some ⟨b, o, none⟩) ss.length c), .inl (.int .i64 (p : Int)), .inl (.pointer (some ⟨b, o + p, none⟩)), .inl (.string sp), .inl (.slice A4 n c4), .inl (.bool (checkB r ((ss.length + 1 : Nat) : Int) (p : Int) (bl sp) hs')), .inl (.agg (U8 r).toArray), .inl (.slice (some ⟨b, o, none⟩) ss.length c), .inl (.int .i64 ((ss.length : Nat) : Int)), .inl (.int .i64 ((ss.length + 1 : Nat) : Int)), .inl (.int .i64 (p : Int)), .inl (.slice (some ⟨b, o, none⟩) ss.length c), .inl (.int .i64 (p : Int)), .inl (.pointer (some ⟨b, o + p, none⟩)), .inl (.string sp), .inl (.slice A4 n c4), .inl (.bool (checkB r ((ss.length + 1 : Nat) : Int) (p : Int) (bl sp) hs')), .inl (.bool true), .inl (.bool true), .inl (.bool true)] 64 0 mixed rfl (by kernel_rfl) hS (Below.refl _ _) (fun _ h => h.drew) ?_
      refine hs_is rfl (fun w' hw => runs_loadRow rfl (hT10.below hw hT10.lt) undHash rfl (by rw [infHash]; simp [hrl])) ?_
      refine hs_is rfl (fun w' hw => runs_move rfl) ?_
      refine hs_is rfl (fun w' hw => runs_len rfl undStrs) ?_
      refine hs_is rfl (fun w' hw => runs_move rfl) ?_
      refine hs_is rfl (fun w' hw => runs_move rfl) ?_
      refine hs_is rfl (fun w' hw => runs_move rfl) ?_
      refine hs_val rfl (fun w' hw hq => runs_call (args := [.agg (U8 r).toArray, .int .i64 (ss.length : Int), .int .i64 (p : Int), .string s, .slice A4 n c4]) goes15 rfl (bool_post _ (check_any r (ss.length : Int) (p : Int) s _ hs' w' hrl (hH10.kept hw) (by omega) (by omega) (hk10.below hw hk10.pos)) (fun _ h => ⟨hw.trans (h.mono hw.size), h⟩))) ?_
      refine hs_is rfl (fun w' hw => runs_loadRow rfl (hT10.below hw hT10.lt) undHash rfl (by rw [infHash]; simp [hrl])) ?_
      refine hs_is rfl (fun w' hw => runs_move rfl) ?_
      refine hs_is rfl (fun w' hw => runs_len rfl undStrs) ?_
      refine hs_is rfl (fun w' hw => runs_move rfl) ?_
      refine hs_is rfl (fun w' hw => runs_move rfl) ?_
      refine hs_is rfl (fun w' hw => runs_move rfl) ?_
      refine hs_val rfl (fun w' hw hq => runs_call (args := [.agg (U8 r).toArray, .int .i64 (ss.length : Int), .int .i64 (p : Int), .string s, .slice A4 n c4]) goes16 rfl (bool_post _ (refCheck_any r (ss.length : Int) (p : Int) s _ hs' w' hrl (hH10.kept hw) hn40 (by omega)) (fun _ h => ⟨hw.trans (h.mono hw.size), h⟩))) ?_
      refine hs_is rfl (fun w' hw => runs_eqBool (r := true) rfl rfl (beq_iff_eq.2 rfl)) ?_
      refine hs_is rfl (fun w' hw => runs_move rfl) ?_
      refine hs_yis rfl rfl (fun w' hw => runs_loadRow rfl (hT10.below hw hT10.lt) undHash rfl (by rw [infHash]; simp [hrl])) ?_
      refine hs_yis rfl rfl (fun w' hw => runs_move rfl) ?_
      refine hs_yis rfl rfl (fun w' hw => runs_len rfl undStrs) ?_
      refine hs_yis rfl rfl (fun w' hw => runs_move rfl) ?_
      refine hs_yis rfl rfl (fun w' hw => runs_move rfl) ?_
      refine hs_yis rfl rfl (fun w' hw => runs_move rfl) ?_
      refine hs_yis rfl rfl (fun w' hw => runs_indexAddr (j := p) rfl rfl undStrs infStr1 rfl hp) ?_
      refine hs_yis rfl rfl (fun w' hw => runs_load rfl (by kernel_rfl) (by rw [hw.cell (p := ⟨b, o + p, none⟩) hbB]; exact hcp10)) ?_
      refine hs_yis rfl rfl (fun w' hw => runs_move rfl) ?_
      refine hs_yval rfl rfl (fun w' hw hq => runs_call (args := [.agg (U8 r).toArray, .int .i64 (ss.length : Int), .int .i64 oth, .string sp, .slice A4 n c4]) goes15 rfl (bool_post _ (check_any r (ss.length : Int) oth sp _ hs' w' hrl (hH10.kept hw) (by omega) (by omega) (hk10.below hw hk10.pos)) (fun _ h => ⟨hw.trans (h.mono hw.size), h⟩))) ?_
      refine hs_yis rfl rfl (fun w' hw => runs_loadRow rfl (hT10.below hw hT10.lt) undHash rfl (by rw [infHash]; simp [hrl])) ?_
      refine hs_yis rfl rfl (fun w' hw => runs_move rfl) ?_
      refine hs_yis rfl rfl (fun w' hw => runs_len rfl undStrs) ?_
      refine hs_yis rfl rfl (fun w' hw => runs_move rfl) ?_
      refine hs_yis rfl rfl (fun w' hw => runs_move rfl) ?_
      refine hs_yis rfl rfl (fun w' hw => runs_move rfl) ?_
      refine hs_yis rfl rfl (fun w' hw => runs_indexAddr (j := p) rfl rfl undStrs infStr1 rfl hp) ?_
      refine hs_yis rfl rfl (fun w' hw => runs_load rfl (by kernel_rfl) (by rw [hw.cell (p := ⟨b, o + p, none⟩) hbB]; exact hcp10)) ?_
      refine hs_yis rfl rfl (fun w' hw => runs_move rfl) ?_
      refine hs_yval rfl rfl (fun w' hw hq => runs_call (args := [.agg (U8 r).toArray, .int .i64 (ss.length : Int), .int .i64 oth, .string sp, .slice A4 n c4]) goes16 rfl (bool_post _ (refCheck_any r (ss.length : Int) oth sp _ hs' w' hrl (hH10.kept hw) hn40 (by omega)) (fun _ h => ⟨hw.trans (h.mono hw.size), h⟩))) ?_
      refine hs_yis rfl rfl (fun w' hw => runs_eqBool (r := true) rfl rfl (beq_iff_eq.2 rfl)) ?_
      refine hs_is rfl (fun w' hw => runs_pick rfl rfl) ?_
      refine hs_is rfl (fun w' hw => runs_move rfl) ?_
      refine hs_yis rfl rfl (fun w' hw => runs_loadRow rfl (hT10.below hw hT10.lt) undHash rfl (by rw [infHash]; simp [hrl])) ?_
      refine hs_yis rfl rfl (fun w' hw => runs_move rfl) ?_
      refine hs_yis rfl rfl (fun w' hw => runs_len rfl undStrs) ?_
      refine hs_yis rfl rfl (fun w' hw => runs_add rfl rfl ((IntWalk.i64_in _ (by omega)).trans (show _ = ((ss.length + 1 : Nat) : Int) by omega))) ?_
      refine hs_yis rfl rfl (fun w' hw => runs_move rfl) ?_
      refine hs_yis rfl rfl (fun w' hw => runs_move rfl) ?_
      refine hs_yis rfl rfl (fun w' hw => runs_move rfl) ?_
      refine hs_yis rfl rfl (fun w' hw => runs_indexAddr (j := p) rfl rfl undStrs infStr1 rfl hp) ?_
      refine hs_yis rfl rfl (fun w' hw => runs_load rfl (by kernel_rfl) (by rw [hw.cell (p := ⟨b, o + p, none⟩) hbB]; exact hcp10)) ?_
      refine hs_yis rfl rfl (fun w' hw => runs_move rfl) ?_
      refine hs_yval rfl rfl (fun w' hw hq => runs_call (args := [.agg (U8 r).toArray, .int .i64 ((ss.length + 1 : Nat) : Int), .int .i64 (p : Int), .string sp, .slice A4 n c4]) goes15 rfl (bool_post _ (check_any r ((ss.length + 1 : Nat) : Int) (p : Int) sp _ hs' w' hrl (hH10.kept hw) (by omega) (by omega) (hk10.below hw hk10.pos)) (fun _ h => ⟨hw.trans (h.mono hw.size), h⟩))) ?_
      refine hs_yis rfl rfl (fun w' hw => runs_loadRow rfl (hT10.below hw hT10.lt) undHash rfl (by rw [infHash]; simp [hrl])) ?_
      refine hs_yis rfl rfl (fun w' hw => runs_move rfl) ?_
      refine hs_yis rfl rfl (fun w' hw => runs_len rfl undStrs) ?_
      refine hs_yis rfl rfl (fun w' hw => runs_add rfl rfl ((IntWalk.i64_in _ (by omega)).trans (show _ = ((ss.length + 1 : Nat) : Int) by omega))) ?_
      refine hs_yis rfl rfl (fun w' hw => runs_move rfl) ?_
      refine hs_yis rfl rfl (fun w' hw => runs_move rfl) ?_
      refine hs_yis rfl rfl (fun w' hw => runs_move rfl) ?_
      refine hs_yis rfl rfl (fun w' hw => runs_indexAddr (j := p) rfl rfl undStrs infStr1 rfl hp) ?_
      refine hs_yis rfl rfl (fun w' hw => runs_load rfl (by kernel_rfl) (by rw [hw.cell (p := ⟨b, o + p, none⟩) hbB]; exact hcp10)) ?_
      refine hs_yis rfl rfl (fun w' hw => runs_move rfl) ?_
      refine hs_yval rfl rfl (fun w' hw hq => runs_call (args := [.agg (U8 r).toArray, .int .i64 ((ss.length + 1 : Nat) : Int), .int .i64 (p : Int), .string sp, .slice A4 n c4]) goes16 rfl (bool_post _ (refCheck_any r ((ss.length + 1 : Nat) : Int) (p : Int) sp _ hs' w' hrl (hH10.kept hw) hn40 (by omega)) (fun _ h => ⟨hw.trans (h.mono hw.size), h⟩))) ?_
      refine hs_yis rfl rfl (fun w' hw => runs_eqBool (r := true) rfl rfl (beq_iff_eq.2 rfl)) ?_
      refine hs_is rfl (fun w' hw => runs_pick rfl rfl) ?_
      refine hs_is rfl (fun w' hw => runs_assign rfl) ?_
      refine (fun a5 w5 hS5 hB5 _ => ?_)
      refine wpAnyH_done (by kernel_rfl) ?_ _
      exact qx_ret (ret1 (t := 8) (by kernel_rfl) hS5 rfl ⟨rfl, hB1.trans ((hB19.trans ((hB10.trans (hB5.mono hB10.size)).mono hB19.size)).mono hB1.size)⟩)
    by_cases hn0 : 0 < n
    · refine qx_seq (qx_seq ?_)
      refine reg_k (fun w1 w2 => Below w9.heap.size w1 w2 ∧ (∀ v, w1.ownsRow w9.heap.size 26 32 v n xs → w2.ownsRow w9.heap.size 26 32 v n xs) ∧ (∀ v, w1.ownsRow w9.heap.size 26 32 v 1 (U8 r) → w2.ownsRow w9.heap.size 26 32 v 1 (U8 r))) (fun w' => Below w9.heap.size w9 w') [.inl (.slice A4 n c4), .inl (.int .i64 ((n : Nat) : Int)), .inl (.bool true), .inl (.bool true), .inl (.agg (U8 r).toArray), .inl (.slice (some ⟨b, o, none⟩) ss.length c), .inl (.int .i64 ((ss.length : Nat) : Int)), .inl (.int .i64 (p : Int)), .inl (.slice (some ⟨b, o, none⟩) ss.length c), .inl (.int .i64 (p : Int)), .inl (.pointer (some ⟨b, o + p, none⟩)), .inl (.string sp), .inl (.slice A4 n c4), .inr (fun v _ => ∃ A' c', v = .slice A' (n - 1) c'), .inl (.bool false), .inl (.bool false), .inl (.bool false), .inl (.agg (U8 r).toArray), .inl (.slice (some ⟨b, o, none⟩) ss.length c), .inl (.int .i64 ((ss.length : Nat) : Int)), .inl (.int .i64 (p : Int)), .inl (.slice (some ⟨b, o, none⟩) ss.length c), .inl (.int .i64 (p : Int)), .inl (.pointer (some ⟨b, o + p, none⟩)), .inl (.string sp), .inr (fun v w' => (∃ g, v = .slice (some ⟨g, 0, none⟩) 0 0) ∧ (n = 0 → w'.ownsRow w9.heap.size 26 32 v n xs)), .inl (.slice A4 n c4), .inr (fun v w' => (∃ g c, v = .slice (some ⟨g, 0, none⟩) n c) ∧ w'.ownsRow w9.heap.size 26 32 v n xs), .inl (.agg (U8 r).toArray), .inr (fun v w' => (∃ g, v = .slice (some ⟨g, 0, none⟩) 1 1) ∧ w'.ownsRow w9.heap.size 26 32 v 1 (U8 r)), .inr (fun v _ => ∃ A' c', v = .slice A' (n + 1) c'), .inl (.bool false), .inl (.bool false)] 33 0 mixed rfl (by kernel_rfl) hS (Below.refl _ _) (fun _ h => h.drew) ?_
      refine ks_is rfl (fun w' hw => runs_move rfl) ?_
      refine ks_is rfl (fun w' hw => runs_len rfl undHashes) ?_
      refine ks_is rfl (fun w' hw => runs_gtr (r := true) rfl rfl (by rw [decide_eq_true_eq]; omega)) ?_
      refine ks_is rfl (fun w' hw => runs_move rfl) ?_
      refine ks_yis rfl rfl (fun w' hw => runs_loadRow rfl (hT9.below hw hT9.lt) undHash rfl (by rw [infHash]; simp [hrl])) ?_
      refine ks_yis rfl rfl (fun w' hw => runs_move rfl) ?_
      refine ks_yis rfl rfl (fun w' hw => runs_len rfl undStrs) ?_
      refine ks_yis rfl rfl (fun w' hw => runs_move rfl) ?_
      refine ks_yis rfl rfl (fun w' hw => runs_move rfl) ?_
      refine ks_yis rfl rfl (fun w' hw => runs_move rfl) ?_
      refine ks_yis rfl rfl (fun w' hw => runs_indexAddr (j := p) rfl rfl undStrs infStr1 rfl hp) ?_
      refine ks_yis rfl rfl (fun w' hw => runs_load rfl (by kernel_rfl) (by rw [hw.cell (p := ⟨b, o + p, none⟩) hb]; exact hcp)) ?_
      refine ks_yis rfl rfl (fun w' hw => runs_move rfl) ?_
      refine ks_ypr rfl rfl (fun _ _ _ h _ => h) (fun w' hw hq => (runs_sliceFromG (l := 1) (sz := 32) rfl rfl rfl undHashes infHash (by omega)).mono (by rintro v w2 ⟨rfl, rfl⟩; exact ⟨⟨_, _, rfl⟩, hw, kg _ _ hw.size (Below.refl _ _)⟩)) (fun v62 => ?_)
      refine ks_yval rfl rfl (fun w' hw hq => runs_call (args := [.agg (U8 r).toArray, .int .i64 (ss.length : Int), .int .i64 (p : Int), .string sp, v62]) goes15 rfl (by obtain ⟨A', c', rfl⟩ := hq (13, _) List.mem_cons_self (by kernel_rfl); exact bool_post _ (check_len r ss.length p sp A' (n - 1) c' w' hrl (by omega)) (fun w2 h => ⟨hw.trans (h.mono hw.size), kg _ _ hw.size h⟩))) ?_
      refine ks_is rfl (fun w' hw => runs_pick rfl rfl) ?_
      refine ks_is rfl (fun w' hw => runs_move rfl) ?_
      refine ks_yis rfl rfl (fun w' hw => runs_loadRow rfl (hT9.below hw hT9.lt) undHash rfl (by rw [infHash]; simp [hrl])) ?_
      refine ks_yis rfl rfl (fun w' hw => runs_move rfl) ?_
      refine ks_yis rfl rfl (fun w' hw => runs_len rfl undStrs) ?_
      refine ks_yis rfl rfl (fun w' hw => runs_move rfl) ?_
      refine ks_yis rfl rfl (fun w' hw => runs_move rfl) ?_
      refine ks_yis rfl rfl (fun w' hw => runs_move rfl) ?_
      refine ks_yis rfl rfl (fun w' hw => runs_indexAddr (j := p) rfl rfl undStrs infStr1 rfl hp) ?_
      refine ks_yis rfl rfl (fun w' hw => runs_load rfl (by kernel_rfl) (by rw [hw.cell (p := ⟨b, o + p, none⟩) hb]; exact hcp)) ?_
      refine ks_ypr rfl rfl (fun _ _ _ h hb => ⟨h.1, fun h0 => hb.2.1 _ (h.2 h0)⟩) (fun w' hw hq => (runs_buildNone undHashes hih).mono (by rintro v w2 ⟨rfl, rfl⟩; exact ⟨⟨⟨_, rfl⟩, fun h0 => by subst h0; obtain rfl : xs = [] := List.eq_nil_of_length_eq_zero (by omega); exact World.ownsRow_made w' #[] 0 hw.size (by unfold maxLen; omega) (by simp)⟩, hw.alloc hw.size _, kg _ _ hw.size ((Below.refl _ _).alloc (Nat.le_refl _) _)⟩)) (fun v74 => ?_)
      refine ks_yis rfl rfl (fun w' hw => runs_move rfl) ?_
      refine ks_ypr rfl rfl (fun _ _ _ h hb => ⟨h.1, hb.2.1 _ h.2⟩) (fun w' hw hq => by
        obtain ⟨⟨g, rfl⟩, h25⟩ := hq (25, _) List.mem_cons_self (by kernel_rfl)
        by_cases h0 : n = 0
        · have h25' := h25 h0
          subst h0
          exact (runs_appendNone undHashes hih rfl (Nat.le_refl _) (by simp) rfl).mono (by rintro u w2 ⟨rfl, rfl⟩; exact ⟨⟨⟨_, _, rfl⟩, h25'⟩, hw, kg _ _ hw.size (Below.refl _ _)⟩)
        · obtain ⟨b4, o4, rfl, hb4, hra⟩ := hA4 (by omega)
          refine (runs_append0N (m := n) undHashes hih hzh hszh hbh (by simp [Value.cells]) (by omega) rfl rfl (news := xs) hxl (fun j u hu => ?_) (by omega) (by omega) (by omega)).mono ?_
          · rw [add_lit', hw.cell (p := ⟨b4, o4 + j, none⟩) hb4]; exact hra j u (hxs ▸ hu)
          · rintro u w2 ⟨h3, h4⟩
            refine ⟨⟨?_, owns_mono h3 hw.size⟩, hw.trans (h4.mono hw.size), kg _ _ hw.size h4⟩
            rcases h3.2 with ⟨_, h0'⟩ | ⟨g4, cap4, _, rfl, _⟩
            · omega
            · exact ⟨_, _, rfl⟩) (fun v76 => ?_)
      refine ks_yis rfl rfl (fun w' hw => runs_loadRow rfl (hT9.below hw hT9.lt) undHash rfl (by rw [infHash]; simp [hrl])) ?_
      refine ks_ypr rfl rfl (fun _ _ _ h hb => ⟨h.1, hb.2.2 _ h.2⟩) (fun w' hw hq => (runs_buildRow rfl undHashes hih hzh (by rw [hszh, U8_length]; exact hrl.symm) (by rw [U8_length, hrl]; omega) (by rw [U8_length, hrl]; omega)).mono (by rintro v w2 ⟨rfl, rfl⟩; exact ⟨⟨⟨_, rfl⟩, by have := World.ownsRow_lit (e := 26) (size := 32) w' (U8 r).toArray 1 hw.size (by unfold maxLen; omega) (by simp [hrl]); simpa using this⟩, hw.alloc hw.size _, kg _ _ hw.size ((Below.refl _ _).alloc (Nat.le_refl _) _)⟩)) (fun v78 => ?_)
      refine ks_ypr rfl rfl (fun _ _ _ h _ => h) (fun w' hw hq => by
        obtain ⟨⟨g9, rfl⟩, h29⟩ := hq (29, _) List.mem_cons_self (by kernel_rfl)
        obtain ⟨⟨g7, c7, rfl⟩, h27⟩ := hq (27, _) (List.mem_cons_of_mem _ List.mem_cons_self) (by kernel_rfl)
        exact (runs_appendKeep undHashes hih hzh hszh hbh (by simp [Value.cells]) (by omega) rfl h27 rfl (news := U8 r) (by rw [U8_length, hrl]) (fun j u hj => h29.cells rfl j u hj) (U8_one _) (by unfold maxLen; omega) (by omega) hw.size).mono (by rintro v w2 ⟨⟨A', c', rfl⟩, _, h3, h4⟩; exact ⟨⟨_, _, rfl⟩, hw.trans h3, h3, fun v hv => h4 v _ _ hv (.inl (Nat.le_refl _)), fun v hv => h4 v _ _ hv (if h0 : n = 0 then .inr ⟨h0, rfl, rfl⟩ else .inl (by omega))⟩)) (fun v79 => ?_)
      refine ks_yval rfl rfl (fun w' hw hq => runs_call (args := [.agg (U8 r).toArray, .int .i64 (ss.length : Int), .int .i64 (p : Int), .string sp, v79]) goes15 rfl (by obtain ⟨A', c', rfl⟩ := hq (30, _) List.mem_cons_self (by kernel_rfl); exact bool_post _ (check_len r ss.length p sp A' (n + 1) c' w' hrl (by omega)) (fun w2 h => ⟨hw.trans (h.mono hw.size), kg _ _ hw.size h⟩))) ?_
      refine ks_is rfl (fun w' hw => runs_pick rfl rfl) ?_
      refine (fun a5 w5 hS5 hB5 _ => ?_)
      refine wpAnyH_done (by kernel_rfl) ?_ _
      exact wp_cond_false (hS5.eval rfl) (wp_skip (next _ _ hB5 (hS5.only _ ⟨rfl, rfl, rfl, rfl, rfl, rfl, trivial⟩) _ _))
    · refine qx_seq (qx_seq ?_)
      refine reg_k (fun w1 w2 => Below w9.heap.size w1 w2 ∧ (∀ v, w1.ownsRow w9.heap.size 26 32 v n xs → w2.ownsRow w9.heap.size 26 32 v n xs) ∧ (∀ v, w1.ownsRow w9.heap.size 26 32 v 1 (U8 r) → w2.ownsRow w9.heap.size 26 32 v 1 (U8 r))) (fun w' => Below w9.heap.size w9 w') [.inl (.slice A4 n c4), .inl (.int .i64 ((n : Nat) : Int)), .inl (.bool false), .inl (.bool false), .inl undef, .inl undef, .inl undef, .inl undef, .inl undef, .inl undef, .inl undef, .inl undef, .inl undef, .inl undef, .inl undef, .inl (.bool false), .inl (.bool false), .inl (.agg (U8 r).toArray), .inl (.slice (some ⟨b, o, none⟩) ss.length c), .inl (.int .i64 ((ss.length : Nat) : Int)), .inl (.int .i64 (p : Int)), .inl (.slice (some ⟨b, o, none⟩) ss.length c), .inl (.int .i64 (p : Int)), .inl (.pointer (some ⟨b, o + p, none⟩)), .inl (.string sp), .inr (fun v w' => (∃ g, v = .slice (some ⟨g, 0, none⟩) 0 0) ∧ (n = 0 → w'.ownsRow w9.heap.size 26 32 v n xs)), .inl (.slice A4 n c4), .inr (fun v w' => (∃ g c, v = .slice (some ⟨g, 0, none⟩) n c) ∧ w'.ownsRow w9.heap.size 26 32 v n xs), .inl (.agg (U8 r).toArray), .inr (fun v w' => (∃ g, v = .slice (some ⟨g, 0, none⟩) 1 1) ∧ w'.ownsRow w9.heap.size 26 32 v 1 (U8 r)), .inr (fun v _ => ∃ A' c', v = .slice A' (n + 1) c'), .inl (.bool false), .inl (.bool false)] 33 0 mixed rfl (by kernel_rfl) hS (Below.refl _ _) (fun _ h => h.drew) ?_
      refine ks_is rfl (fun w' hw => runs_move rfl) ?_
      refine ks_is rfl (fun w' hw => runs_len rfl undHashes) ?_
      refine ks_is rfl (fun w' hw => runs_gtr (r := false) rfl rfl (by rw [decide_eq_false_iff_not]; omega)) ?_
      refine ks_is rfl (fun w' hw => runs_move rfl) ?_
      refine ks_no rfl rfl rfl ?_
      refine ks_no rfl rfl rfl ?_
      refine ks_no rfl rfl rfl ?_
      refine ks_no rfl rfl rfl ?_
      refine ks_no rfl rfl rfl ?_
      refine ks_no rfl rfl rfl ?_
      refine ks_no rfl rfl rfl ?_
      refine ks_no rfl rfl rfl ?_
      refine ks_no rfl rfl rfl ?_
      refine ks_no rfl rfl rfl ?_
      refine ks_no rfl rfl rfl ?_
      refine ks_is rfl (fun w' hw => runs_pick rfl rfl) ?_
      refine ks_is rfl (fun w' hw => runs_move rfl) ?_
      refine ks_yis rfl rfl (fun w' hw => runs_loadRow rfl (hT9.below hw hT9.lt) undHash rfl (by rw [infHash]; simp [hrl])) ?_
      refine ks_yis rfl rfl (fun w' hw => runs_move rfl) ?_
      refine ks_yis rfl rfl (fun w' hw => runs_len rfl undStrs) ?_
      refine ks_yis rfl rfl (fun w' hw => runs_move rfl) ?_
      refine ks_yis rfl rfl (fun w' hw => runs_move rfl) ?_
      refine ks_yis rfl rfl (fun w' hw => runs_move rfl) ?_
      refine ks_yis rfl rfl (fun w' hw => runs_indexAddr (j := p) rfl rfl undStrs infStr1 rfl hp) ?_
      refine ks_yis rfl rfl (fun w' hw => runs_load rfl (by kernel_rfl) (by rw [hw.cell (p := ⟨b, o + p, none⟩) hb]; exact hcp)) ?_
      refine ks_ypr rfl rfl (fun _ _ _ h hb => ⟨h.1, fun h0 => hb.2.1 _ (h.2 h0)⟩) (fun w' hw hq => (runs_buildNone undHashes hih).mono (by rintro v w2 ⟨rfl, rfl⟩; exact ⟨⟨⟨_, rfl⟩, fun h0 => by subst h0; obtain rfl : xs = [] := List.eq_nil_of_length_eq_zero (by omega); exact World.ownsRow_made w' #[] 0 hw.size (by unfold maxLen; omega) (by simp)⟩, hw.alloc hw.size _, kg _ _ hw.size ((Below.refl _ _).alloc (Nat.le_refl _) _)⟩)) (fun v74 => ?_)
      refine ks_yis rfl rfl (fun w' hw => runs_move rfl) ?_
      refine ks_ypr rfl rfl (fun _ _ _ h hb => ⟨h.1, hb.2.1 _ h.2⟩) (fun w' hw hq => by
        obtain ⟨⟨g, rfl⟩, h25⟩ := hq (25, _) List.mem_cons_self (by kernel_rfl)
        by_cases h0 : n = 0
        · have h25' := h25 h0
          subst h0
          exact (runs_appendNone undHashes hih rfl (Nat.le_refl _) (by simp) rfl).mono (by rintro u w2 ⟨rfl, rfl⟩; exact ⟨⟨⟨_, _, rfl⟩, h25'⟩, hw, kg _ _ hw.size (Below.refl _ _)⟩)
        · obtain ⟨b4, o4, rfl, hb4, hra⟩ := hA4 (by omega)
          refine (runs_append0N (m := n) undHashes hih hzh hszh hbh (by simp [Value.cells]) (by omega) rfl rfl (news := xs) hxl (fun j u hu => ?_) (by omega) (by omega) (by omega)).mono ?_
          · rw [add_lit', hw.cell (p := ⟨b4, o4 + j, none⟩) hb4]; exact hra j u (hxs ▸ hu)
          · rintro u w2 ⟨h3, h4⟩
            refine ⟨⟨?_, owns_mono h3 hw.size⟩, hw.trans (h4.mono hw.size), kg _ _ hw.size h4⟩
            rcases h3.2 with ⟨_, h0'⟩ | ⟨g4, cap4, _, rfl, _⟩
            · omega
            · exact ⟨_, _, rfl⟩) (fun v76 => ?_)
      refine ks_yis rfl rfl (fun w' hw => runs_loadRow rfl (hT9.below hw hT9.lt) undHash rfl (by rw [infHash]; simp [hrl])) ?_
      refine ks_ypr rfl rfl (fun _ _ _ h hb => ⟨h.1, hb.2.2 _ h.2⟩) (fun w' hw hq => (runs_buildRow rfl undHashes hih hzh (by rw [hszh, U8_length]; exact hrl.symm) (by rw [U8_length, hrl]; omega) (by rw [U8_length, hrl]; omega)).mono (by rintro v w2 ⟨rfl, rfl⟩; exact ⟨⟨⟨_, rfl⟩, by have := World.ownsRow_lit (e := 26) (size := 32) w' (U8 r).toArray 1 hw.size (by unfold maxLen; omega) (by simp [hrl]); simpa using this⟩, hw.alloc hw.size _, kg _ _ hw.size ((Below.refl _ _).alloc (Nat.le_refl _) _)⟩)) (fun v78 => ?_)
      refine ks_ypr rfl rfl (fun _ _ _ h _ => h) (fun w' hw hq => by
        obtain ⟨⟨g9, rfl⟩, h29⟩ := hq (29, _) List.mem_cons_self (by kernel_rfl)
        obtain ⟨⟨g7, c7, rfl⟩, h27⟩ := hq (27, _) (List.mem_cons_of_mem _ List.mem_cons_self) (by kernel_rfl)
        exact (runs_appendKeep undHashes hih hzh hszh hbh (by simp [Value.cells]) (by omega) rfl h27 rfl (news := U8 r) (by rw [U8_length, hrl]) (fun j u hj => h29.cells rfl j u hj) (U8_one _) (by unfold maxLen; omega) (by omega) hw.size).mono (by rintro v w2 ⟨⟨A', c', rfl⟩, _, h3, h4⟩; exact ⟨⟨_, _, rfl⟩, hw.trans h3, h3, fun v hv => h4 v _ _ hv (.inl (Nat.le_refl _)), fun v hv => h4 v _ _ hv (if h0 : n = 0 then .inr ⟨h0, rfl, rfl⟩ else .inl (by omega))⟩)) (fun v79 => ?_)
      refine ks_yval rfl rfl (fun w' hw hq => runs_call (args := [.agg (U8 r).toArray, .int .i64 (ss.length : Int), .int .i64 (p : Int), .string sp, v79]) goes15 rfl (by obtain ⟨A', c', rfl⟩ := hq (30, _) List.mem_cons_self (by kernel_rfl); exact bool_post _ (check_len r ss.length p sp A' (n + 1) c' w' hrl (by omega)) (fun w2 h => ⟨hw.trans (h.mono hw.size), kg _ _ hw.size h⟩))) ?_
      refine ks_is rfl (fun w' hw => runs_pick rfl rfl) ?_
      refine (fun a5 w5 hS5 hB5 _ => ?_)
      refine wpAnyH_done (by kernel_rfl) ?_ _
      exact wp_cond_false (hS5.eval rfl) (wp_skip (next _ _ hB5 (hS5.only _ ⟨rfl, rfl, rfl, rfl, rfl, rfl, trivial⟩) _ _))
end Go.Proofs.YtdemoidmhmdgkaaDoor
