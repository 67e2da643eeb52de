/- Layer 12: the program's Get. Conditions: none but those of the contract. -/
import Derived.Test.YtooeahpkhocaeaaDoorCPutP
import Derived.Test.YtooeahpkhocaeaaDoorJ22
namespace Go.Proofs.YtooeahpkhocaeaaDoor
open Go.RowKit
set_option maxRecDepth 100000

theorem goes23 : Goes Tryd.prog 23 := goes_of Tryd.func23 (by kernel_rfl) rfl
theorem mayC_iff {a b n : Nat} : mayC a b n = true ↔ a ≤ 63 ∧ b ≤ 63 ∧ 1 ≤ n ∧ n ≤ 64 := by
  unfold mayC inB
  simp only [Bool.and_eq_true, decide_eq_true_eq, Nat.zero_le, true_and]
set_option maxHeartbeats 1000000 in
theorem cget_c : CGetC := fun s w _ => by
  show Ans 12 [.string s] w _
  refine calls_qx (args := [.string s]) 67 Tryd.func12 rfl (by kernel_rfl) (by simp) (fun a hS => ?_)
  have hB := Below.refl w.heap.size w
  refine qx_seq (reg_seq ?_)
  refine seq_op hS (by decide) (runs_allocB (cs := cmc noCm (.slice none 0 0)) zoC rfl) (fun v1 w1 a1 hp hS => ?_)
  obtain ⟨rfl, hM1, hB1⟩ := hp
  have hLhM1 : w.heap.size ≤ w.heap.size := hB.size
  have hB := hB.trans (hB1.mono hB.size)
  refine sI hS (runs_assign rfl) fun _ hS => ?_
  refine nil_ok (qx_seq (qx_seq (reg_seq ?_)))
  refine sI hS (runs_move rfl) fun _ hS => ?_
  by_cases h0 : bl s = []
  · skip
    refine sI hS (runs_eqStr (r := true) rfl rfl (by rw [h0]; rfl)) fun _ hS => ?_
    refine sI hS (runs_move rfl) fun _ hS => ?_
    refine sN hS fun _ hS => ?_
    refine sN hS fun _ hS => ?_
    refine sN hS fun _ hS => ?_
    refine sI hS (runs_pick rfl rfl) fun _ hS => ?_
    refine nil_ok (wp_cond_true (hS.eval rfl) (qx_seq (reg_seq ?_)))
    refine sI hS (runs_buildK (pv := []) (cells := (cmc noCm (.slice none 0 0)).toArray) rfl built_0) fun _ hS => ?_
    refine seq_none hS (runs_storeB (cs := cmc noCm (.slice none 0 0)) rfl rfl hM1 rfl (cm_one rfl) (by rw [szC, cmc_len noCm_len])) (fun v3 w3 a1 hp hS => ?_)
    obtain ⟨hM1, hU3⟩ := hp
    have hB := But.new hB hU3 (fun i e => by rw [e]; exact hLhM1) (Nat.le_refl _)
    refine sI hS (runs_assign rfl) fun _ hS => ?_
    have hfin : getC (bl s) = (noCm, 120) := by rw [h0]; rfl
    exact nil_ok (qx_ret (retRow2 (p := 2) (t := 3) (ty := 26) (by kernel_rfl) hS rfl rfl hM1 Tryd.underlying26 rfl (by rw [szC]; rfl) ⟨_, rfl, _, by rw [hfin] <;> rfl, by rw [hfin]; exact cmv_no _, hB⟩))
  refine sI hS (runs_eqStr (r := false) rfl rfl (by rw [show bl (⟨#[]⟩ : ByteArray) = [] from rfl, beq_eq_false_iff_ne]; exact h0)) fun _ hS => ?_
  refine sI hS (runs_move rfl) fun _ hS => ?_
  refine sY hS (runs_move rfl) fun _ hS => ?_
  have hs0 : 0 < s.size := by rw [← bl_length]; exact List.length_pos_iff.2 h0
  obtain ⟨b0, hb0⟩ : ∃ b, s[0]? = some b := ⟨s[0]'hs0, by rw [getElem?_pos s 0 hs0]⟩
  have hbl := bl_head hb0
  refine sY hS (runs_indexG9 rfl rfl rfl und9 hb0) fun _ hS => ?_
  by_cases h67 : b0.toNat ≠ 67
  · skip
    refine sY hS (runs_neq (r := true) rfl rfl (by simp; omega)) fun _ hS => ?_
    refine sI hS (runs_pick rfl rfl) fun _ hS => ?_
    refine nil_ok (wp_cond_true (hS.eval rfl) (qx_seq (reg_seq ?_)))
    refine sI hS (runs_buildK (pv := []) (cells := (cmc noCm (.slice none 0 0)).toArray) rfl built_0) fun _ hS => ?_
    refine seq_none hS (runs_storeB (cs := cmc noCm (.slice none 0 0)) rfl rfl hM1 rfl (cm_one rfl) (by rw [szC, cmc_len noCm_len])) (fun v5 w5 a1 hp hS => ?_)
    obtain ⟨hM1, hU5⟩ := hp
    have hB := But.new hB hU5 (fun i e => by rw [e]; exact hLhM1) (Nat.le_refl _)
    refine sI hS (runs_assign rfl) fun _ hS => ?_
    have hfin : getC (bl s) = (noCm, 120) := by rw [hbl]; simp [getC, h67]
    exact nil_ok (qx_ret (retRow2 (p := 2) (t := 3) (ty := 26) (by kernel_rfl) hS rfl rfl hM1 Tryd.underlying26 rfl (by rw [szC]; rfl) ⟨_, rfl, _, by rw [hfin] <;> rfl, by rw [hfin]; exact cmv_no _, hB⟩))
  refine sY hS (runs_neq (r := false) rfl rfl (by simp; omega)) fun _ hS => ?_
  refine sI hS (runs_pick rfl rfl) fun _ hS => ?_
  refine nil_ok (wp_cond_false (hS.eval rfl) (wp_skip (qx_seq (?_))))
  replace h67 := Classical.not_not.1 h67
  have hg0 : getC (bl s) = getC0 (bl (cut s 1)) := by rw [hbl, h67, getC_67]
  obtain ⟨na, s1, e1, hN1⟩ : ∃ a b c, numRes (cut s 1) 0 = (a, b, c) := ⟨_, _, _, rfl⟩
  obtain ⟨nb, s2, e2, hN2⟩ : ∃ a b c, numRes s1 e1 = (a, b, c) := ⟨_, _, _, rfl⟩
  obtain ⟨rt, s3, e3, hN3⟩ : ∃ a b c, hashRes s2 e2 = (a, b, c) := ⟨_, _, _, rfl⟩
  obtain ⟨nk, s4, e4, hN4⟩ : ∃ a b c, numRes s3 e3 = (a, b, c) := ⟨_, _, _, rfl⟩
  obtain ⟨q1, q2, hna, hnb, hnk, hr1, hr2⟩ := get4 _ _ _ _ _ _ _ _ _ _ _ _ _ hN1 hN2 hN3 hN4
  obtain ⟨cur0, hcur0⟩ : ∃ c, cut s 1 = c := ⟨_, rfl⟩
  rw [hcur0] at hg0 hN1 q1 q2
  have hBpre0 := hB
  have hB := Below.refl w1.heap.size w1
  have hM1b := hM1
  refine reg_seq ?_
  refine sI hS (runs_move rfl) fun _ hS => ?_
  refine sI hS (runs_cutS (i := 1) rfl rfl hs0) fun _ hS => ?_
  refine seq_op hS (by decide) (runs_call (args := [.string (cut s 1)]) goes23 rfl (rdd_newC (cut s 1) w1)) (fun v7 w7 a1 hp hS => ?_)
  rw [hcur0] at hp
  obtain ⟨rfl, hI, hB7⟩ := hp
  have hLhI : w1.heap.size ≤ w1.heap.size := hB.size
  have hB := hB.trans (hB7.mono hB.size)
  have hM1 := hM1b.below hB hM1b.lt
  refine sI hS (runs_assign rfl) fun _ hS => ?_
  refine nil_ok (qx_seq (reg_seq ?_))
  refine sI hS (runs_move rfl) fun _ hS => ?_
  refine seq_op hS (by decide) (runs_call (args := [.pointer (some ⟨w1.heap.size, 0, none⟩)]) goes24 rfl (rdd_num hI)) (fun v9 w9 a1 hp hS => ?_)
  rw [hN1] at hp
  obtain ⟨rfl, hp⟩ := hp
  obtain ⟨hI, hU9⟩ := hp
  have hB := But.new hB hU9 (fun i e => by rw [e]; exact hLhI) (Nat.le_refl _)
  have hM1 := hM1b.below hB hM1b.lt
  refine sI hS (runs_move rfl) fun _ hS => ?_
  refine seq_op hS (by decide) (runs_call (args := [.pointer (some ⟨w1.heap.size, 0, none⟩)]) goes24 rfl (rdd_num hI)) (fun v11 w11 a1 hp hS => ?_)
  rw [hN2] at hp
  obtain ⟨rfl, hp⟩ := hp
  obtain ⟨hI, hU11⟩ := hp
  have hB := But.new hB hU11 (fun i e => by rw [e]; exact hLhI) (Nat.le_refl _)
  have hM1 := hM1b.below hB hM1b.lt
  refine sI hS (runs_assign rfl) fun _ hS => ?_
  refine sI hS (runs_assign rfl) fun _ hS => ?_
  refine nil_ok (qx_seq (reg_seq ?_))
  refine sI hS (runs_move rfl) fun _ hS => ?_
  refine seq_op hS (by decide) (runs_call (args := [.pointer (some ⟨w1.heap.size, 0, none⟩)]) goes25 rfl (rdd_hashC hI)) (fun v13 w13 a1 hp hS => ?_)
  rw [hN3] at hp
  obtain ⟨rfl, hp⟩ := hp
  obtain ⟨hI, hU13⟩ := hp
  have hB := But.new hB hU13 (fun i e => by rw [e]; exact hLhI) (Nat.le_refl _)
  have hM1 := hM1b.below hB hM1b.lt
  refine seq_op hS (by decide) (runs_allocB (cs := U8 zero32) zoH rfl) (fun v15 w15 a1 hp hS => ?_)
  obtain ⟨rfl, hM15, hB15⟩ := hp
  have hLhM15 : w1.heap.size ≤ w13.heap.size := hB.size
  have hB := hB.trans (hB15.mono hB.size)
  have hM1 := hM1b.below hB hM1b.lt
  have hI := hI.below hB15 hI.lt
  refine seq_none hS (runs_storeB (cs := U8 rt) rfl rfl hM15 (by rw [U8_length, U8_length, hr1]; rfl) (List.all_eq_true.2 (U8_one rt)) (by rw [infHash, U8_length, hr1])) (fun v17 w17 a1 hp hS => ?_)
  have hQ17 := hM15
  obtain ⟨hM15, hU17⟩ := hp
  have hB := But.new hB hU17 (fun i e => by rw [e]; exact hLhM15) (Nat.le_refl _)
  have hM1 := hM1b.below hB hM1b.lt
  have hI := hI.but hU17 (has_ne hI hQ17 (by decide))
  refine nil_ok (qx_seq (reg_seq ?_))
  refine sI hS (runs_move rfl) fun _ hS => ?_
  refine seq_op hS (by decide) (runs_call (args := [.pointer (some ⟨w1.heap.size, 0, none⟩)]) goes24 rfl (rdd_num hI)) (fun v19 w19 a1 hp hS => ?_)
  rw [hN4] at hp
  obtain ⟨rfl, hp⟩ := hp
  have hQ19 := hI
  obtain ⟨hI, hU19⟩ := hp
  have hB := But.new hB hU19 (fun i e => by rw [e]; exact hLhI) (Nat.le_refl _)
  have hM1 := hM1b.below hB hM1b.lt
  have hM15 := hM15.but hU19 (has_ne hM15 hQ19 (by decide))
  refine sI hS (runs_assign rfl) fun _ hS => ?_
  refine nil_ok (qx_seq (qx_seq (reg_seq ?_)))
  refine sI hS (runs_move rfl) fun _ hS => ?_
  refine sI hS (runs_call (args := [.pointer (some ⟨w1.heap.size, 0, none⟩)]) goes26 rfl (rdd_errC hI)) fun _ hS => ?_
  refine sI hS (runs_assign rfl) fun _ hS => ?_
  refine nil_ok (qx_seq (reg_seq ?_))
  refine sI hS (runs_move rfl) fun _ hS => ?_
  by_cases he4 : e4 ≠ 0
  · skip
    refine sI hS (runs_neq (r := true) rfl rfl (by simpa using he4)) fun _ hS => ?_
    refine nil_ok (wp_cond_true (hS.eval rfl) (qx_seq (reg_seq ?_)))
    refine sI hS (runs_buildK (pv := []) (cells := (cmc noCm (.slice none 0 0)).toArray) rfl built_0) fun _ hS => ?_
    refine sI hS (runs_move rfl) fun _ hS => ?_
    refine seq_none hS (runs_storeB (cs := cmc noCm (.slice none 0 0)) rfl rfl hM1 rfl (cm_one rfl) (by rw [szC, cmc_len noCm_len])) (fun v21 w21 a1 hp hS => ?_)
    obtain ⟨hM1, hU21⟩ := hp
    have hT := But.new (hBpre0.trans ((hB).mono hBpre0.size)) hU21 (fun i e => by rw [e]; exact Nat.le_refl _) (Nat.le_refl _)
    refine sI hS (runs_assign rfl) fun _ hS => ?_
    have hfin : getC (bl s) = (noCm, e4) := by rw [hg0]; exact q1 he4
    exact nil_ok (qx_ret (retRow2 (p := 2) (t := 3) (ty := 26) (by kernel_rfl) hS rfl rfl hM1 Tryd.underlying26 rfl (by rw [szC]; rfl) ⟨_, rfl, _, by rw [hfin] <;> rfl, by rw [hfin]; exact cmv_no _, hT⟩))
  refine sI hS (runs_neq (r := false) rfl rfl (by simpa using he4)) fun _ hS => ?_
  refine nil_ok (wp_cond_false (hS.eval rfl) (wp_skip (qx_seq (qx_seq (?_)))))
  replace he4 := Classical.not_not.1 he4
  obtain ⟨q3, q4⟩ := q2 he4
  refine reg_seq ?_
  refine sI hS (runs_move rfl) fun _ hS => ?_
  refine sI hS (runs_move rfl) fun _ hS => ?_
  refine sI hS (runs_move rfl) fun _ hS => ?_
  refine seq_op hS (by decide) (runs_call (args := [.int .u64 ((na : Nat) : Int), .int .u64 ((nb : Nat) : Int), .int .u64 ((nk : Nat) : Int)]) goes18 rfl (may_any _ _ _ w19)) (fun v22 w22 a1 hp hS => ?_)
  obtain ⟨rfl, hB22⟩ := hp
  have hB := hB.trans (hB22.mono hB.size)
  have hM1 := hM1b.below hB hM1b.lt
  have hI := hI.below hB22 hI.lt
  have hM15 := hM15.below hB22 hM15.lt
  by_cases hmy : mayC na nb nk = true
  · skip
    rw [hmy] at hS
    refine sI hS (runs_not (b := true) rfl) fun _ hS => ?_
    refine nil_ok (wp_cond_false (hS.eval rfl) (wp_skip (qx_seq (?_))))
    obtain ⟨m1, m2, m3, m4⟩ := mayC_iff.1 hmy
    refine reg_seq ?_
    refine sI hS (runs_move rfl) fun _ hS => ?_
    refine sI hS (runs_convInt (r := ((na : Nat) : Int)) rfl (by decide) und3 (by simp [IntKind.wrap, IntKind.bits, IntKind.signed]; omega)) fun _ hS => ?_
    refine sI hS (runs_move rfl) fun _ hS => ?_
    refine sI hS (runs_convInt (r := ((nb : Nat) : Int)) rfl (by decide) und3 (by simp [IntKind.wrap, IntKind.bits, IntKind.signed]; omega)) fun _ hS => ?_
    refine sI hS (runs_loadRow rfl hM15 Tryd.underlying23 rfl (by rw [infHash, U8_length, hr1])) fun _ hS => ?_
    refine sI hS (runs_buildK (pv := [(0, .int .i64 ((na : Nat) : Int)), (1, .int .i64 ((nb : Nat) : Int)), (2, .agg (U8 rt).toArray)]) (cells := (cmc (mkC na nb rt []) (.slice none 0 0)).toArray) rfl (built_C3 hr1)) fun _ hS => ?_
    refine seq_op hS (by decide) (runs_allocB (cs := cmc noCm (.slice none 0 0)) zoC rfl) (fun v24 w24 a1 hp hS => ?_)
    obtain ⟨rfl, hM24, hB24⟩ := hp
    have hLhM24 : w1.heap.size ≤ w22.heap.size := hB.size
    have hB := hB.trans (hB24.mono hB.size)
    have hM1 := hM1b.below hB hM1b.lt
    have hI := hI.below hB24 hI.lt
    refine seq_none hS (runs_storeB (cs := cmc (mkC na nb rt []) (.slice none 0 0)) rfl rfl hM24 ((cmc_len noCm_len).trans (cmc_len (c := mkC na nb rt []) hr1).symm) (cm_one rfl) (by rw [szC, cmc_len (c := mkC na nb rt []) hr1])) (fun v26 w26 a1 hp hS => ?_)
    have hQ26 := hM24
    obtain ⟨hM24, hU26⟩ := hp
    have hB := But.new hB hU26 (fun i e => by rw [e]; exact hLhM24) (Nat.le_refl _)
    have hM1 := hM1b.below hB hM1b.lt
    have hI := hI.but hU26 (has_ne hI hQ26 (by decide))
    refine nil_ok (qx_seq (qx_seq (reg_seq ?_)))
    refine sI hS (runs_move rfl) fun _ hS => ?_
    refine sI hS (runs_move rfl) fun _ hS => ?_
    refine nil_ok (?_)
    obtain ⟨gq, hgqe⟩ : ∃ g, g = w22.heap.size := ⟨_, rfl⟩
    have hgq : w1.heap.size ≤ gq := by rw [hgqe]; exact hLhM24
    have hQ := hM24
    obtain ⟨rb, hrbe⟩ : ∃ g, g = w1.heap.size := ⟨_, rfl⟩
    have hrb : w1.heap.size ≤ rb := by rw [hrbe]; exact hLhI
    rw [← hgqe] at hQ hS
    rw [← hrbe] at hI hS
    refine qx_range (fun mm a w' => ∃ (i : Nat) (ys : List (List Nat)) (cur : ByteArray) (ee : Nat) (ov : Value), i ≤ nk ∧ mm = nk - i ∧ Below w1.heap.size w1 w' ∧ ys.length = i ∧ HashI nk (bl s4) i ys cur ee ∧ (∀ h ∈ ys, h.length = 32 ∧ Sha.Bytes h) ∧ w'.ownsRow w1.heap.size 23 32 ov i (U8 ys.flatten) ∧ (i = 0 → ∀ g m c, ov = .slice (some g) m c → c = 0) ∧ Has w' gq 26 (cmc (mkC na nb rt ys) ov) ∧ In w' rb cur ee ∧ Sees 67 [(50, .int .u64 ((i : Nat) : Int)), (49, .int .u64 ((nk : Nat) : Int)), (10, .pointer (some ⟨gq, 0, none⟩)), (4, .pointer (some ⟨rb, 0, none⟩)), (2, .pointer (some ⟨w.heap.size, 0, none⟩))] a) nk ⟨0, [], s4, e4, _, by omega, by omega, hB, rfl, ⟨fun _ => RdHsI.zero _ _, fun h => absurd he4 h⟩, (by simp), ⟨rfl, .inl ⟨rfl, rfl⟩⟩, (fun _ g m c e => by cases e), hQ, hI, hS.only _ ⟨rfl, rfl, rfl, rfl, rfl, trivial⟩⟩ ?_
    clear hS 
    rintro mm a wl1 ⟨i, ys, cur, ee, ov, hi1, rfl, hBb1, hlenY, hHI, hyo, howY, hzY, hQY, hIY, hS⟩
    have hBsz1 := hBb1.size
    have hM1 := hM1b.below hBb1 hM1b.lt
    have hB := Below.refl wl1.heap.size wl1
    refine reg_seq ?_
    by_cases hlt1 : i < nk
    · skip
      refine sI hS (lssT rfl rfl (by omega)) fun _ hS => ?_
      refine nil_ok ⟨_, hS.eval rfl, fun h => by simp at h, fun _ => ?_⟩
      obtain ⟨r, s5, e5, hN5⟩ : ∃ a b c, hashRes cur ee = (a, b, c) := ⟨_, _, _, rfl⟩
      have hr32 := hash_len cur ee
      have hrb2 := hash_bytes cur ee
      rw [hN5] at hr32 hrb2
      have hstep := hHI.step hlt1 hN5
      have hcap : 0 < i ∨ ∀ g m c, ov = .slice (some g) m c → c = 0 := (Nat.eq_zero_or_pos i).elim (fun h => .inr (hzY h)) .inl
      have hIn : In wl1 rb cur ee := hIY
      have hszW := hBsz1
      refine qx_seq (qx_block (reg_t (KI w1.heap.size (U8 ys.flatten ++ U8 r)) (fun b w' => KI w1.heap.size (U8 ys.flatten ++ U8 r) wl1 w' ∧ Has w' gq 26 (cmc (mkC na nb rt ys) ov) ∧ In w' rb (cond b s5 cur) (cond b e5 ee)) [.inl (.pointer (some ⟨gq, 0 + 34, none⟩)), .inl (ov), .inl (.pointer (some ⟨rb, 0, none⟩)), .inl (.agg (U8 r).toArray), .inr (fun v w' => ∃ g5, v = .slice (some ⟨g5, 0, none⟩) 1 1 ∧ Has w' g5 23 (U8 r)), .inr (fun v w' => (∃ g3 c3, v = .slice (some ⟨g3, 0, none⟩) (i + 1) c3) ∧ w'.ownsRow w1.heap.size 23 32 v (i + 1) (U8 ys.flatten ++ U8 r))] #[false, false, false, false, false, false] 6 2 3 mixed rfl (by kernel_rfl) hS ⟨KI.refl, hQY, hIn⟩ (fun h => ⟨h.1.drew, h.2.1, h.2.2⟩) ?_))
      refine ts_is rfl rfl (fun b_ w' hw => runs_fieldK foC_3 rfl) ?_
      refine ts_is rfl rfl (fun b_ w' hw => runs_load rfl pl924 (hw.2.1.at (cm_v (c := (mkC na nb rt ys)) hr1))) ?_
      refine ts_is rfl rfl (fun b_ w' hw => runs_move rfl) ?_
      refine ts_tval rfl rfl (fun w' hw hq => (runs_call (args := [.pointer (some ⟨rb, 0, none⟩)]) goes25 rfl (rdd_hashC (s := cur) (e := ee) hw.2.2)).mono (by rw [hN5]; rintro v w5 ⟨rfl, h1, h2⟩; have hk := KI.of_but (B := w1.heap.size) (Y := (U8 ys.flatten ++ U8 r)) h2 hw.2.2 (.inl rfl) hrb (Nat.le_trans hszW hw.1.1.size); exact ⟨rfl, ⟨hw.1.trans hk, hw.2.1.but h2 (has_ne hw.2.1 hw.2.2 (by decide)), h1⟩, hk⟩)) ?_
      refine ts_cpr true rfl rfl (by kernel_rfl) (fun _ _ _ h hk => by obtain ⟨g5, h1, h2⟩ := h; exact ⟨g5, h1, hk.2.2.2 _ _ (by rw [U8_length, hr32]) h2⟩) (fun w' hw hq => (runs_oneHs rfl hr32).mono (by rintro v w5 ⟨g5, h1, h2, hb⟩; have hk := KI.of_kr (KR.of_below (T := 23) (sz := 32) (Y := (U8 ys.flatten ++ U8 r)) hb (Nat.le_trans hszW hw.1.1.size)); exact ⟨⟨g5, h1, h2⟩, ⟨hw.1.trans hk, hw.2.1.below hb hw.2.1.lt, hw.2.2.below hb hw.2.2.lt⟩, hk⟩)) (fun u4 => ?_)
      refine ts_cpr true rfl rfl (by kernel_rfl) (fun _ _ _ h hk => ⟨h.1, hk.2.1 _ _ _ (List.prefix_refl _) h.2⟩) (fun w' hw hq => (by obtain ⟨g5, rfl, hX⟩ := (hq (4, _) List.mem_cons_self (by kernel_rfl)); exact (push_ownHs rfl (hw.1.2.1 _ _ _ (List.prefix_append _ _) howY) rfl hX hr32 (by omega) (Nat.le_trans hszW hw.1.1.size) hcap).mono (by rintro v w5 ⟨h1, h2, h3⟩; exact ⟨⟨h1, h2⟩, ⟨hw.1.trans (KI.of_kr h3), h3.2.2.1 _ _ _ (by decide) hw.2.1, h3.2.2.1 _ _ _ (by decide) hw.2.2⟩, KI.of_kr h3⟩))) (fun u5 => ?_)
      refine (fun a28 w28 hS hK28 hq => ?_)

      obtain ⟨⟨g3, c3, rfl⟩, h51⟩ := (hq (5, _) List.mem_cons_self)
      clear hq
      refine tail_op 6 (by kernel_rfl) rfl hS (by decide) (runs_fieldK foC_3 rfl) (fun v29 w29 a29 hp hS => ⟨trivial, ?_⟩)
      obtain ⟨rfl, rfl⟩ := hp
      obtain ⟨hK1, hQd, hId⟩ := hK28
      refine tail_none 7 (by kernel_rfl) rfl hS (runs_storeC (u := ov) rfl rfl rfl s1_924 hQd (cm_v (c := (mkC na nb rt ys)) hr1)) (fun v30 w30 a30 hp hS => ⟨trivial, ?_⟩)
      obtain ⟨hQ2, hU30⟩ := hp
      rw [cm_set (c := (mkC na nb rt ys)) hr1] at hQ2
      have hKs := hU30.below (B := w1.heap.size) (fun i e => by rw [e]; exact hgq) (Nat.le_trans hszW hK1.1.size)
      have h52 := owns_but h51 hU30 (fun i old ho e => by subst e; exact has_ne ho hQd (by decide) rfl)
      have hI2 := hId.but hU30 (has_ne hId hQd (by decide))
      refine wpAnyH_done (by kernel_rfl) ?_ _
      refine reg_seq ?_
      refine sI hS (runs_add (r := ((i + 1 : Nat) : Int)) rfl rfl (by simp [IntKind.wrap, IntKind.bits, IntKind.signed]; omega)) fun _ hS => ?_
      refine sI hS (runs_move rfl) fun _ hS => ?_
      exact nil_ok ⟨_, by omega, i + 1, ys ++ [r], s5, e5, .slice (some ⟨g3, 0, none⟩) (i + 1) c3, by omega, rfl, (hBb1.trans hK1.1).trans hKs, by simp [hlenY], hstep, (fun y hy => by rcases List.mem_append.1 hy with h | h; exact hyo y h; rw [List.mem_singleton] at h; rw [h]; exact ⟨hr32, hrb2⟩), by rw [List.flatten_append, List.flatten_singleton, show U8 (ys.flatten ++ r) = U8 ys.flatten ++ U8 r by simp [U8]]; exact h52, (fun h => by omega), hQ2, hI2, hS.only _ ⟨rfl, rfl, rfl, rfl, rfl, trivial⟩⟩
    refine sI hS (lssF rfl rfl (by omega)) fun _ hS => ?_
    obtain rfl : i = nk := by omega
    refine nil_ok ⟨_, hS.eval rfl, fun _ => ?_, fun h => by simp at h⟩
    have hB := hBb1
    have hov : ov.oneCell' = true := own_cell howY
    refine qx_seq (qx_seq (reg_seq ?_))
    refine sI hS (runs_move rfl) fun _ hS => ?_
    refine sI hS (runs_call (args := [.pointer (some ⟨rb, 0, none⟩)]) goes27 rfl (rdd_end hIY)) fun _ hS => ?_
    refine sI hS (runs_assign rfl) fun _ hS => ?_
    refine nil_ok (qx_seq (reg_seq ?_))
    refine sI hS (runs_move rfl) fun _ hS => ?_
    by_cases hend : endOf cur ee ≠ 0
    · skip
      refine sI hS (runs_neq (r := true) rfl rfl (by simpa using hend)) fun _ hS => ?_
      refine nil_ok (wp_cond_true (hS.eval rfl) (qx_seq (reg_seq ?_)))
      refine sI hS (runs_buildK (pv := []) (cells := (cmc noCm (.slice none 0 0)).toArray) rfl built_0) fun _ hS => ?_
      refine sI hS (runs_move rfl) fun _ hS => ?_
      refine seq_none hS (runs_storeB (cs := cmc noCm (.slice none 0 0)) rfl rfl hM1 rfl (cm_one rfl) (by rw [szC, cmc_len noCm_len])) (fun v31 w31 a1 hp hS => ?_)
      obtain ⟨hM1, hU31⟩ := hp
      have hT := But.new (hBpre0.trans ((hB).mono hBpre0.size)) hU31 (fun i e => by rw [e]; exact Nat.le_refl _) (Nat.le_refl _)
      refine sI hS (runs_assign rfl) fun _ hS => ?_
      have hfin : getC (bl s) = (noCm, endOf cur ee) := by
        rw [hg0, q3]; unfold getC4; rw [if_neg (by omega)]
        by_cases h : ee = 0
        · have hall := (hHI.1 h).all
          rw [hall, if_neg (by simp)]
          unfold endOf at hend ⊢
          by_cases h2 : 0 < cur.size
          · rw [if_pos (by show bl cur ≠ []; intro e; have := bl_length cur; rw [e] at this; simp at this; omega), if_pos ⟨h, h2⟩]
          · rw [if_neg (by omega)] at hend; exact absurd h hend
        · have h3 := hHI.2 h
          rw [h3, if_pos h]; unfold endOf; rw [if_neg (by omega)]
      exact nil_ok (qx_ret (retRow2 (p := 2) (t := 3) (ty := 26) (by kernel_rfl) hS rfl rfl hM1 Tryd.underlying26 rfl (by rw [szC]; rfl) ⟨_, rfl, _, by rw [hfin] <;> rfl, by rw [hfin]; exact cmv_no _, hT⟩))
    refine sI hS (runs_neq (r := false) rfl rfl (by simpa using hend)) fun _ hS => ?_
    refine nil_ok (wp_cond_false (hS.eval rfl) (wp_skip (qx_seq (reg_seq ?_))))
    refine sI hS (runs_loadRow rfl hQY Tryd.underlying26 rfl (by rw [szC, cmc_len (c := (mkC na nb rt ys)) hr1])) fun _ hS => ?_
    have hMo := hM1
    refine seq_none hS (runs_storeB (cs := cmc (mkC na nb rt ys) ov) rfl rfl hM1 ((cmc_len noCm_len).trans (cmc_len (c := (mkC na nb rt ys)) hr1).symm) (cm_one hov) (by rw [szC, cmc_len (c := (mkC na nb rt ys)) hr1])) (fun v32 w32 a1 hp hS => ?_)
    obtain ⟨hM1, hU32⟩ := hp
    have hownF := owns_but howY hU32 (fun i old ho e => by subst e; exact has_ne ho hMo (by decide) rfl)
    have hT := But.new (hBpre0.trans ((hB).mono hBpre0.size)) hU32 (fun i e => by rw [e]; exact Nat.le_refl _) (Nat.le_refl _)
    refine sI hS (runs_assign rfl) fun _ hS => ?_
    have hfin : getC (bl s) = ((mkC na nb rt ys), 0) := by
      have hend := Classical.not_not.1 hend
      have h : ee = 0 := by
        unfold endOf at hend; split at hend
        · omega
        · exact hend
      have h2 : ¬ 0 < cur.size := by
        unfold endOf at hend; intro h2; rw [if_pos ⟨h, h2⟩] at hend; cases hend
      rw [hg0, q3]; unfold getC4; rw [if_neg (by omega), (hHI.1 h).all, if_neg (by simp), if_neg (by simp; exact List.length_eq_zero_iff.1 (by rw [bl_length]; omega))]; rfl
    have hHf := hashes_own (hs := ys) (hlenY ▸ hownF) hyo
    exact nil_ok (qx_ret (retRow2 (p := 2) (t := 3) (ty := 26) (by kernel_rfl) hS rfl rfl hM1 Tryd.underlying26 rfl (by rw [szC, cmc_len (c := (mkC na nb rt ys)) hr1]) ⟨_, rfl, _, by rw [hfin] <;> rfl, by rw [hfin]; exact ⟨ov, rfl, hHf, hr1, hr2⟩, hT⟩))
  · skip
    rw [Bool.eq_false_iff.2 hmy] at hS
    refine sI hS (runs_not (b := false) rfl) fun _ hS => ?_
    refine nil_ok (wp_cond_true (hS.eval rfl) (qx_seq (reg_seq ?_)))
    refine sI hS (runs_buildK (pv := []) (cells := (cmc noCm (.slice none 0 0)).toArray) rfl built_0) fun _ hS => ?_
    refine seq_none hS (runs_storeB (cs := cmc noCm (.slice none 0 0)) rfl rfl hM1 rfl (cm_one rfl) (by rw [szC, cmc_len noCm_len])) (fun v33 w33 a1 hp hS => ?_)
    obtain ⟨hM1, hU33⟩ := hp
    have hT := But.new (hBpre0.trans ((hB).mono hBpre0.size)) hU33 (fun i e => by rw [e]; exact Nat.le_refl _) (Nat.le_refl _)
    refine sI hS (runs_assign rfl) fun _ hS => ?_
    have hfin : getC (bl s) = (noCm, 120) := by rw [hg0, q3]; unfold getC4; rw [if_pos (Classical.byContradiction fun h => hmy (mayC_iff.2 (by omega)))]
    exact nil_ok (qx_ret (retRow2 (p := 2) (t := 3) (ty := 26) (by kernel_rfl) hS rfl rfl hM1 Tryd.underlying26 rfl (by rw [szC]; rfl) ⟨_, rfl, _, by rw [hfin] <;> rfl, by rw [hfin]; exact cmv_no _, hT⟩))
end Go.Proofs.YtooeahpkhocaeaaDoor
