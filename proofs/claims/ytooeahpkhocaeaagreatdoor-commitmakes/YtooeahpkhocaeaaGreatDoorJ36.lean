/- Layer 12: the program's Make. Conditions: none but those of the contract. -/
import Derived.Test.YtooeahpkhocaeaaGreatDoorCGetP
import Derived.Test.YtooeahpkhocaeaaGreatDoorJ25
import Derived.Test.YtooeahpkhocaeaaGreatDoorJ34
namespace Go.Proofs.YtooeahpkhocaeaaGreatDoor
open Go.RowKit
set_option maxRecDepth 100000

theorem goes14 : Goes Tryz.prog 14 := goes_of Tryz.func14 (by kernel_rfl) rfl
theorem goes18 : Goes Tryz.prog 18 := goes_of Tryz.func18 (by kernel_rfl) rfl
theorem goes19 : Goes Tryz.prog 19 := goes_of Tryz.func19 (by kernel_rfl) rfl
theorem makeM_bs {a b : Int} {l : List Vx} {outs : List (List E)} : (makeM a b l outs).bs.length = outs.length := by simp [makeM]
def mkC0 (p q : Int) (R : List Nat) : Cm := ⟨p, q, R, []⟩
set_option maxHeartbeats 1000000 in
theorem cmake_c : CMakeC := fun p q l outs vl vo w ha hb hV hl hO hol hfo hk => by
  show Ans 5 [.int .i64 p, .int .i64 q, vl, vo] w _
  obtain ⟨a1_, a2_⟩ := ha
  obtain ⟨b1_, b2_⟩ := hb
  obtain ⟨Ao, co, vs_, hoe, -, -, -⟩ := id hO
  subst hoe
  have hmr : mayC (u64 p) (u64 q) outs.length = rightC (makeM p q l outs) := by
    have := may_right (c := makeM p q l outs) ⟨⟨a1_, a2_⟩, b1_, b2_⟩
    rw [makeM_bs] at this; exact this
  obtain ⟨R, hR⟩ : ∃ R, rootX l = R := ⟨_, rfl⟩
  have hR32 : R.length = 32 := by rw [← hR]; exact rootX_len _
  refine calls_qx (args := [.int .i64 p, .int .i64 q, vl, .slice Ao outs.length co]) 43 Tryz.func5 rfl (by kernel_rfl) (by simp) (fun a hS => ?_)
  have hB := Below.refl w.heap.size w
  have hOb := hO
  have hVb := hV
  refine qx_seq (reg_seq ?_)
  refine seq_op hS (by decide) (runs_allocB (cs := cmc noCm (.slice none 0 0)) zoC rfl) (fun v1 w1 a1 hp hS => ?_)
  obtain ⟨rfl, hM1, hB1⟩ := hp
  have hLhM1 : w.heap.size ≤ w.heap.size := hB.size
  have hB := hB.trans (hB1.mono hB.size)
  have hO := hOb.kept hB
  have hV := hVb.kept hB
  refine sI hS (runs_assign rfl) fun _ hS => ?_
  refine nil_ok (qx_seq (qx_seq (reg_seq ?_)))
  refine sI hS (runs_move rfl) fun _ hS => ?_
  refine sI hS (runs_convInt (r := ((u64 p : Nat) : Int)) rfl (by decide) undB64 (by simp [IntKind.wrap, IntKind.bits, IntKind.signed, u64]; omega)) fun _ hS => ?_
  refine sI hS (runs_move rfl) fun _ hS => ?_
  refine sI hS (runs_convInt (r := ((u64 q : Nat) : Int)) rfl (by decide) undB64 (by simp [IntKind.wrap, IntKind.bits, IntKind.signed, u64]; omega)) fun _ hS => ?_
  refine sI hS (runs_move rfl) fun _ hS => ?_
  refine sI hS (runs_len rfl undLMM) fun _ hS => ?_
  refine sI hS (runs_convInt (r := ((outs.length : Nat) : Int)) rfl (by decide) undB64 (by simp [IntKind.wrap, IntKind.bits, IntKind.signed]; omega)) fun _ hS => ?_
  refine seq_op hS (by decide) (runs_call (args := [.int .u64 ((u64 p : Nat) : Int), .int .u64 ((u64 q : Nat) : Int), .int .u64 ((outs.length : Nat) : Int)]) goes13 rfl (may_any _ _ _ w1)) (fun v3 w3 a1 hp hS => ?_)
  obtain ⟨rfl, hB3⟩ := hp
  rw [hmr] at hS
  have hB := hB.trans (hB3.mono hB.size)
  have hM1 := hM1.below hB3 hM1.lt
  have hO := hOb.kept hB
  have hV := hVb.kept hB
  by_cases hr : rightC (makeM p q l outs) = true
  · skip
    rw [hr] at hS
    refine sI hS (runs_not (b := true) rfl) fun _ hS => ?_
    refine nil_ok (wp_cond_false (hS.eval rfl) (wp_skip (qx_seq (?_))))
    have hBpre0 := hB
    have hB := Below.refl w3.heap.size w3
    have hM1b := hM1
    have hOb := hO
    refine reg_seq ?_
    refine sI hS (runs_move rfl) fun _ hS => ?_
    refine sI hS (runs_move rfl) fun _ hS => ?_
    refine sI hS (runs_move rfl) fun _ hS => ?_
    refine seq_op hS (by decide) (runs_call (args := [vl]) goes14 rfl (sroot_any l vl w3 hV hl (hk.below (hBpre0.trans ((hB).mono hBpre0.size)) hk.pos))) (fun v5 w5 a1 hp hS => ?_)
    rw [hR] at hp
    obtain ⟨rfl, hB5⟩ := hp
    have hB := hB.trans (hB5.mono hB.size)
    have hM1 := hM1b.below hB hM1b.lt
    refine sI hS (runs_buildK (pv := [(0, .int .i64 p), (1, .int .i64 q), (2, .agg (U8 R).toArray)]) (cells := (cmc (mkC0 p q R) (.slice none 0 0)).toArray) rfl (built_C3 hR32)) fun _ hS => ?_
    refine seq_op hS (by decide) (runs_allocB (cs := cmc noCm (.slice none 0 0)) zoC rfl) (fun v7 w7 a1 hp hS => ?_)
    obtain ⟨rfl, hM7, hB7⟩ := hp
    have hLhM7 : w3.heap.size ≤ w5.heap.size := hB.size
    have hB := hB.trans (hB7.mono hB.size)
    have hM1 := hM1b.below hB hM1b.lt
    refine seq_none hS (runs_storeB (cs := cmc (mkC0 p q R) (.slice none 0 0)) rfl rfl hM7 ((cmc_len noCm_len).trans (cmc_len (c := (mkC0 p q R)) hR32).symm) (cm_one rfl) (by rw [szC, cmc_len (c := (mkC0 p q R)) hR32])) (fun v9 w9 a1 hp hS => ?_)
    obtain ⟨hM7, hU9⟩ := hp
    have hB := But.new hB hU9 (fun i e => by rw [e]; exact hLhM7) (Nat.le_refl _)
    have hM1 := hM1b.below hB hM1b.lt
    refine nil_ok (qx_seq (qx_seq (reg_seq ?_)))
    refine sI hS (runs_move rfl) fun _ hS => ?_
    refine sI hS (runs_len rfl undLMM) fun _ hS => ?_
    refine sI hS (runs_move rfl) fun _ hS => ?_
    refine nil_ok (?_)
    obtain ⟨gq, hgqe⟩ : ∃ g, g = w5.heap.size := ⟨_, rfl⟩
    have hgq : w3.heap.size ≤ gq := by rw [hgqe]; exact hLhM7
    have hQ := hM7
    rw [← hgqe] at hQ hS
    have hO0 := hOb
    refine qx_range (fun mm a w' => ∃ (i : Nat) (ov : Value), i ≤ outs.length ∧ mm = outs.length - i ∧ Below w3.heap.size w3 w' ∧ w'.ownsRow w3.heap.size 25 32 ov i (U8 ((outs.take i).map rootM).flatten) ∧ (i = 0 → ∀ g m c, ov = .slice (some g) m c → c = 0) ∧ Has w' gq 28 (cmc (mkC0 p q R) ov) ∧ Sees 43 [(30, .int .i64 (i : Int)), (29, .int .i64 ((outs.length : Nat) : Int)), (28, .slice Ao outs.length co), (10, .pointer (some ⟨gq, 0, none⟩)), (8, .pointer (some ⟨w.heap.size, 0, none⟩))] a) outs.length ⟨0, _, by omega, by omega, hB, ⟨rfl, .inl ⟨rfl, by simp⟩⟩, (fun _ g m c e => by cases e), hQ, hS.only _ ⟨rfl, rfl, rfl, rfl, rfl, trivial⟩⟩ ?_
    clear hS 
    rintro mm a wl1 ⟨i, ov, hi1, rfl, hBb1, howY, hzY, hQY, hS⟩
    have hBsz1 := hBb1.size
    have hM1 := hM1b.below hBb1 hM1b.lt
    have hB := Below.refl wl1.heap.size wl1
    refine reg_seq ?_
    by_cases hlt1 : i < outs.length
    · skip
      refine sI hS (lssT rfl rfl (by omega)) fun _ hS => ?_
      refine nil_ok ⟨_, hS.eval rfl, fun h => by simp at h, fun _ => ?_⟩
      have hSn := hS
      have hQn := hQY
      have hwn := howY
      obtain ⟨x, hx⟩ : ∃ x, outs[i]? = some x := ⟨outs[i], by simp [hlt1]⟩
      obtain ⟨bo, oo, u1, hbe, hcu2, hEu2⟩ := outs_row2 hO0 hBb1 hx
      cases hbe
      have hfx := hfo x (List.mem_of_getElem? hx)
      have hr32 := rootM_len x
      have hcap : 0 < i ∨ ∀ g m c, ov = .slice (some g) m c → c = 0 := (Nat.eq_zero_or_pos i).elim (fun h => .inr (hzY h)) .inl
      have hszW := hBsz1
      have hS := hSn
      have hQY := hQn
      have howY := hwn
      refine qx_seq (qx_block (qx_seq (reg_seq ?_)))
      refine sI hS (runs_indexAddrG (j := i) rfl rfl undLMM szLM rfl hlt1) fun _ hS => ?_
      refine sI hS (runs_load rfl plLM (by rw [Nat.mul_one]; exact hcu2)) fun _ hS => ?_
      refine sI hS (runs_assign rfl) fun _ hS => ?_
      refine nil_ok (reg_k (KR 25 32 w3.heap.size ((U8 ((outs.take i).map rootM).flatten) ++ U8 (rootM x))) (fun w' => KR 25 32 w3.heap.size ((U8 ((outs.take i).map rootM).flatten) ++ U8 (rootM x)) wl1 w') [.inl (.pointer (some ⟨gq, 0 + 34, none⟩)), .inl (ov), .inl (u1), .inl (.agg (U8 (rootM x)).toArray), .inr (fun v w' => ∃ g5, v = .slice (some ⟨g5, 0, none⟩) 1 1 ∧ Has w' g5 25 (U8 (rootM x))), .inr (fun v w' => (∃ g3 c3, v = .slice (some ⟨g3, 0, none⟩) (i + 1) c3) ∧ w'.ownsRow w3.heap.size 25 32 v (i + 1) ((U8 ((outs.take i).map rootM).flatten) ++ U8 (rootM x)))] 6 2 mixed rfl (by kernel_rfl) hS KR.refl (fun _ h => h.drew) ?_)
      refine ks_is rfl (fun w' hw => runs_fieldK foC_3 rfl) ?_
      refine ks_is rfl (fun w' hw => runs_load rfl pl924 ((hw.2.2.1 _ _ _ (by decide) hQY).at (cm_v (c := (mkC0 p q R)) hR32))) ?_
      refine ks_is rfl (fun w' hw => runs_move rfl) ?_
      refine ks_val rfl (fun w' hw hq => (runs_call (args := [u1]) goes15 rfl (broot_c x u1 w' (hEu2.kept (hBb1.trans hw.1)) hfx.1 hfx.2 (hk.below (hBpre0.trans ((hBb1.trans hw.1).mono hBpre0.size)) hk.pos))).mono (by rintro v w5 ⟨rfl, hb⟩; have hk_ := KR.of_below (T := 25) (sz := 32) (Y := ((U8 ((outs.take i).map rootM).flatten) ++ U8 (rootM x))) hb (Nat.le_trans hszW hw.1.size); exact ⟨rfl, hw.trans hk_, hk_⟩)) ?_
      refine ks_pr rfl (fun _ _ _ h hk => by obtain ⟨g5, h1, h2⟩ := h; exact ⟨g5, h1, hk.2.2.2 _ _ (by rw [U8_length, hr32]) h2⟩) (fun w' hw hq => (runs_oneHs rfl hr32).mono (by rintro v w5 ⟨g5, h1, h2, hb⟩; have hk := KR.of_below (T := 25) (sz := 32) (Y := ((U8 ((outs.take i).map rootM).flatten) ++ U8 (rootM x))) hb (Nat.le_trans hszW hw.1.size); exact ⟨⟨g5, h1, h2⟩, hw.trans hk, hk⟩)) (fun u4 => ?_)
      refine ks_pr rfl (fun _ _ _ h hk => ⟨h.1, hk.2.1 _ _ _ (List.prefix_refl _) h.2⟩) (fun w' hw hq => (by obtain ⟨g5, rfl, hX⟩ := (hq (4, _) List.mem_cons_self (by kernel_rfl)); exact (push_ownHs rfl (hw.2.1 _ _ _ (List.prefix_append _ _) howY) rfl hX hr32 (by omega) (Nat.le_trans hszW hw.1.size) hcap).mono (by rintro v w5 ⟨h1, h2, h3⟩; exact ⟨⟨h1, h2⟩, hw.trans h3, h3⟩))) (fun u5 => ?_)
      refine (fun a11 w11 hS hK11 hq => ?_)

      obtain ⟨⟨g3, c3, rfl⟩, h51⟩ := (hq (5, _) List.mem_cons_self)
      clear hq
      refine tail_op 6 (by kernel_rfl) rfl hS (by decide) (runs_fieldK foC_3 rfl) (fun v12 w12 a12 hp hS => ⟨trivial, ?_⟩)
      obtain ⟨rfl, rfl⟩ := hp
      have hK1 := hK11
      have hQd := hK1.2.2.1 _ _ _ (by decide) hQY
      refine tail_none 7 (by kernel_rfl) rfl hS (runs_storeC (u := ov) rfl rfl rfl s1_924 hQd (cm_v (c := (mkC0 p q R)) hR32)) (fun v13 w13 a13 hp hS => ⟨trivial, ?_⟩)
      obtain ⟨hQ2, hU13⟩ := hp
      rw [cm_set (c := (mkC0 p q R)) hR32] at hQ2
      have hKs := hU13.below (B := w3.heap.size) (fun i e => by rw [e]; exact hgq) (Nat.le_trans hszW hK1.1.size)
      have h52 := owns_but h51 hU13 (fun i old ho e => by subst e; exact has_ne ho hQd (by decide) rfl)
      refine wpAnyH_done (by kernel_rfl) ?_ _
      refine reg_seq ?_
      refine sI hS (runs_add (r := ((i + 1 : Nat) : Int)) rfl rfl (by simp [IntKind.wrap, IntKind.bits, IntKind.signed]; omega)) fun _ hS => ?_
      refine sI hS (runs_move rfl) fun _ hS => ?_
      exact nil_ok ⟨_, by omega, i + 1, .slice (some ⟨g3, 0, none⟩) (i + 1) c3, by omega, rfl, (hBb1.trans hK1.1).trans hKs, by rw [List.take_add_one, hx, Option.toList_some, List.map_append, List.flatten_append, show ([x].map rootM).flatten = rootM x by simp, show U8 (((outs.take i).map rootM).flatten ++ rootM x) = (U8 ((outs.take i).map rootM).flatten) ++ U8 (rootM x) by simp [U8]]; exact h52, (fun h => by omega), hQ2, hS.only _ ⟨rfl, rfl, rfl, rfl, rfl, trivial⟩⟩
    refine sI hS (lssF rfl rfl (by omega)) fun _ hS => ?_
    obtain rfl : i = outs.length := by omega
    refine nil_ok ⟨_, hS.eval rfl, fun _ => ?_, fun h => by simp at h⟩
    have hB := hBb1
    have hov : ov.oneCell' = true := own_cell howY
    rw [List.take_length] at howY
    refine qx_seq (reg_seq ?_)
    refine sI hS (runs_loadRow rfl hQY Tryz.underlying28 rfl (by rw [szC, cmc_len (c := (mkC0 p q R)) hR32])) fun _ hS => ?_
    have hMo := hM1
    refine seq_none hS (runs_storeB (cs := cmc (mkC0 p q R) ov) rfl rfl hM1 ((cmc_len noCm_len).trans (cmc_len (c := (mkC0 p q R)) hR32).symm) (cm_one hov) (by rw [szC, cmc_len (c := (mkC0 p q R)) hR32])) (fun v14 w14 a1 hp hS => ?_)
    obtain ⟨hM1, hU14⟩ := hp
    have hownF := owns_but howY hU14 (fun i old ho e => by subst e; exact has_ne ho hMo (by decide) rfl)
    have hT := But.new (hBpre0.trans ((hB).mono hBpre0.size)) hU14 (fun i e => by rw [e]; exact Nat.le_refl _) (Nat.le_refl _)
    refine sI hS (runs_assign rfl) fun _ hS => ?_
    have hHf := hashes_own (hs := outs.map rootM) (by rw [List.length_map]; exact hownF) (fun y hy => by obtain ⟨m, hm, rfl⟩ := List.mem_map.1 hy; exact ⟨rootM_len m, sha_bytes _⟩)
    exact nil_ok (qx_ret (retRow2 (p := 8) (t := 9) (ty := 28) (by kernel_rfl) hS rfl rfl hM1 Tryz.underlying28 rfl (by rw [szC, cmc_len (c := (mkC0 p q R)) hR32]) ⟨_, rfl, _, by rw [chkC_ok hr], by rw [if_pos hr]; unfold makeM; rw [hR]; exact ⟨ov, rfl, hHf, hR32, by rw [← hR]; exact sha_bytes _⟩, hT⟩))
  · skip
    rw [Bool.eq_false_iff.2 hr] at hS
    refine sI hS (runs_not (b := false) rfl) fun _ hS => ?_
    refine nil_ok (wp_cond_true (hS.eval rfl) (qx_seq (reg_seq ?_)))
    refine sI hS (runs_buildK (pv := []) (cells := (cmc noCm (.slice none 0 0)).toArray) rfl built_0) fun _ hS => ?_
    refine seq_none hS (runs_storeB (cs := cmc noCm (.slice none 0 0)) rfl rfl hM1 rfl (cm_one rfl) (by rw [szC, cmc_len noCm_len])) (fun v15 w15 a1 hp hS => ?_)
    obtain ⟨hM1, hU15⟩ := hp
    have hB := But.new hB hU15 (fun i e => by rw [e]; exact hLhM1) (Nat.le_refl _)
    refine sI hS (runs_assign rfl) fun _ hS => ?_
    exact nil_ok (qx_ret (retRow2 (p := 8) (t := 9) (ty := 28) (by kernel_rfl) hS rfl rfl hM1 Tryz.underlying28 rfl (by rw [szC]; rfl) ⟨_, rfl, _, by rw [chkC_bad hr], by rw [if_neg hr]; exact cmv_no _, hB⟩))
end Go.Proofs.YtooeahpkhocaeaaGreatDoor
/- Layer 12: the program's Keeps. Conditions: none but those of the contract. -/
namespace Go.Proofs.YtooeahpkhocaeaaGreatDoor
open Go.RowKit
set_option maxRecDepth 100000

set_option maxHeartbeats 1000000 in
theorem keeps1_any (x : List Nat) (m : List E) (u : Value) (w : World) (hx32 : x.length = 32) (hE : Edges w u m) (hl : m.length ≤ 10000) (hf : FitsM m) (hk : Kept w) : Ans 19 [.agg (U8 x).toArray, u] w (fun r w' => r = .bool (x == rootM m) ∧ Below w.heap.size w w') := by
  refine calls_qx (args := [.agg (U8 x).toArray, u]) 9 Tryz.func19 rfl (by kernel_rfl) (by simp) (fun a hS => ?_)
  have hB := Below.refl w.heap.size w
  have hEb := hE
  refine qx_seq (reg_seq ?_)
  refine seq_op hS (by decide) (runs_boxB (cs := U8 x) rfl rfl) (fun v1 w1 a1 hp hS => ?_)
  obtain ⟨rfl, hM1, hB1⟩ := hp
  have hB := hB.trans (hB1.mono hB.size)
  have hE := hEb.kept hB
  refine sI hS (runs_assign rfl) fun _ hS => ?_
  refine nil_ok (qx_seq (reg_guard (fun w' => Below w1.heap.size w1 w') [.inl (.agg (U8 x).toArray), .inl (u), .inl (.agg (U8 (rootM m)).toArray), .inl (.bool (x == rootM m)), .inl (.bool (x == rootM m))] 5 0 mixed rfl (by kernel_rfl) hS (Below.refl _ _) (fun _ h => h.drew) ?_))
  refine hs_is rfl (fun w' hw => runs_loadRow rfl (hM1.below hw hM1.lt) Tryz.underlying25 rfl (by rw [infHash, U8_length, hx32])) ?_
  refine hs_is rfl (fun w' hw => runs_move rfl) ?_
  refine hs_val rfl (fun w' hw hq => (runs_call (args := [u]) goes15 rfl (broot_c m u w' (hE.kept hw) hl hf (hk.below (hB.trans (hw.mono hB.size)) hk.pos))).mono (by rintro v w5 ⟨rfl, hb⟩; exact ⟨rfl, hw.trans (hb.mono hw.size), hb⟩)) ?_
  refine hs_is rfl (fun w' hw => runs_eqHash rfl rfl hx32 (rootM_len m) rfl) ?_
  refine hs_is rfl (fun w' hw => runs_assign rfl) ?_
  refine (fun a3 w3 hS hB3 hq => ?_)
  clear hq
  have hB := hB.trans (hB3.mono hB.size)
  refine wpAnyH_done (by kernel_rfl) ?_ _
  exact qx_ret (ret1 (t := 4) (by kernel_rfl) hS rfl ⟨_, rfl, rfl, hB⟩)
set_option maxHeartbeats 1000000 in
theorem eqf_any (hs : List (List Nat)) (outs : List (List E)) (v vo : Value) (w : World) (hH : Hashes w v hs) (hO : Outs w vo outs) (hn : hs.length ≤ 10000) (hfo : FitsO outs) (hk : Kept w) : Ans 18 [v, vo, .func (.func 19) #[] #[]] w (fun r w' => r = .bool (decide (hs = outs.map rootM)) ∧ Below w.heap.size w w') := by
  obtain ⟨A, cc, rfl, hc1, hc2, hHo, -⟩ := id hH
  obtain ⟨Ao, co, vs_, hoe, -, -, -⟩ := id hO
  subst hoe
  refine calls_qx (args := [.slice A hs.length cc, .slice Ao outs.length co, .func (.func 19) #[] #[]]) 32 Tryz.func18 rfl (by kernel_rfl) (by simp) (fun a hS => ?_)
  have hB := Below.refl w.heap.size w
  have hHb := hH
  have hOb := hO
  refine qx_seq (reg_seq ?_)
  refine sI hS (runs_assign rfl) fun _ hS => ?_
  refine nil_ok (qx_seq (qx_seq (reg_seq ?_)))
  refine sI hS (runs_move rfl) fun _ hS => ?_
  refine sI hS (runs_len rfl undHs) fun _ hS => ?_
  refine sI hS (runs_move rfl) fun _ hS => ?_
  refine sI hS (runs_len rfl undLMM) fun _ hS => ?_
  by_cases hne : hs.length ≠ outs.length
  · skip
    refine sI hS (runs_neq (r := true) rfl rfl (by simp; omega)) fun _ hS => ?_
    refine nil_ok (wp_cond_true (hS.eval rfl) (qx_seq (reg_seq ?_)))
    refine sI hS (runs_assign rfl) fun _ hS => ?_
    exact nil_ok (qx_ret (ret1 (t := 6) (by kernel_rfl) hS rfl ⟨_, rfl, by rw [decide_eq_false (fun e => hne (by rw [e, List.length_map]))], hB⟩))
  refine sI hS (runs_neq (r := false) rfl rfl (by simp; omega)) fun _ hS => ?_
  refine nil_ok (wp_cond_false (hS.eval rfl) (wp_skip (qx_seq (qx_seq (reg_seq ?_)))))
  refine sI hS (runs_move rfl) fun _ hS => ?_
  refine sI hS (runs_len rfl undHs) fun _ hS => ?_
  refine sI hS (runs_move rfl) fun _ hS => ?_
  refine nil_ok (?_)
  replace hne := Classical.not_not.1 hne
  have hH0 := hHb
  have hO0 := hOb
  refine qx_range (fun mm a w' => ∃ (i : Nat), i ≤ hs.length ∧ mm = hs.length - i ∧ Below w.heap.size w w' ∧ hs.take i = (outs.take i).map rootM ∧ Sees 32 [(17, .int .i64 (i : Int)), (16, .int .i64 ((hs.length : Nat) : Int)), (15, .slice A hs.length cc), (2, .func (.func 19) #[] #[]), (1, .slice Ao outs.length co)] a) hs.length ⟨0, by omega, by omega, hB, by simp, hS.only _ ⟨rfl, rfl, rfl, rfl, rfl, trivial⟩⟩ ?_
  clear hS 
  rintro mm a wl1 ⟨i, hi1, rfl, hBb1, hpr, hS⟩
  have hBsz1 := hBb1.size
  have hB := Below.refl wl1.heap.size wl1
  refine reg_seq ?_
  by_cases hlt1 : i < hs.length
  · skip
    refine sI hS (lssT rfl rfl (by omega)) fun _ hS => ?_
    refine nil_ok ⟨_, hS.eval rfl, fun h => by simp at h, fun _ => ?_⟩
    have hSn := hS
    obtain ⟨x, hx⟩ : ∃ x, hs[i]? = some x := ⟨hs[i], by simp [hlt1]⟩
    obtain ⟨m, hm⟩ : ∃ m, outs[i]? = some m := ⟨outs[i]'(by omega), by simp [show i < outs.length by omega]⟩
    obtain ⟨b, o, hbe, hbw, hr_⟩ := hashes_row hH0 (by omega)
    cases hbe
    have hrx := range_below (hashes_at hr_ hHo hx) hBb1 hbw
    have hx32 := (hHo x (List.mem_of_getElem? hx)).1
    obtain ⟨bo, oo, u1, hbe2, hcu, hEu⟩ := outs_row2 hO0 hBb1 hm
    cases hbe2
    have hEu1 := hEu.kept hBb1
    have hfx := hfo m (List.mem_of_getElem? hm)
    have hS := hSn
    have hEu1b1 := hEu1
    refine qx_seq (qx_block (qx_seq (reg_seq ?_)))
    refine sI hS (runs_move rfl) fun _ hS => ?_
    refine sI hS (runs_indexAddrG (j := i) rfl rfl undHs szHs rfl hlt1) fun _ hS => ?_
    refine sI hS (runs_loadMid rfl hrx Tryz.underlying25 rfl (by rw [infHash, U8_length, hx32])) fun _ hS => ?_
    refine seq_op hS (by decide) (runs_allocB (cs := U8 zero32) zoH rfl) (fun v1 w1 a1 hp hS => ?_)
    obtain ⟨rfl, hM1, hB1⟩ := hp
    have hLhM1 : wl1.heap.size ≤ wl1.heap.size := hB.size
    have hB := hB.trans (hB1.mono hB.size)
    have hEu1 := hEu1b1.kept hB
    refine sI hS (runs_assign rfl) fun _ hS => ?_
    refine seq_none hS (runs_storeB (cs := U8 x) rfl rfl hM1 (by rw [U8_length, U8_length, hx32]; rfl) (List.all_eq_true.2 (U8_one x)) (by rw [infHash, U8_length, hx32])) (fun v3 w3 a1 hp hS => ?_)
    obtain ⟨hM1, hU3⟩ := hp
    have hB := But.new hB hU3 (fun i e => by rw [e]; exact hLhM1) (Nat.le_refl _)
    have hEu1 := hEu1b1.kept hB
    refine nil_ok (qx_seq (reg_seq ?_))
    refine sI hS (runs_move rfl) fun _ hS => ?_
    refine sI hS (runs_move rfl) fun _ hS => ?_
    refine sI hS (runs_indexAddrG (j := i) rfl rfl undLMM szLM rfl (by omega)) fun _ hS => ?_
    refine sI hS (runs_load rfl plLM (by rw [Nat.mul_one]; exact cell_kept hB hcu)) fun _ hS => ?_
    refine sI hS (runs_assign rfl) fun _ hS => ?_
    refine nil_ok (qx_seq (reg_seq ?_))
    refine sI hS (runs_move rfl) fun _ hS => ?_
    refine sI hS (runs_loadRow rfl hM1 Tryz.underlying25 rfl (by rw [infHash, U8_length, hx32])) fun _ hS => ?_
    refine sI hS (runs_move rfl) fun _ hS => ?_
    refine seq_op hS (by decide) (runs_callv (args := [.agg (U8 x).toArray, u1]) (caps := []) goes19 rfl rfl (keeps1_any x m u1 w3 hx32 hEu1 hfx.1 hfx.2 (hk.below (hBb1.trans (hB.mono hBsz1)) hk.pos))) (fun v5 w5 a1 hp hS => ?_)
    obtain ⟨rfl, hB5⟩ := hp
    have hB := hB.trans (hB5.mono hB.size)
    by_cases hq : (x == rootM m) = true
    · skip
      rw [hq] at hS
      refine sI hS (runs_not (b := true) rfl) fun _ hS => ?_
      refine nil_ok (wp_cond_false (hS.eval rfl) (wp_skip (reg_seq ?_)))
      refine sI hS (runs_add (r := ((i + 1 : Nat) : Int)) rfl rfl (by simp [IntKind.wrap, IntKind.bits, IntKind.signed]; omega)) fun _ hS => ?_
      refine sI hS (runs_move rfl) fun _ hS => ?_
      exact nil_ok ⟨_, by omega, i + 1, by omega, rfl, hBb1.trans (hB.mono hBb1.size), by rw [List.take_add_one, List.take_add_one, hx, hm, Option.toList_some, Option.toList_some, List.map_append, hpr, eq_of_beq hq]; rfl, hS.only _ ⟨rfl, rfl, rfl, rfl, rfl, trivial⟩⟩
    · skip
      rw [Bool.eq_false_iff.2 hq] at hS
      refine sI hS (runs_not (b := false) rfl) fun _ hS => ?_
      refine nil_ok (wp_cond_true (hS.eval rfl) (qx_seq (reg_seq ?_)))
      refine sI hS (runs_assign rfl) fun _ hS => ?_
      exact nil_ok (qx_ret (ret1 (t := 6) (by kernel_rfl) hS rfl ⟨_, rfl, by rw [decide_eq_false (fun e => hq (by rw [e, List.getElem?_map, hm] at hx; rw [← Option.some.inj hx]; simp))], hBb1.trans (hB.mono hBsz1)⟩))
  refine sI hS (lssF rfl rfl (by omega)) fun _ hS => ?_
  obtain rfl : i = hs.length := by omega
  refine nil_ok ⟨_, hS.eval rfl, fun _ => ?_, fun h => by simp at h⟩
  have hB := hBb1
  rw [List.take_length, hne, List.take_length] at hpr
  refine qx_seq (reg_seq ?_)
  refine sI hS (runs_assign rfl) fun _ hS => ?_
  exact nil_ok (qx_ret (ret1 (t := 6) (by kernel_rfl) hS rfl ⟨_, rfl, by rw [decide_eq_true hpr], hB⟩))
set_option maxHeartbeats 1000000 in
theorem ckeeps_c : CKeepsC := fun c l outs u vl vo w hC hn hV hl hO hol hfo hk => by
  show Ans 8 [u, vl, vo] w _
  obtain ⟨x, rfl, hH, hcl, hby⟩ := id hC
  obtain ⟨A, cc, rfl, hc1, hc2, hHo, -⟩ := id hH
  obtain ⟨R, hR⟩ : ∃ R, rootX l = R := ⟨_, rfl⟩
  have hR32 : R.length = 32 := by rw [← hR]; exact rootX_len _
  have hkb : keepsB c l outs = (decide (c.root = R) && decide (c.bs = outs.map rootM)) := by unfold keepsB; rw [hR]
  refine calls_qx (args := [.agg (cmc c (.slice A c.bs.length cc)).toArray, vl, vo]) 18 Tryz.func8 rfl (by kernel_rfl) (by simp) (fun a hS => ?_)
  have hB := Below.refl w.heap.size w
  have hHb := hH
  have hVb := hV
  have hOb := hO
  refine qx_seq (reg_seq ?_)
  refine seq_op hS (by decide) (runs_boxB (cs := cmc c (.slice A c.bs.length cc)) rfl rfl) (fun v1 w1 a1 hp hS => ?_)
  obtain ⟨rfl, hM1, hB1⟩ := hp
  have hB := hB.trans (hB1.mono hB.size)
  have hH := hHb.kept hB
  have hV := hVb.kept hB
  have hO := hOb.kept hB
  refine sI hS (runs_assign rfl) fun _ hS => ?_
  refine nil_ok (qx_seq (?_))
  by_cases hq : c.root = R
  · skip
    refine reg_guard (fun w' => Below w1.heap.size w1 w') [.inl (.pointer (some ⟨w.heap.size, 0 + 2, none⟩)), .inl (.agg (U8 c.root).toArray), .inl (vl), .inl (.agg (U8 R).toArray), .inl (.bool true), .inl (.bool true), .inl (.pointer (some ⟨w.heap.size, 0 + 34, none⟩)), .inl (.slice A c.bs.length cc), .inl (vo), .inl (.bool (decide (c.bs = outs.map rootM))), .inl (.bool (decide (c.bs = outs.map rootM))), .inl (.bool (decide (c.bs = outs.map rootM)))] 12 0 mixed rfl (by kernel_rfl) hS (Below.refl _ _) (fun _ h => h.drew) ?_
    refine hs_is rfl (fun w' hw => runs_fieldK foC_2 rfl) ?_
    refine hs_is rfl (fun w' hw => runs_loadMid rfl (cm_root (hM1.below hw hM1.lt) hcl) Tryz.underlying25 rfl (by rw [infHash, U8_length, hcl])) ?_
    refine hs_is rfl (fun w' hw => runs_move rfl) ?_
    refine hs_val rfl (fun w' hw hq => (runs_call (args := [vl]) goes14 rfl (sroot_any l vl w' (hV.kept hw) hl (hk.below (hB.trans (hw.mono hB.size)) hk.pos))).mono (by rw [hR]; rintro v w5 ⟨rfl, hb⟩; exact ⟨rfl, hw.trans (hb.mono hw.size), hb⟩)) ?_
    refine hs_is rfl (fun w' hw => runs_eqHash (r := true) rfl rfl hcl hR32 (by rw [hq]; simp)) ?_
    refine hs_is rfl (fun w' hw => runs_move rfl) ?_
    refine hs_yis rfl rfl (fun w' hw => runs_fieldK foC_3 rfl) ?_
    refine hs_yis rfl rfl (fun w' hw => runs_load rfl pl924 ((hM1.below hw hM1.lt).at (cm_v hcl))) ?_
    refine hs_yis rfl rfl (fun w' hw => runs_move rfl) ?_
    refine hs_yval rfl rfl (fun w' hw hq => (runs_call (args := [.slice A c.bs.length cc, vo, .func (.func 19) #[] #[]]) goes18 rfl (eqf_any c.bs outs _ vo w' (hH.kept hw) (hO.kept hw) hn hfo (hk.below (hB.trans (hw.mono hB.size)) hk.pos))).mono (by rintro v w5 ⟨rfl, hb⟩; exact ⟨rfl, hw.trans (hb.mono hw.size), hb⟩)) ?_
    refine hs_is rfl (fun w' hw => runs_pick rfl rfl) ?_
    refine hs_is rfl (fun w' hw => runs_assign rfl) ?_
    refine (fun a3 w3 hS hB3 hq => ?_)
    clear hq
    have hB := hB.trans (hB3.mono hB.size)
    have hM1 := hM1.below hB3 hM1.lt
    have hV := hVb.kept hB
    refine wpAnyH_done (by kernel_rfl) ?_ _
    exact qx_ret (ret1 (t := 6) (by kernel_rfl) hS rfl ⟨_, rfl, by rw [hkb]; simp [hq], hB⟩)
  · skip
    refine reg_guard (fun w' => Below w1.heap.size w1 w') [.inl (.pointer (some ⟨w.heap.size, 0 + 2, none⟩)), .inl (.agg (U8 c.root).toArray), .inl (vl), .inl (.agg (U8 R).toArray), .inl (.bool false), .inl (.bool false), .inl undef, .inl undef, .inl undef, .inl undef, .inl (.bool false), .inl (.bool false)] 12 0 mixed rfl (by kernel_rfl) hS (Below.refl _ _) (fun _ h => h.drew) ?_
    refine hs_is rfl (fun w' hw => runs_fieldK foC_2 rfl) ?_
    refine hs_is rfl (fun w' hw => runs_loadMid rfl (cm_root (hM1.below hw hM1.lt) hcl) Tryz.underlying25 rfl (by rw [infHash, U8_length, hcl])) ?_
    refine hs_is rfl (fun w' hw => runs_move rfl) ?_
    refine hs_val rfl (fun w' hw hq => (runs_call (args := [vl]) goes14 rfl (sroot_any l vl w' (hV.kept hw) hl (hk.below (hB.trans (hw.mono hB.size)) hk.pos))).mono (by rw [hR]; rintro v w5 ⟨rfl, hb⟩; exact ⟨rfl, hw.trans (hb.mono hw.size), hb⟩)) ?_
    refine hs_is rfl (fun w' hw => runs_eqHash (r := false) rfl rfl hcl hR32 (by rw [beq_eq_false_iff_ne]; exact hq)) ?_
    refine hs_is rfl (fun w' hw => runs_move rfl) ?_
    refine hs_no rfl rfl rfl ?_
    refine hs_no rfl rfl rfl ?_
    refine hs_no rfl rfl rfl ?_
    refine hs_no rfl rfl rfl ?_
    refine hs_is rfl (fun w' hw => runs_pick rfl rfl) ?_
    refine hs_is rfl (fun w' hw => runs_assign rfl) ?_
    refine (fun a5 w5 hS hB5 hq => ?_)
    clear hq
    have hB := hB.trans (hB5.mono hB.size)
    refine wpAnyH_done (by kernel_rfl) ?_ _
    exact qx_ret (ret1 (t := 6) (by kernel_rfl) hS rfl ⟨_, rfl, by rw [hkb]; simp [hq], hB⟩)
end Go.Proofs.YtooeahpkhocaeaaGreatDoor
/- Layer 12: four of its laws, walked over the contracts of what they call. -/
namespace Go.Proofs.YtooeahpkhocaeaaGreatDoor
open Go.RowKit
set_option maxRecDepth 100000

theorem goes4 : Goes Tryz.prog 4 := goes_of Tryz.func4 (by kernel_rfl) rfl
theorem goes5 : Goes Tryz.prog 5 := goes_of Tryz.func5 (by kernel_rfl) rfl
theorem goes8 : Goes Tryz.prog 8 := goes_of Tryz.func8 (by kernel_rfl) rfl
theorem goes11 : Goes Tryz.prog 11 := goes_of Tryz.func11 (by kernel_rfl) rfl
theorem goes12 : Goes Tryz.prog 12 := goes_of Tryz.func12 (by kernel_rfl) rfl
end Go.Proofs.YtooeahpkhocaeaaGreatDoor
