/- Layer 3: Check. Conditions: the table of constants lies as it was laid; a leaf of at most 100000 bytes, at most 1000 sums. -/
import Derived.Test.YtooeahpkhocaeaaDoorJ15
import Derived.Test.YtooeahpkhocaeaaDoorHEq
import Derived.Test.YtooeahpkhocaeaaDoorCGetP
namespace Go.Proofs.YtooeahpkhocaeaaDoor
open Go.RowKit
set_option maxRecDepth 100000

section
variable {L : List (Nat × Value)} {w : World} {ty : TypeId}
theorem runs_eqHash {t' : TypeId} {X Y : Operand} {x y : List Nat} {r : Bool} (hx : vals L X = some (.agg (U8 x).toArray)) (hy : vals L Y = some (.agg (U8 y).toArray)) (lx : x.length = 32) (ly : y.length = 32) (hr : (x == y) = r) : Runs Tryd.prog (.binOp .eql 23 X Y t') ty L w (Is (.bool r) w) := fun o a K Q ho _ hL hK => by
  have ex := hL X (by simp [Op.operands]) _ hx
  have ey := hL Y (by simp [Op.operands]) _ hy
  have h := run_eqHash x y lx ly w
  have hg : (eqGuard .eql 23 X Y (.agg (U8 x).toArray) (.agg (U8 y).toArray)).run Tryd.prog w = .ok () w := by
    have hp : Tryd.prog.eqGuardType Tryd.prog.depth 26 = false := by kernel_rfl
    simp [eqGuard]
  unfold Oper.wp
  have : (execOp a.eval o).run Tryd.prog w = .ok (.value (.bool r)) w := by
    simp only [execOp, ho, ex, ey]
    simp only [Sem.run_bind, hg, Result.andThen_ok, h, hr, Sem.run_pure]
  rw [this]
  exact hK _ w ⟨rfl, rfl⟩
end
end Go.Proofs.YtooeahpkhocaeaaDoor
/- Layer 12: the program's Make. Conditions: none but those of the contract. -/
namespace Go.Proofs.YtooeahpkhocaeaaDoor
open Go.RowKit
set_option maxRecDepth 100000

theorem goes30 : Goes Tryd.prog 30 := goes_of Tryd.func30 (by kernel_rfl) rfl
theorem goes31 : Goes Tryd.prog 31 := goes_of Tryd.func31 (by kernel_rfl) rfl
theorem goes32 : Goes Tryd.prog 32 := goes_of Tryd.func32 (by kernel_rfl) rfl
theorem goes33 : Goes Tryd.prog 33 := goes_of Tryd.func33 (by kernel_rfl) rfl
theorem makeM_bs {a b : Int} {l : List Vx} {outs : List (List E)} : (makeM a b l outs).bs.length = outs.length := by simp [makeM]
def mkC0 (p q : Int) (R : List Nat) : Cm := ⟨p, q, R, []⟩
set_option maxHeartbeats 1000000 in
theorem cmake_c : CMakeC := fun p q l outs vl vo w ha hb hV hl hO hol hfo hk => by
  show Ans 16 [.int .i64 p, .int .i64 q, vl, vo] w _
  obtain ⟨a1_, a2_⟩ := ha
  obtain ⟨b1_, b2_⟩ := hb
  obtain ⟨Ao, co, vs_, hoe, -, -, -⟩ := id hO
  subst hoe
  have hmr : mayC (u64 p) (u64 q) outs.length = rightC (makeM p q l outs) := by
    have := may_right (c := makeM p q l outs) ⟨⟨a1_, a2_⟩, b1_, b2_⟩
    rw [makeM_bs] at this; exact this
  obtain ⟨R, hR⟩ : ∃ R, rootX l = R := ⟨_, rfl⟩
  have hR32 : R.length = 32 := by rw [← hR]; exact rootX_len _
  refine calls_qx (args := [.int .i64 p, .int .i64 q, vl, .slice Ao outs.length co]) 43 Tryd.func16 rfl (by kernel_rfl) (by simp) (fun a hS => ?_)
  have hB := Below.refl w.heap.size w
  have hOb := hO
  have hVb := hV
  refine qx_seq (reg_seq ?_)
  refine seq_op hS (by decide) (runs_allocB (cs := cmc noCm (.slice none 0 0)) zoC rfl) (fun v1 w1 a1 hp hS => ?_)
  obtain ⟨rfl, hM1, hB1⟩ := hp
  have hLhM1 : w.heap.size ≤ w.heap.size := hB.size
  have hB := hB.trans (hB1.mono hB.size)
  have hO := hOb.kept hB
  have hV := hVb.kept hB
  refine sI hS (runs_assign rfl) fun _ hS => ?_
  refine nil_ok (qx_seq (qx_seq (reg_seq ?_)))
  refine sI hS (runs_move rfl) fun _ hS => ?_
  refine sI hS (runs_convInt (r := ((u64 p : Nat) : Int)) rfl (by decide) undB64 (by simp [IntKind.wrap, IntKind.bits, IntKind.signed, u64]; omega)) fun _ hS => ?_
  refine sI hS (runs_move rfl) fun _ hS => ?_
  refine sI hS (runs_convInt (r := ((u64 q : Nat) : Int)) rfl (by decide) undB64 (by simp [IntKind.wrap, IntKind.bits, IntKind.signed, u64]; omega)) fun _ hS => ?_
  refine sI hS (runs_move rfl) fun _ hS => ?_
  refine sI hS (runs_len rfl undLMM) fun _ hS => ?_
  refine sI hS (runs_convInt (r := ((outs.length : Nat) : Int)) rfl (by decide) undB64 (by simp [IntKind.wrap, IntKind.bits, IntKind.signed]; omega)) fun _ hS => ?_
  refine seq_op hS (by decide) (runs_call (args := [.int .u64 ((u64 p : Nat) : Int), .int .u64 ((u64 q : Nat) : Int), .int .u64 ((outs.length : Nat) : Int)]) goes18 rfl (may_any _ _ _ w1)) (fun v3 w3 a1 hp hS => ?_)
  obtain ⟨rfl, hB3⟩ := hp
  rw [hmr] at hS
  have hB := hB.trans (hB3.mono hB.size)
  have hM1 := hM1.below hB3 hM1.lt
  have hO := hOb.kept hB
  have hV := hVb.kept hB
  by_cases hr : rightC (makeM p q l outs) = true
  · skip
    rw [hr] at hS
    refine sI hS (runs_not (b := true) rfl) fun _ hS => ?_
    refine nil_ok (wp_cond_false (hS.eval rfl) (wp_skip (qx_seq (?_))))
    have hBpre0 := hB
    have hB := Below.refl w3.heap.size w3
    have hM1b := hM1
    have hOb := hO
    refine reg_seq ?_
    refine sI hS (runs_move rfl) fun _ hS => ?_
    refine sI hS (runs_move rfl) fun _ hS => ?_
    refine sI hS (runs_move rfl) fun _ hS => ?_
    refine seq_op hS (by decide) (runs_call (args := [vl]) goes30 rfl (sroot_any l vl w3 hV hl (hk.below (hBpre0.trans ((hB).mono hBpre0.size)) hk.pos))) (fun v5 w5 a1 hp hS => ?_)
    rw [hR] at hp
    obtain ⟨rfl, hB5⟩ := hp
    have hB := hB.trans (hB5.mono hB.size)
    have hM1 := hM1b.below hB hM1b.lt
    refine sI hS (runs_buildK (pv := [(0, .int .i64 p), (1, .int .i64 q), (2, .agg (U8 R).toArray)]) (cells := (cmc (mkC0 p q R) (.slice none 0 0)).toArray) rfl (built_C3 hR32)) fun _ hS => ?_
    refine seq_op hS (by decide) (runs_allocB (cs := cmc noCm (.slice none 0 0)) zoC rfl) (fun v7 w7 a1 hp hS => ?_)
    obtain ⟨rfl, hM7, hB7⟩ := hp
    have hLhM7 : w3.heap.size ≤ w5.heap.size := hB.size
    have hB := hB.trans (hB7.mono hB.size)
    have hM1 := hM1b.below hB hM1b.lt
    refine seq_none hS (runs_storeB (cs := cmc (mkC0 p q R) (.slice none 0 0)) rfl rfl hM7 ((cmc_len noCm_len).trans (cmc_len (c := (mkC0 p q R)) hR32).symm) (cm_one rfl) (by rw [szC, cmc_len (c := (mkC0 p q R)) hR32])) (fun v9 w9 a1 hp hS => ?_)
    obtain ⟨hM7, hU9⟩ := hp
    have hB := But.new hB hU9 (fun i e => by rw [e]; exact hLhM7) (Nat.le_refl _)
    have hM1 := hM1b.below hB hM1b.lt
    refine nil_ok (qx_seq (qx_seq (reg_seq ?_)))
    refine sI hS (runs_move rfl) fun _ hS => ?_
    refine sI hS (runs_len rfl undLMM) fun _ hS => ?_
    refine sI hS (runs_move rfl) fun _ hS => ?_
    refine nil_ok (?_)
    obtain ⟨gq, hgqe⟩ : ∃ g, g = w5.heap.size := ⟨_, rfl⟩
    have hgq : w3.heap.size ≤ gq := by rw [hgqe]; exact hLhM7
    have hQ := hM7
    rw [← hgqe] at hQ hS
    have hO0 := hOb
    refine qx_range (fun mm a w' => ∃ (i : Nat) (ov : Value), i ≤ outs.length ∧ mm = outs.length - i ∧ Below w3.heap.size w3 w' ∧ w'.ownsRow w3.heap.size 23 32 ov i (U8 ((outs.take i).map rootM).flatten) ∧ (i = 0 → ∀ g m c, ov = .slice (some g) m c → c = 0) ∧ Has w' gq 26 (cmc (mkC0 p q R) ov) ∧ Sees 43 [(30, .int .i64 (i : Int)), (29, .int .i64 ((outs.length : Nat) : Int)), (28, .slice Ao outs.length co), (10, .pointer (some ⟨gq, 0, none⟩)), (8, .pointer (some ⟨w.heap.size, 0, none⟩))] a) outs.length ⟨0, _, by omega, by omega, hB, ⟨rfl, .inl ⟨rfl, by simp⟩⟩, (fun _ g m c e => by cases e), hQ, hS.only _ ⟨rfl, rfl, rfl, rfl, rfl, trivial⟩⟩ ?_
    clear hS 
    rintro mm a wl1 ⟨i, ov, hi1, rfl, hBb1, howY, hzY, hQY, hS⟩
    have hBsz1 := hBb1.size
    have hM1 := hM1b.below hBb1 hM1b.lt
    have hB := Below.refl wl1.heap.size wl1
    refine reg_seq ?_
    by_cases hlt1 : i < outs.length
    · skip
      refine sI hS (lssT rfl rfl (by omega)) fun _ hS => ?_
      refine nil_ok ⟨_, hS.eval rfl, fun h => by simp at h, fun _ => ?_⟩
      have hSn := hS
      have hQn := hQY
      have hwn := howY
      obtain ⟨x, hx⟩ : ∃ x, outs[i]? = some x := ⟨outs[i], by simp [hlt1]⟩
      obtain ⟨bo, oo, u1, hbe, hcu2, hEu2⟩ := outs_row2 hO0 hBb1 hx
      cases hbe
      have hfx := hfo x (List.mem_of_getElem? hx)
      have hr32 := rootM_len x
      have hcap : 0 < i ∨ ∀ g m c, ov = .slice (some g) m c → c = 0 := (Nat.eq_zero_or_pos i).elim (fun h => .inr (hzY h)) .inl
      have hszW := hBsz1
      have hS := hSn
      have hQY := hQn
      have howY := hwn
      refine qx_seq (qx_block (qx_seq (reg_seq ?_)))
      refine sI hS (runs_indexAddrG (j := i) rfl rfl undLMM szLM rfl hlt1) fun _ hS => ?_
      refine sI hS (runs_load rfl plLM (by rw [Nat.mul_one]; exact hcu2)) fun _ hS => ?_
      refine sI hS (runs_assign rfl) fun _ hS => ?_
      refine nil_ok (reg_k (KR 23 32 w3.heap.size ((U8 ((outs.take i).map rootM).flatten) ++ U8 (rootM x))) (fun w' => KR 23 32 w3.heap.size ((U8 ((outs.take i).map rootM).flatten) ++ U8 (rootM x)) wl1 w') [.inl (.pointer (some ⟨gq, 0 + 34, none⟩)), .inl (ov), .inl (u1), .inl (.agg (U8 (rootM x)).toArray), .inr (fun v w' => ∃ g5, v = .slice (some ⟨g5, 0, none⟩) 1 1 ∧ Has w' g5 23 (U8 (rootM x))), .inr (fun v w' => (∃ g3 c3, v = .slice (some ⟨g3, 0, none⟩) (i + 1) c3) ∧ w'.ownsRow w3.heap.size 23 32 v (i + 1) ((U8 ((outs.take i).map rootM).flatten) ++ U8 (rootM x)))] 6 2 mixed rfl (by kernel_rfl) hS KR.refl (fun _ h => h.drew) ?_)
      refine ks_is rfl (fun w' hw => runs_fieldK foC_3 rfl) ?_
      refine ks_is rfl (fun w' hw => runs_load rfl pl924 ((hw.2.2.1 _ _ _ (by decide) hQY).at (cm_v (c := (mkC0 p q R)) hR32))) ?_
      refine ks_is rfl (fun w' hw => runs_move rfl) ?_
      refine ks_val rfl (fun w' hw hq => (runs_call (args := [u1]) goes31 rfl (broot_c x u1 w' (hEu2.kept (hBb1.trans hw.1)) hfx.1 hfx.2 (hk.below (hBpre0.trans ((hBb1.trans hw.1).mono hBpre0.size)) hk.pos))).mono (by rintro v w5 ⟨rfl, hb⟩; have hk_ := KR.of_below (T := 23) (sz := 32) (Y := ((U8 ((outs.take i).map rootM).flatten) ++ U8 (rootM x))) hb (Nat.le_trans hszW hw.1.size); exact ⟨rfl, hw.trans hk_, hk_⟩)) ?_
      refine ks_pr rfl (fun _ _ _ h hk => by obtain ⟨g5, h1, h2⟩ := h; exact ⟨g5, h1, hk.2.2.2 _ _ (by rw [U8_length, hr32]) h2⟩) (fun w' hw hq => (runs_oneHs rfl hr32).mono (by rintro v w5 ⟨g5, h1, h2, hb⟩; have hk := KR.of_below (T := 23) (sz := 32) (Y := ((U8 ((outs.take i).map rootM).flatten) ++ U8 (rootM x))) hb (Nat.le_trans hszW hw.1.size); exact ⟨⟨g5, h1, h2⟩, hw.trans hk, hk⟩)) (fun u4 => ?_)
      refine ks_pr rfl (fun _ _ _ h hk => ⟨h.1, hk.2.1 _ _ _ (List.prefix_refl _) h.2⟩) (fun w' hw hq => (by obtain ⟨g5, rfl, hX⟩ := (hq (4, _) List.mem_cons_self (by kernel_rfl)); exact (push_ownHs rfl (hw.2.1 _ _ _ (List.prefix_append _ _) howY) rfl hX hr32 (by omega) (Nat.le_trans hszW hw.1.size) hcap).mono (by rintro v w5 ⟨h1, h2, h3⟩; exact ⟨⟨h1, h2⟩, hw.trans h3, h3⟩))) (fun u5 => ?_)
      refine (fun a11 w11 hS hK11 hq => ?_)

      obtain ⟨⟨g3, c3, rfl⟩, h51⟩ := (hq (5, _) List.mem_cons_self)
      clear hq
      refine tail_op 6 (by kernel_rfl) rfl hS (by decide) (runs_fieldK foC_3 rfl) (fun v12 w12 a12 hp hS => ⟨trivial, ?_⟩)
      obtain ⟨rfl, rfl⟩ := hp
      have hK1 := hK11
      have hQd := hK1.2.2.1 _ _ _ (by decide) hQY
      refine tail_none 7 (by kernel_rfl) rfl hS (runs_storeC (u := ov) rfl rfl rfl s1_924 hQd (cm_v (c := (mkC0 p q R)) hR32)) (fun v13 w13 a13 hp hS => ⟨trivial, ?_⟩)
      obtain ⟨hQ2, hU13⟩ := hp
      rw [cm_set (c := (mkC0 p q R)) hR32] at hQ2
      have hKs := hU13.below (B := w3.heap.size) (fun i e => by rw [e]; exact hgq) (Nat.le_trans hszW hK1.1.size)
      have h52 := owns_but h51 hU13 (fun i old ho e => by subst e; exact has_ne ho hQd (by decide) rfl)
      refine wpAnyH_done (by kernel_rfl) ?_ _
      refine reg_seq ?_
      refine sI hS (runs_add (r := ((i + 1 : Nat) : Int)) rfl rfl (by simp [IntKind.wrap, IntKind.bits, IntKind.signed]; omega)) fun _ hS => ?_
      refine sI hS (runs_move rfl) fun _ hS => ?_
      exact nil_ok ⟨_, by omega, i + 1, .slice (some ⟨g3, 0, none⟩) (i + 1) c3, by omega, rfl, (hBb1.trans hK1.1).trans hKs, by rw [List.take_add_one, hx, Option.toList_some, List.map_append, List.flatten_append, show ([x].map rootM).flatten = rootM x by simp, show U8 (((outs.take i).map rootM).flatten ++ rootM x) = (U8 ((outs.take i).map rootM).flatten) ++ U8 (rootM x) by simp [U8]]; exact h52, (fun h => by omega), hQ2, hS.only _ ⟨rfl, rfl, rfl, rfl, rfl, trivial⟩⟩
    refine sI hS (lssF rfl rfl (by omega)) fun _ hS => ?_
    obtain rfl : i = outs.length := by omega
    refine nil_ok ⟨_, hS.eval rfl, fun _ => ?_, fun h => by simp at h⟩
    have hB := hBb1
    have hov : ov.oneCell' = true := own_cell howY
    rw [List.take_length] at howY
    refine qx_seq (reg_seq ?_)
    refine sI hS (runs_loadRow rfl hQY Tryd.underlying26 rfl (by rw [szC, cmc_len (c := (mkC0 p q R)) hR32])) fun _ hS => ?_
    have hMo := hM1
    refine seq_none hS (runs_storeB (cs := cmc (mkC0 p q R) ov) rfl rfl hM1 ((cmc_len noCm_len).trans (cmc_len (c := (mkC0 p q R)) hR32).symm) (cm_one hov) (by rw [szC, cmc_len (c := (mkC0 p q R)) hR32])) (fun v14 w14 a1 hp hS => ?_)
    obtain ⟨hM1, hU14⟩ := hp
    have hownF := owns_but howY hU14 (fun i old ho e => by subst e; exact has_ne ho hMo (by decide) rfl)
    have hT := But.new (hBpre0.trans ((hB).mono hBpre0.size)) hU14 (fun i e => by rw [e]; exact Nat.le_refl _) (Nat.le_refl _)
    refine sI hS (runs_assign rfl) fun _ hS => ?_
    have hHf := hashes_own (hs := outs.map rootM) (by rw [List.length_map]; exact hownF) (fun y hy => by obtain ⟨m, hm, rfl⟩ := List.mem_map.1 hy; exact ⟨rootM_len m, sha_bytes _⟩)
    exact nil_ok (qx_ret (retRow2 (p := 8) (t := 9) (ty := 26) (by kernel_rfl) hS rfl rfl hM1 Tryd.underlying26 rfl (by rw [szC, cmc_len (c := (mkC0 p q R)) hR32]) ⟨_, rfl, _, by rw [chkC_ok hr], by rw [if_pos hr]; unfold makeM; rw [hR]; exact ⟨ov, rfl, hHf, hR32, by rw [← hR]; exact sha_bytes _⟩, hT⟩))
  · skip
    rw [Bool.eq_false_iff.2 hr] at hS
    refine sI hS (runs_not (b := false) rfl) fun _ hS => ?_
    refine nil_ok (wp_cond_true (hS.eval rfl) (qx_seq (reg_seq ?_)))
    refine sI hS (runs_buildK (pv := []) (cells := (cmc noCm (.slice none 0 0)).toArray) rfl built_0) fun _ hS => ?_
    refine seq_none hS (runs_storeB (cs := cmc noCm (.slice none 0 0)) rfl rfl hM1 rfl (cm_one rfl) (by rw [szC, cmc_len noCm_len])) (fun v15 w15 a1 hp hS => ?_)
    obtain ⟨hM1, hU15⟩ := hp
    have hB := But.new hB hU15 (fun i e => by rw [e]; exact hLhM1) (Nat.le_refl _)
    refine sI hS (runs_assign rfl) fun _ hS => ?_
    exact nil_ok (qx_ret (retRow2 (p := 8) (t := 9) (ty := 26) (by kernel_rfl) hS rfl rfl hM1 Tryd.underlying26 rfl (by rw [szC]; rfl) ⟨_, rfl, _, by rw [chkC_bad hr], by rw [if_neg hr]; exact cmv_no _, hB⟩))
end Go.Proofs.YtooeahpkhocaeaaDoor
