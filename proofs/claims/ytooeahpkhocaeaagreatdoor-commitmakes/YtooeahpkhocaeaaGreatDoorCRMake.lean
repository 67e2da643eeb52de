/- Layer 12: the document's Make, and the roots that it stands on. Conditions: none but those of the contract. -/
import Derived.Test.YtooeahpkhocaeaaGreatDoorJ36
import Derived.Test.YtooeahpkhocaeaaGreatDoorJ18
import Derived.Test.YtooeahpkhocaeaaGreatDoorJ26
import Derived.Test.YtooeahpkhocaeaaGreatDoorJ29
import Derived.Test.YtooeahpkhocaeaaGreatDoorJ28
namespace Go.Proofs.YtooeahpkhocaeaaGreatDoor
open Go.RowKit
set_option maxRecDepth 100000

theorem goes6 : Goes Tryz.prog 6 := goes_of Tryz.func6 (by kernel_rfl) rfl
theorem goes16 : Goes Tryz.prog 16 := goes_of Tryz.func16 (by kernel_rfl) rfl
theorem goes34 : Goes Tryz.prog 34 := goes_of Tryz.func34 (by kernel_rfl) rfl
theorem goes48 : Goes Tryz.prog 48 := goes_of Tryz.func48 (by kernel_rfl) rfl
set_option maxHeartbeats 1000000 in
theorem r10rows_any (l : List Vx) (v : Value) (w : World) (hV : Verts w v l) (hl : l.length ≤ 10000) : Ans 34 [v] w (fun u w' => Strs w' u (l.map putX) ∧ Below w.heap.size w w') := by
  obtain ⟨A, c, rfl, hc1, hc2, hA⟩ := hV
  have hV : Verts w (.slice A l.length c) l := ⟨A, c, rfl, hc1, hc2, hA⟩
  have hcm := hc2
  unfold maxLen at hcm
  refine calls_qx (args := [.slice A l.length c]) 21 Tryz.func34 rfl (by kernel_rfl) (by simp) (fun a hS => ?_)
  have hB := Below.refl w.heap.size w
  have hVb := hV
  refine qx_seq (reg_seq ?_)
  refine sI hS (runs_assign rfl) fun _ hS => ?_
  refine nil_ok (qx_seq (reg_seq ?_))
  refine seq_op hS (by decide) (none_ownS (B := w.heap.size) hB.size) (fun v1 w1 a1 hp hS => ?_)
  obtain ⟨⟨g0, rfl, h0⟩, hB1⟩ := hp
  have hB := hB.trans (hB1.mono hB.size)
  have hV := hVb.kept hB
  refine sI hS (runs_assign rfl) fun _ hS => ?_
  refine nil_ok (qx_seq (qx_seq (reg_seq ?_)))
  refine sI hS (runs_assign rfl) fun _ hS => ?_
  refine nil_ok (?_)
  refine qx_for (fun mm a w' => ∃ (i : Nat) (ov : Value), i ≤ l.length ∧ mm = l.length - i ∧ Below w.heap.size w w' ∧ w'.ownsRow w.heap.size 9 1 ov i (rowS (l.take i)) ∧ (i = 0 → ∀ g m c, ov = .slice (some g) m c → c = 0) ∧ Sees 21 [(4, .int .i64 (i : Int)), (3, ov), (0, .slice A l.length c)] a) l.length ⟨0, _, by omega, by omega, hB, h0, (fun _ g m c e => by cases e; rfl), hS.only _ ⟨rfl, rfl, rfl, trivial⟩⟩ ?_
  clear hS 
  rintro mm a wl1 ⟨i, ov, hi1, rfl, hBb1, hown, hz, hS⟩
  have hBsz1 := hBb1.size
  have hV := hVb.kept hBb1
  have hB := Below.refl wl1.heap.size wl1
  refine reg_seq ?_
  refine sI hS (runs_move rfl) fun _ hS => ?_
  refine sI hS (runs_move rfl) fun _ hS => ?_
  refine sI hS (runs_len rfl undLV) fun _ hS => ?_
  by_cases hlt1 : i < l.length
  · skip
    refine sI hS (lssT rfl rfl (by omega)) fun _ hS => ?_
    refine nil_ok ⟨_, hS.eval rfl, fun h => by simp at h, fun _ => ?_⟩
    have hSn := hS
    obtain ⟨x, hx⟩ : ∃ x, l[i]? = some x := ⟨l[i], by simp [hlt1]⟩
    obtain ⟨b, o, hbe, hbw, hr⟩ := verts_row hV (by omega)
    cases hbe
    have hrx := verts_at hr hx
    have hS := hSn
    refine qx_seq (qx_block (reg_seq ?_))
    refine sI hS (runs_move rfl) fun _ hS => ?_
    refine sI hS (runs_move rfl) fun _ hS => ?_
    refine sI hS (runs_move rfl) fun _ hS => ?_
    refine sI hS (runs_indexAddrG (j := i) rfl rfl undLV sz28 rfl hlt1) fun _ hS => ?_
    refine sI hS (runs_loadVx rfl hrx) fun _ hS => ?_
    refine seq_op hS (by decide) (runs_call (args := [vv x]) goes48 rfl (rput_any x wl1)) (fun v3 w3 a1 hp hS => ?_)
    obtain ⟨rfl, hB3⟩ := hp
    have hB := hB.trans (hB3.mono hB.size)
    refine seq_op hS (by decide) (runs_oneSt (s := putX x) rfl) (fun v5 w5 a1 hp hS => ?_)
    obtain ⟨g2, rfl, hX, hB5⟩ := hp
    have hB := hB.trans (hB5.mono hB.size)
    refine seq_op hS (by decide) (push_ownS (B := w.heap.size) rfl (owns_kept hown hB) rfl hX (by omega) (Nat.le_trans hBsz1 hB.size) ((Nat.eq_zero_or_pos i).elim (fun h => .inr (hz h)) .inl)) (fun v7 w7 a1 hp hS => ?_)
    obtain ⟨hown3, hB7⟩ := hp
    refine sI hS (runs_assign rfl) fun _ hS => ?_
    refine nil_ok (reg_seq ?_)
    refine sI hS (runs_move rfl) fun _ hS => ?_
    refine sI hS (runs_add (r := ((i + 1 : Nat) : Int)) rfl rfl (by simp [IntKind.wrap, IntKind.bits, IntKind.signed]; omega)) fun _ hS => ?_
    refine sI hS (runs_assign rfl) fun _ hS => ?_
    exact nil_ok ⟨_, by omega, i + 1, v7, by omega, rfl, hBb1.trans ((hB.mono hBb1.size).trans hB7), by rw [rowS_snoc hx]; exact hown3, (fun h => by omega), hS.only _ ⟨rfl, rfl, rfl, trivial⟩⟩
  refine sI hS (lssF rfl rfl (by omega)) fun _ hS => ?_
  obtain rfl : i = l.length := by omega
  refine nil_ok ⟨_, hS.eval rfl, fun _ => ?_, fun h => by simp at h⟩
  have hB := hBb1
  rw [List.take_length] at hown
  refine qx_seq (reg_seq ?_)
  refine sI hS (runs_move rfl) fun _ hS => ?_
  refine sI hS (runs_assign rfl) fun _ hS => ?_
  exact nil_ok (qx_ret (ret1 (t := 2) (by kernel_rfl) hS rfl ⟨_, rfl, strs_ownR hown (by simp), hB⟩))
set_option maxRecDepth 100000 in
set_option maxHeartbeats 1000000 in
theorem r10root_any (l : List Vx) (v : Value) (w : World) (hV : Verts w v l) (hl : l.length ≤ 10000) : Ans 16 [v] w (fun u w' => u = .agg (U8 (rootX l)).toArray ∧ Below w.heap.size w w') := by
  refine calls_qx (args := [v]) 6 Tryz.func16 rfl (by kernel_rfl) (by simp) (fun a hS => ?_)
  refine qx_seq (reg_seq ?_)
  refine seq_op hS (by decide) alloc_hash (fun v1 w1 a1 hp1 hS => ?_)
  obtain ⟨rfl, rfl⟩ := hp1
  have hH1 := Has.new w 25 (U8 (List.replicate 32 0))
  have hB1 : Below w.heap.size w (w.alloc (.cells (U8 (List.replicate 32 0)).toArray 25)) := (Below.refl _ _).alloc (Nat.le_refl _) _
  generalize w.alloc (.cells (U8 (List.replicate 32 0)).toArray 25) = w1 at *
  have hV1 := hV.kept hB1
  refine nil_ok (qx_seq (reg_seq ?_))
  refine seq_is hS (by decide) (runs_move rfl) (fun a1 hS => ?_)
  refine seq_op hS (by decide) (runs_call (args := [v]) goes34 rfl (r10rows_any l v w1 hV1 hl)) (fun v2 w2 a2 hp2 hS => ?_)
  obtain ⟨hR, hB2⟩ := hp2
  have hroot := refRootH_any (rowsX l) v2 w2 hR (fun s hs => Nat.le_trans (rowsX_small l s hs) (by omega)) (by simp [rowsX]; omega)
  skip
  refine seq_op hS (by decide) (runs_call (args := [v2]) goes33 rfl (hash_post (fun w' => Below w2.heap.size w2 w') hroot (fun _ h => h))) (fun v3 w3 a3 hp3 hS => ?_)
  obtain ⟨rfl, hB3⟩ := hp3
  have hH3 := (hH1.below hB2 hH1.lt).below hB3 (Nat.lt_of_lt_of_le hH1.lt hB2.size)
  have hlen : (rootX l).length = 32 := rootX_len l
  refine seq_none hS (runs_storeRow (cs := (U8 (rootX l)).toArray) rfl rfl hH3 (by simp [hlen]) (agg_all _) (by rw [infHash]; simp [hlen])) (fun v6 w6 a6 hp6 hS => ?_)
  obtain ⟨rfl, rfl⟩ := hp6
  exact nil_ok (qx_ret (retRow (t := 0) (p := 2) (by kernel_rfl) hS rfl (has_setRow (cs := U8 (rootX l)) hH3) rfl undHash rfl (by rw [infHash]; simp [hlen]) ⟨_, rfl, rfl, below_row ((hB1.trans (hB2.mono hB1.size)).trans (hB3.mono (Nat.le_trans hB1.size hB2.size))) (Nat.le_refl _) _⟩))
set_option maxRecDepth 100000 in
set_option maxHeartbeats 1000000 in
theorem r11root_any (l : List E) (v : Value) (w : World) (hV : Edges w v l) (hl : l.length ≤ 10000) (hf : FitsM l) : Ans 17 [v] w (fun u w' => u = .agg (U8 (rootM l)).toArray ∧ Below w.heap.size w w') := by
  refine calls_qx (args := [v]) 6 Tryz.func17 rfl (by kernel_rfl) (by simp) (fun a hS => ?_)
  refine qx_seq (reg_seq ?_)
  refine seq_op hS (by decide) alloc_hash (fun v1 w1 a1 hp1 hS => ?_)
  obtain ⟨rfl, rfl⟩ := hp1
  have hH1 := Has.new w 25 (U8 (List.replicate 32 0))
  have hB1 : Below w.heap.size w (w.alloc (.cells (U8 (List.replicate 32 0)).toArray 25)) := (Below.refl _ _).alloc (Nat.le_refl _) _
  generalize w.alloc (.cells (U8 (List.replicate 32 0)).toArray 25) = w1 at *
  have hV1 := hV.kept hB1
  refine nil_ok (qx_seq (reg_seq ?_))
  refine seq_is hS (by decide) (runs_move rfl) (fun a1 hS => ?_)
  refine seq_op hS (by decide) (runs_call (args := [v]) goes35 rfl (rrows_any l hl hf v w1 hV1)) (fun v2 w2 a2 hp2 hS => ?_)
  obtain ⟨hR, hB2⟩ := hp2
  have hroot := refRootH_any ((rowsM l).map S) v2 w2 hR (fun s hs => Nat.le_trans (rowsS_small hf s hs) (by omega)) (by rw [List.length_map, rowsM_length]; omega)
  rw [rowsS_root] at hroot
  refine seq_op hS (by decide) (runs_call (args := [v2]) goes33 rfl (hash_post (fun w' => Below w2.heap.size w2 w') hroot (fun _ h => h))) (fun v3 w3 a3 hp3 hS => ?_)
  obtain ⟨rfl, hB3⟩ := hp3
  have hH3 := (hH1.below hB2 hH1.lt).below hB3 (Nat.lt_of_lt_of_le hH1.lt hB2.size)
  have hlen : (rootM l).length = 32 := rootM_len l
  refine seq_none hS (runs_storeRow (cs := (U8 (rootM l)).toArray) rfl rfl hH3 (by simp [hlen]) (agg_all _) (by rw [infHash]; simp [hlen])) (fun v6 w6 a6 hp6 hS => ?_)
  obtain ⟨rfl, rfl⟩ := hp6
  exact nil_ok (qx_ret (retRow (t := 0) (p := 2) (by kernel_rfl) hS rfl (has_setRow (cs := U8 (rootM l)) hH3) rfl undHash rfl (by rw [infHash]; simp [hlen]) ⟨_, rfl, rfl, below_row ((hB1.trans (hB2.mono hB1.size)).trans (hB3.mono (Nat.le_trans hB1.size hB2.size))) (Nat.le_refl _) _⟩))
set_option maxHeartbeats 1000000 in
theorem rmake_c : RMakeC := fun p q l outs vl vo w hV hl hO hol hfo _ => by
  show Ans 6 [.int .i64 p, .int .i64 q, vl, vo] w _
  obtain ⟨Ao, co, vs_, hoe, -, -, -⟩ := id hO
  subst hoe
  obtain ⟨R, hR⟩ : ∃ R, rootX l = R := ⟨_, rfl⟩
  have hR32 : R.length = 32 := by rw [← hR]; exact rootX_len _
  refine calls_qx (args := [.int .i64 p, .int .i64 q, vl, .slice Ao outs.length co]) 33 Tryz.func6 rfl (by kernel_rfl) (by simp) (fun a hS => ?_)
  have hB := Below.refl w.heap.size w
  have hOb := hO
  have hVb := hV
  refine qx_seq (reg_seq ?_)
  refine seq_op hS (by decide) (runs_allocB (cs := cmc noCm (.slice none 0 0)) zoC rfl) (fun v1 w1 a1 hp hS => ?_)
  obtain ⟨rfl, hM1, hB1⟩ := hp
  have hB := hB.trans (hB1.mono hB.size)
  have hO := hOb.kept hB
  have hV := hVb.kept hB
  refine nil_ok (qx_seq (?_))
  have hBpre0 := hB
  have hB := Below.refl w1.heap.size w1
  have hM1b := hM1
  have hOb := hO
  refine reg_seq ?_
  refine sI hS (runs_move rfl) fun _ hS => ?_
  refine sI hS (runs_move rfl) fun _ hS => ?_
  refine sI hS (runs_move rfl) fun _ hS => ?_
  refine seq_op hS (by decide) (runs_call (args := [vl]) goes16 rfl (r10root_any l vl w1 hV hl)) (fun v3 w3 a1 hp hS => ?_)
  rw [hR] at hp
  obtain ⟨rfl, hB3⟩ := hp
  have hB := hB.trans (hB3.mono hB.size)
  have hM1 := hM1b.below hB hM1b.lt
  refine sI hS (runs_buildK (pv := [(0, .int .i64 p), (1, .int .i64 q), (2, .agg (U8 R).toArray)]) (cells := (cmc (mkC0 p q R) (.slice none 0 0)).toArray) rfl (built_C3 hR32)) fun _ hS => ?_
  refine seq_op hS (by decide) (runs_allocB (cs := cmc noCm (.slice none 0 0)) zoC rfl) (fun v5 w5 a1 hp hS => ?_)
  obtain ⟨rfl, hM5, hB5⟩ := hp
  have hLhM5 : w1.heap.size ≤ w3.heap.size := hB.size
  have hB := hB.trans (hB5.mono hB.size)
  have hM1 := hM1b.below hB hM1b.lt
  refine seq_none hS (runs_storeB (cs := cmc (mkC0 p q R) (.slice none 0 0)) rfl rfl hM5 ((cmc_len noCm_len).trans (cmc_len (c := (mkC0 p q R)) hR32).symm) (cm_one rfl) (by rw [szC, cmc_len (c := (mkC0 p q R)) hR32])) (fun v7 w7 a1 hp hS => ?_)
  obtain ⟨hM5, hU7⟩ := hp
  have hB := But.new hB hU7 (fun i e => by rw [e]; exact hLhM5) (Nat.le_refl _)
  have hM1 := hM1b.below hB hM1b.lt
  refine nil_ok (qx_seq (qx_seq (reg_seq ?_)))
  refine sI hS (runs_assign rfl) fun _ hS => ?_
  refine nil_ok (?_)
  obtain ⟨gq, hgqe⟩ : ∃ g, g = w3.heap.size := ⟨_, rfl⟩
  have hgq : w1.heap.size ≤ gq := by rw [hgqe]; exact hLhM5
  have hQ := hM5
  rw [← hgqe] at hQ hS
  have hO0 := hOb
  refine qx_for (fun mm a w' => ∃ (i : Nat) (ov : Value), i ≤ outs.length ∧ mm = outs.length - i ∧ Below w1.heap.size w1 w' ∧ w'.ownsRow w1.heap.size 25 32 ov i (U8 ((outs.take i).map rootM).flatten) ∧ (i = 0 → ∀ g m c, ov = .slice (some g) m c → c = 0) ∧ Has w' gq 28 (cmc (mkC0 p q R) ov) ∧ Sees 33 [(10, .int .i64 (i : Int)), (9, .pointer (some ⟨gq, 0, none⟩)), (8, .pointer (some ⟨w.heap.size, 0, none⟩)), (3, .slice Ao outs.length co)] a) outs.length ⟨0, _, by omega, by omega, hB, ⟨rfl, .inl ⟨rfl, by simp⟩⟩, (fun _ g m c e => by cases e), hQ, hS.only _ ⟨rfl, rfl, rfl, rfl, trivial⟩⟩ ?_
  clear hS 
  rintro mm a wl1 ⟨i, ov, hi1, rfl, hBb1, howY, hzY, hQY, hS⟩
  have hBsz1 := hBb1.size
  have hM1 := hM1b.below hBb1 hM1b.lt
  have hB := Below.refl wl1.heap.size wl1
  refine reg_seq ?_
  refine sI hS (runs_move rfl) fun _ hS => ?_
  refine sI hS (runs_move rfl) fun _ hS => ?_
  refine sI hS (runs_len rfl undLMM) fun _ hS => ?_
  by_cases hlt1 : i < outs.length
  · skip
    refine sI hS (lssT rfl rfl (by omega)) fun _ hS => ?_
    refine nil_ok ⟨_, hS.eval rfl, fun h => by simp at h, fun _ => ?_⟩
    have hSn := hS
    have hQn := hQY
    have hwn := howY
    obtain ⟨x, hx⟩ : ∃ x, outs[i]? = some x := ⟨outs[i], by simp [hlt1]⟩
    obtain ⟨bo, oo, u1, hbe, hcu2, hEu2⟩ := outs_row hO0 hx
    cases hbe
    have hfx := hfo x (List.mem_of_getElem? hx)
    have hr32 := rootM_len x
    have hcap : 0 < i ∨ ∀ g m c, ov = .slice (some g) m c → c = 0 := (Nat.eq_zero_or_pos i).elim (fun h => .inr (hzY h)) .inl
    have hszW := hBsz1
    have hS := hSn
    have hQY := hQn
    have howY := hwn
    refine qx_seq (qx_block (reg_k (KR 25 32 w1.heap.size ((U8 ((outs.take i).map rootM).flatten) ++ U8 (rootM x))) (fun w' => KR 25 32 w1.heap.size ((U8 ((outs.take i).map rootM).flatten) ++ U8 (rootM x)) wl1 w') [.inl (.pointer (some ⟨gq, 0 + 34, none⟩)), .inl (ov), .inl (.slice (some ⟨bo, oo, none⟩) outs.length co), .inl (.int .i64 (i : Int)), .inl (.pointer (some ⟨bo, oo + i * 1, none⟩)), .inl (u1), .inl (.agg (U8 (rootM x)).toArray), .inr (fun v w' => ∃ g5, v = .slice (some ⟨g5, 0, none⟩) 1 1 ∧ Has w' g5 25 (U8 (rootM x))), .inr (fun v w' => (∃ g3 c3, v = .slice (some ⟨g3, 0, none⟩) (i + 1) c3) ∧ w'.ownsRow w1.heap.size 25 32 v (i + 1) ((U8 ((outs.take i).map rootM).flatten) ++ U8 (rootM x)))] 9 2 mixed rfl (by kernel_rfl) hS KR.refl (fun _ h => h.drew) ?_))
    refine ks_is rfl (fun w' hw => runs_fieldK foC_3 rfl) ?_
    refine ks_is rfl (fun w' hw => runs_load rfl pl924 ((hw.2.2.1 _ _ _ (by decide) hQY).at (cm_v (c := (mkC0 p q R)) hR32))) ?_
    refine ks_is rfl (fun w' hw => runs_move rfl) ?_
    refine ks_is rfl (fun w' hw => runs_move rfl) ?_
    refine ks_is rfl (fun w' hw => runs_indexAddrG (j := i) rfl rfl undLMM szLM rfl hlt1) ?_
    refine ks_is rfl (fun w' hw => runs_load rfl plLM (by rw [Nat.mul_one]; exact cell_kept (hBb1.trans hw.1) hcu2)) ?_
    refine ks_val rfl (fun w' hw hq => (runs_call (args := [u1]) goes17 rfl (r11root_any x u1 w' (hEu2.kept (hBb1.trans hw.1)) hfx.1 hfx.2)).mono (by rintro v w5 ⟨rfl, hb⟩; have hk_ := KR.of_below (T := 25) (sz := 32) (Y := ((U8 ((outs.take i).map rootM).flatten) ++ U8 (rootM x))) hb (Nat.le_trans hszW hw.1.size); exact ⟨rfl, hw.trans hk_, hk_⟩)) ?_
    refine ks_pr rfl (fun _ _ _ h hk => by obtain ⟨g5, h1, h2⟩ := h; exact ⟨g5, h1, hk.2.2.2 _ _ (by rw [U8_length, hr32]) h2⟩) (fun w' hw hq => (runs_oneHs rfl hr32).mono (by rintro v w5 ⟨g5, h1, h2, hb⟩; have hk := KR.of_below (T := 25) (sz := 32) (Y := ((U8 ((outs.take i).map rootM).flatten) ++ U8 (rootM x))) hb (Nat.le_trans hszW hw.1.size); exact ⟨⟨g5, h1, h2⟩, hw.trans hk, hk⟩)) (fun u7 => ?_)
    refine ks_pr rfl (fun _ _ _ h hk => ⟨h.1, hk.2.1 _ _ _ (List.prefix_refl _) h.2⟩) (fun w' hw hq => (by obtain ⟨g5, rfl, hX⟩ := (hq (7, _) List.mem_cons_self (by kernel_rfl)); exact (push_ownHs rfl (hw.2.1 _ _ _ (List.prefix_append _ _) howY) rfl hX hr32 (by omega) (Nat.le_trans hszW hw.1.size) hcap).mono (by rintro v w5 ⟨h1, h2, h3⟩; exact ⟨⟨h1, h2⟩, hw.trans h3, h3⟩))) (fun u8 => ?_)
    refine (fun a9 w9 hS hK9 hq => ?_)

    obtain ⟨⟨g3, c3, rfl⟩, h51⟩ := (hq (8, _) List.mem_cons_self)
    clear hq
    refine tail_op 9 (by kernel_rfl) rfl hS (by decide) (runs_fieldK foC_3 rfl) (fun v10 w10 a10 hp hS => ⟨trivial, ?_⟩)
    obtain ⟨rfl, rfl⟩ := hp
    have hK1 := hK9
    have hQd := hK1.2.2.1 _ _ _ (by decide) hQY
    refine tail_none 10 (by kernel_rfl) rfl hS (runs_storeC (u := ov) rfl rfl rfl s1_924 hQd (cm_v (c := (mkC0 p q R)) hR32)) (fun v11 w11 a11 hp hS => ⟨trivial, ?_⟩)
    obtain ⟨hQ2, hU11⟩ := hp
    rw [cm_set (c := (mkC0 p q R)) hR32] at hQ2
    have hKs := hU11.below (B := w1.heap.size) (fun i e => by rw [e]; exact hgq) (Nat.le_trans hszW hK1.1.size)
    have h52 := owns_but h51 hU11 (fun i old ho e => by subst e; exact has_ne ho hQd (by decide) rfl)
    refine wpAnyH_done (by kernel_rfl) ?_ _
    refine reg_seq ?_
    refine sI hS (runs_move rfl) fun _ hS => ?_
    refine sI hS (runs_add (r := ((i + 1 : Nat) : Int)) rfl rfl (by simp [IntKind.wrap, IntKind.bits, IntKind.signed]; omega)) fun _ hS => ?_
    refine sI hS (runs_assign rfl) fun _ hS => ?_
    exact nil_ok ⟨_, by omega, i + 1, .slice (some ⟨g3, 0, none⟩) (i + 1) c3, by omega, rfl, (hBb1.trans hK1.1).trans hKs, by rw [List.take_add_one, hx, Option.toList_some, List.map_append, List.flatten_append, show ([x].map rootM).flatten = rootM x by simp, show U8 (((outs.take i).map rootM).flatten ++ rootM x) = (U8 ((outs.take i).map rootM).flatten) ++ U8 (rootM x) by simp [U8]]; exact h52, (fun h => by omega), hQ2, hS.only _ ⟨rfl, rfl, rfl, rfl, trivial⟩⟩
  refine sI hS (lssF rfl rfl (by omega)) fun _ hS => ?_
  obtain rfl : i = outs.length := by omega
  refine nil_ok ⟨_, hS.eval rfl, fun _ => ?_, fun h => by simp at h⟩
  have hB := hBb1
  have hov : ov.oneCell' = true := own_cell howY
  rw [List.take_length] at howY
  refine qx_seq (reg_seq ?_)
  refine sI hS (runs_loadRow rfl hQY Tryz.underlying28 rfl (by rw [szC, cmc_len (c := (mkC0 p q R)) hR32])) fun _ hS => ?_
  have hMo := hM1
  refine seq_none hS (runs_storeB (cs := cmc (mkC0 p q R) ov) rfl rfl hM1 ((cmc_len noCm_len).trans (cmc_len (c := (mkC0 p q R)) hR32).symm) (cm_one hov) (by rw [szC, cmc_len (c := (mkC0 p q R)) hR32])) (fun v12 w12 a1 hp hS => ?_)
  obtain ⟨hM1, hU12⟩ := hp
  have hownF := owns_but howY hU12 (fun i old ho e => by subst e; exact has_ne ho hMo (by decide) rfl)
  have hT := But.new (hBpre0.trans ((hB).mono hBpre0.size)) hU12 (fun i e => by rw [e]; exact Nat.le_refl _) (Nat.le_refl _)
  have hHf := hashes_own (hs := outs.map rootM) (by rw [List.length_map]; exact hownF) (fun y hy => by obtain ⟨m, hm, rfl⟩ := List.mem_map.1 hy; exact ⟨rootM_len m, sha_bytes _⟩)
  exact nil_ok (qx_ret (retRow (t := 0) (p := 8) (by kernel_rfl) hS rfl hM1 rfl Tryz.underlying28 rfl (by rw [szC, cmc_len (c := (mkC0 p q R)) hR32]) ⟨_, rfl, by unfold makeM; rw [hR]; exact ⟨ov, rfl, hHf, hR32, by rw [← hR]; exact sha_bytes _⟩, hT⟩))
end Go.Proofs.YtooeahpkhocaeaaGreatDoor
