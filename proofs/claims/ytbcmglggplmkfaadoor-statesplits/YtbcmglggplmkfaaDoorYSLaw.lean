/- Layer 10: all workers' vertices are all: the law StateSplits, walked. Conditions: none of our own. -/
import Derived.Test.YtbcmglggplmkfaaDoorYLaws
import Derived.Test.YtbcmglggplmkfaaDoorYSplit
import Derived.Test.YtbcmglggplmkfaaDoorYOwn
import Derived.Test.YtbcmglggplmkfaaDoorJI
namespace Go.Proofs.YtbcmglggplmkfaaDoor
open Go.RowKit
set_option maxRecDepth 100000

set_option maxHeartbeats 1000000 in
theorem splits_law (l : List Vx) (v : Value) (k : Int) (w : World) (hV : Verts w v l) (hk : Kept w) : Ans 6 [v, .int .i64 k] w (fun u w' => u = .bool true ∧ Below w.heap.size w w') := by
  obtain ⟨A, c, rfl, hc1, hc2, hA⟩ := hV
  have hV : Verts w (.slice A l.length c) l := ⟨A, c, rfl, hc1, hc2, hA⟩
  have hcm := hc2
  unfold maxLen at hcm
  refine calls_qx (args := [.slice A l.length c, .int .i64 k]) 90 Tryd.func6 rfl (by kernel_rfl) (by simp) (fun a hS => ?_)
  have hB := Below.refl w.heap.size w
  have hVb := hV
  refine qx_seq (reg_seq ?_)
  refine sI hS (runs_assign rfl) fun _ hS => ?_
  refine nil_ok (qx_seq (qx_seq (reg_seq ?_)))
  refine seq_op hS (by decide) (runs_call (args := []) goes10 rfl (sawake_any w (hk.below hB hk.pos))) (fun v1 w1 a1 hp hS => ?_)
  obtain ⟨rfl, hB1⟩ := hp
  have hB := hB.trans (hB1.mono hB.size)
  have hV := hVb.kept hB
  refine sI hS (runs_not (b := true) rfl) fun _ hS => ?_
  refine sI hS (runs_move rfl) fun _ hS => ?_
  refine sY hS (runs_move rfl) fun _ hS => ?_
  refine sY hS (runs_len rfl undVx) fun _ hS => ?_
  by_cases hbig : 30 < l.length
  · skip
    refine sY hS (gtrT rfl rfl (by omega)) fun _ hS => ?_
    refine sI hS (runs_pick rfl rfl) fun _ hS => ?_
    refine sI hS (runs_move rfl) fun _ hS => ?_
    refine sN hS fun _ hS => ?_
    refine sN hS fun _ hS => ?_
    refine sI hS (runs_pick rfl rfl) fun _ hS => ?_
    refine sI hS (runs_move rfl) fun _ hS => ?_
    refine sN hS fun _ hS => ?_
    refine sN hS fun _ hS => ?_
    refine sI hS (runs_pick rfl rfl) fun _ hS => ?_
    refine nil_ok (wp_cond_true (hS.eval rfl) (qx_seq (reg_seq ?_)))
    refine seq_op hS (by decide) (runs_call (args := []) goes10 rfl (sawake_any w1 (hk.below hB hk.pos))) (fun v3 w3 a1 hp hS => ?_)
    obtain ⟨rfl, hB3⟩ := hp
    have hB := hB.trans (hB3.mono hB.size)
    have hV := hVb.kept hB
    refine sI hS (runs_assign rfl) fun _ hS => ?_
    exact nil_ok (qx_ret (ret1 (t := 4) (by kernel_rfl) hS rfl ⟨_, rfl, rfl, hB⟩))
  refine sY hS (gtrF rfl rfl (by omega)) fun _ hS => ?_
  refine sI hS (runs_pick rfl rfl) fun _ hS => ?_
  refine sI hS (runs_move rfl) fun _ hS => ?_
  refine sY hS (runs_move rfl) fun _ hS => ?_
  by_cases hk1 : k < 1
  · skip
    refine sY hS (lssT rfl rfl (by omega)) fun _ hS => ?_
    refine sI hS (runs_pick rfl rfl) fun _ hS => ?_
    refine sI hS (runs_move rfl) fun _ hS => ?_
    refine sN hS fun _ hS => ?_
    refine sN hS fun _ hS => ?_
    refine sI hS (runs_pick rfl rfl) fun _ hS => ?_
    refine nil_ok (wp_cond_true (hS.eval rfl) (qx_seq (reg_seq ?_)))
    refine seq_op hS (by decide) (runs_call (args := []) goes10 rfl (sawake_any w1 (hk.below hB hk.pos))) (fun v5 w5 a1 hp hS => ?_)
    obtain ⟨rfl, hB5⟩ := hp
    have hB := hB.trans (hB5.mono hB.size)
    have hV := hVb.kept hB
    refine sI hS (runs_assign rfl) fun _ hS => ?_
    exact nil_ok (qx_ret (ret1 (t := 4) (by kernel_rfl) hS rfl ⟨_, rfl, rfl, hB⟩))
  refine sY hS (lssF rfl rfl (by omega)) fun _ hS => ?_
  refine sI hS (runs_pick rfl rfl) fun _ hS => ?_
  refine sI hS (runs_move rfl) fun _ hS => ?_
  refine sY hS (runs_move rfl) fun _ hS => ?_
  by_cases hk64 : 64 < k
  · skip
    refine sY hS (gtrT rfl rfl (by omega)) fun _ hS => ?_
    refine sI hS (runs_pick rfl rfl) fun _ hS => ?_
    refine nil_ok (wp_cond_true (hS.eval rfl) (qx_seq (reg_seq ?_)))
    refine seq_op hS (by decide) (runs_call (args := []) goes10 rfl (sawake_any w1 (hk.below hB hk.pos))) (fun v7 w7 a1 hp hS => ?_)
    obtain ⟨rfl, hB7⟩ := hp
    have hB := hB.trans (hB7.mono hB.size)
    have hV := hVb.kept hB
    refine sI hS (runs_assign rfl) fun _ hS => ?_
    exact nil_ok (qx_ret (ret1 (t := 4) (by kernel_rfl) hS rfl ⟨_, rfl, rfl, hB⟩))
  refine sY hS (gtrF rfl rfl (by omega)) fun _ hS => ?_
  refine sI hS (runs_pick rfl rfl) fun _ hS => ?_
  refine nil_ok (wp_cond_false (hS.eval rfl) (wp_skip (qx_seq (reg_seq ?_))))
  refine sI hS (runs_assign rfl) fun _ hS => ?_
  refine nil_ok (qx_seq (qx_seq (reg_seq ?_)))
  refine sI hS (runs_assign rfl) fun _ hS => ?_
  refine nil_ok (?_)
  obtain ⟨K, rfl⟩ : ∃ K : Nat, k = (K : Int) := ⟨k.toNat, by omega⟩
  have hBo1 := hB
  refine qx_for (fun mm a w' => ∃ (j : Nat) (nn : Nat), j ≤ K ∧ mm = K - j ∧ Below w1.heap.size w1 w' ∧ nn = cntX (K : Int) j l ∧ Sees 90 [(6, .int .i64 (j : Int)), (5, .int .i64 ((nn : Nat) : Int)), (1, .int .i64 (K : Int)), (0, .slice A l.length c)] a) K ⟨0, 0, by omega, by omega, Below.refl _ _, (cntX_zero _ _).symm, hS.only _ ⟨rfl, rfl, rfl, rfl, trivial⟩⟩ ?_
  clear hS
  rintro mm a wl1 ⟨j, nn, hi1, rfl, hBl1, hnn, hS⟩
  have hV := hV.kept hBl1
  have hB := Below.refl wl1.heap.size wl1
  have hVb1 := hV
  refine reg_seq ?_
  refine sI hS (runs_move rfl) fun _ hS => ?_
  refine sI hS (runs_move rfl) fun _ hS => ?_
  by_cases hlt1 : j < K
  · skip
    refine sI hS (lssT rfl rfl (by omega)) fun _ hS => ?_
    refine nil_ok ⟨_, hS.eval rfl, fun h => by simp at h, fun _ => ?_⟩
    have hnb : nn ≤ l.length := by rw [hnn]; exact List.length_filter_le _ _
    refine qx_seq (qx_block (qx_seq (reg_seq ?_)))
    refine seq_op hS (by decide) (none_ownV (B := wl1.heap.size) hB.size) (fun v9 w9 a1 hp hS => ?_)
    obtain ⟨⟨g0, rfl, h0⟩, hB9⟩ := hp
    have hB := hB.trans (hB9.mono hB.size)
    have hV := hVb1.kept hB
    refine sI hS (runs_move rfl) fun _ hS => ?_
    refine seq_op hS (by decide) (copy_ownV (B := wl1.heap.size) hV (by omega) hB.size rfl h0 rfl) (fun v11 w11 a1 hp hS => ?_)
    obtain ⟨⟨g1, c1, rfl, _⟩, hown, hB11⟩ := hp
    have hVc := verts_own hown rfl
    have hB := hB.trans (hB11.mono hB.size)
    have hV := hVb1.kept hB
    refine sI hS (runs_move rfl) fun _ hS => ?_
    refine sI hS (runs_move rfl) fun _ hS => ?_
    refine seq_op hS (by decide) (runs_call (args := [.slice (some ⟨g1, 0, none⟩) l.length c1, .int .i64 (K : Int), .int .i64 (j : Int)]) goes16 rfl (sown_any l _ (K : Int) (j : Int) w11 hVc (by omega))) (fun v13 w13 a1 hp hS => ?_)
    obtain ⟨hown2, hB13⟩ := hp
    have hVh := verts_own hown2 rfl
    obtain ⟨Ah, ch, rfl, _⟩ := id hVh
    have hol : (ownX (K : Int) (j : Int) l).length ≤ l.length := List.length_filter_le _ _
    have hB := hB.trans (hB13.mono hB.size)
    have hV := hVb1.kept hB
    refine sI hS (runs_assign rfl) fun _ hS => ?_
    refine nil_ok (qx_seq (reg_seq ?_))
    refine sI hS (runs_move rfl) fun _ hS => ?_
    refine sI hS (runs_move rfl) fun _ hS => ?_
    refine sI hS (runs_len rfl undVx) fun _ hS => ?_
    refine sI hS (runs_add (r := ((nn + (ownX (K : Int) (j : Int) l).length : Nat) : Int)) rfl rfl (by simp [IntKind.wrap, IntKind.bits, IntKind.signed]; omega)) fun _ hS => ?_
    refine sI hS (runs_assign rfl) fun _ hS => ?_
    refine nil_ok (qx_seq (reg_seq ?_))
    refine sI hS (runs_assign rfl) fun _ hS => ?_
    refine nil_ok (qx_seq (qx_seq (?_)))
    have hBprer := hB
    have hB := Below.refl w13.heap.size w13
    have hVb1 := hV
    have hVhb1 := hVh
    refine reg_seq ?_
    refine sI hS (runs_assign rfl) fun _ hS => ?_
    refine nil_ok (?_)
    refine qx_for (fun mm a w' => ∃ (i : Nat) (at_ : Nat), i ≤ l.length ∧ mm = l.length - i ∧ Below w13.heap.size w13 w' ∧ at_ ≤ (ownX (K : Int) (j : Int) l).length ∧ SubX (ownX (K : Int) (j : Int) l) l at_ i ∧ Sees 90 [(9, .int .i64 (i : Int)), (8, .int .i64 ((at_ : Nat) : Int)), (7, .slice Ah ((ownX (K : Int) (j : Int) l).length) ch), (5, .int .i64 ((nn + (ownX (K : Int) (j : Int) l).length : Nat) : Int)), (6, .int .i64 (j : Int)), (1, .int .i64 (K : Int)), (0, .slice A l.length c)] a) l.length ⟨0, 0, by omega, by omega, hB, Nat.zero_le _, SubX.zero _ _ _, hS.only _ ⟨rfl, rfl, rfl, rfl, rfl, rfl, rfl, trivial⟩⟩ ?_
    clear hS 
    rintro mm a wl2 ⟨i, at_, hi2, rfl, hBb2, hatl, hsub, hS⟩
    have hV := hVb1.kept hBb2
    have hVh := hVhb1.kept hBb2
    have hB := Below.refl wl2.heap.size wl2
    have hVb2 := hV
    refine reg_seq ?_
    refine sI hS (runs_move rfl) fun _ hS => ?_
    refine sI hS (runs_move rfl) fun _ hS => ?_
    refine sI hS (runs_len rfl undVx) fun _ hS => ?_
    by_cases hlt2 : i < l.length
    · skip
      refine sI hS (lssT rfl rfl (by omega)) fun _ hS => ?_
      refine sI hS (runs_move rfl) fun _ hS => ?_
      refine sY hS (runs_move rfl) fun _ hS => ?_
      refine sY hS (runs_move rfl) fun _ hS => ?_
      refine sY hS (runs_len rfl undVx) fun _ hS => ?_
      by_cases hat : at_ < (ownX (K : Int) (j : Int) l).length
      · skip
        refine sY hS (lssT rfl rfl (by omega)) fun _ hS => ?_
        refine sI hS (runs_pick rfl rfl) fun _ hS => ?_
        refine nil_ok ⟨_, hS.eval rfl, fun h => by simp at h, fun _ => ?_⟩
        obtain ⟨x, hx⟩ : ∃ x, l[i]? = some x := ⟨l[i], by simp [hlt2]⟩
        obtain ⟨b, o, rfl, hbw, hr⟩ := verts_row hV (by omega)
        have hrx := verts_at hr hx
        obtain ⟨y, hy⟩ : ∃ y, (ownX (K : Int) (j : Int) l)[at_]? = some y := ⟨(ownX (K : Int) (j : Int) l)[at_], by simp [hat]⟩
        obtain ⟨bh, oh, rfl, hbh, hrh⟩ := verts_row hVh (by omega)
        have hry := verts_at hrh hy
        refine qx_seq (qx_block (qx_seq (reg_guard (fun w' => Below wl2.heap.size wl2 w') [.inl (.slice (some ⟨b, o, none⟩) l.length c), .inl (.int .i64 (i : Int)), .inl (.pointer (some ⟨b, o + i * 5, none⟩)), .inl (.agg (vc x).toArray), .inl (.slice (some ⟨bh, oh, none⟩) ((ownX (K : Int) (j : Int) l).length) ch), .inl (.int .i64 ((at_ : Nat) : Int)), .inl (.pointer (some ⟨bh, oh + at_ * 5, none⟩)), .inl (.agg (vc y).toArray), .inl (.bool (decide (x = y)))] 9 0 mixed rfl (by kernel_rfl) hS (Below.refl _ _) (fun _ h => h.drew) ?_)))
        refine hs_is rfl (fun w' hw => runs_move rfl) ?_
        refine hs_is rfl (fun w' hw => runs_move rfl) ?_
        refine hs_is rfl (fun w' hw => runs_indexAddrG (j := i) rfl rfl undVx sz28 rfl hlt2) ?_
        refine hs_is rfl (fun w' hw => runs_loadVx rfl (range_below hrx hw hbw)) ?_
        refine hs_is rfl (fun w' hw => runs_move rfl) ?_
        refine hs_is rfl (fun w' hw => runs_move rfl) ?_
        refine hs_is rfl (fun w' hw => runs_indexAddrG (j := at_) rfl rfl undVx sz28 rfl hat) ?_
        refine hs_is rfl (fun w' hw => runs_loadVx rfl (range_below hry hw hbh)) ?_
        refine hs_is rfl (fun w' hw => runs_eqV rfl rfl rfl) ?_
        refine (fun a15 w15 hS hB15 hq => ?_)
        clear hq
        have hB := hB.trans (hB15.mono hB.size)
        have hV := hVb2.kept hB
        refine wpAnyH_done (by kernel_rfl) ?_ _
        refine ?_
        by_cases hq : decide (x = y) = true
        · skip
          rw [hq] at hS
          refine wp_cond_true (hS.eval rfl) (reg_seq ?_)
          refine sI hS (runs_move rfl) fun _ hS => ?_
          refine sI hS (runs_add (r := ((at_ + 1 : Nat) : Int)) rfl rfl (by simp [IntKind.wrap, IntKind.bits, IntKind.signed]; omega)) fun _ hS => ?_
          refine sI hS (runs_assign rfl) fun _ hS => ?_
          refine nil_ok (reg_seq ?_)
          refine sI hS (runs_move rfl) fun _ hS => ?_
          refine sI hS (runs_add (r := ((i + 1 : Nat) : Int)) rfl rfl (by simp [IntKind.wrap, IntKind.bits, IntKind.signed]; omega)) fun _ hS => ?_
          refine sI hS (runs_assign rfl) fun _ hS => ?_
          exact nil_ok ⟨_, by omega, i + 1, at_ + 1, by omega, rfl, hBb2.trans (hB.mono hBb2.size), by omega, hsub.same hx (by rw [hy, of_decide_eq_true hq]), hS.only _ ⟨rfl, rfl, rfl, rfl, rfl, rfl, rfl, trivial⟩⟩
        · skip
          rw [Bool.eq_false_iff.2 hq] at hS
          refine wp_cond_false (hS.eval rfl) (wp_skip (reg_seq ?_))
          refine sI hS (runs_move rfl) fun _ hS => ?_
          refine sI hS (runs_add (r := ((i + 1 : Nat) : Int)) rfl rfl (by simp [IntKind.wrap, IntKind.bits, IntKind.signed]; omega)) fun _ hS => ?_
          refine sI hS (runs_assign rfl) fun _ hS => ?_
          exact nil_ok ⟨_, by omega, i + 1, at_, by omega, rfl, hBb2.trans (hB.mono hBb2.size), by omega, hsub.other hx hy (fun e => hq (by simp [e])), hS.only _ ⟨rfl, rfl, rfl, rfl, rfl, rfl, rfl, trivial⟩⟩
      refine sY hS (lssF rfl rfl (by omega)) fun _ hS => ?_
      refine sI hS (runs_pick rfl rfl) fun _ hS => ?_
      have hdone := hsub.done (by omega) hi2
      refine nil_ok ⟨_, hS.eval rfl, fun _ => ?_, fun h => by simp at h⟩
      have hB := hBb2.trans (hB.mono hBb2.size)
      have hB := hBprer.trans (hB.mono hBprer.size)
      refine qx_seq (reg_seq ?_)
      refine sI hS (runs_move rfl) fun _ hS => ?_
      refine sI hS (runs_move rfl) fun _ hS => ?_
      refine sI hS (runs_len rfl undVx) fun _ hS => ?_
      refine sI hS (lssF rfl rfl (by omega)) fun _ hS => ?_
      refine nil_ok (wp_cond_false (hS.eval rfl) (wp_skip (reg_seq ?_)))
      refine sI hS (runs_move rfl) fun _ hS => ?_
      refine sI hS (runs_add (r := ((j + 1 : Nat) : Int)) rfl rfl (by simp [IntKind.wrap, IntKind.bits, IntKind.signed]; omega)) fun _ hS => ?_
      refine sI hS (runs_assign rfl) fun _ hS => ?_
      exact nil_ok ⟨_, by omega, j + 1, _, by omega, rfl, hBl1.trans (hB.mono hBl1.size), by rw [cntX_step, hnn], hS.only _ ⟨rfl, rfl, rfl, rfl, trivial⟩⟩
    refine sI hS (lssF rfl rfl (by omega)) fun _ hS => ?_
    refine sI hS (runs_move rfl) fun _ hS => ?_
    refine sN hS fun _ hS => ?_
    refine sN hS fun _ hS => ?_
    refine sN hS fun _ hS => ?_
    refine sN hS fun _ hS => ?_
    refine sI hS (runs_pick rfl rfl) fun _ hS => ?_
    have hdone := hsub.done (by omega) hi2
    refine nil_ok ⟨_, hS.eval rfl, fun _ => ?_, fun h => by simp at h⟩
    have hB := hBb2.trans (hB.mono hBb2.size)
    have hB := hBprer.trans (hB.mono hBprer.size)
    refine qx_seq (reg_seq ?_)
    refine sI hS (runs_move rfl) fun _ hS => ?_
    refine sI hS (runs_move rfl) fun _ hS => ?_
    refine sI hS (runs_len rfl undVx) fun _ hS => ?_
    refine sI hS (lssF rfl rfl (by omega)) fun _ hS => ?_
    refine nil_ok (wp_cond_false (hS.eval rfl) (wp_skip (reg_seq ?_)))
    refine sI hS (runs_move rfl) fun _ hS => ?_
    refine sI hS (runs_add (r := ((j + 1 : Nat) : Int)) rfl rfl (by simp [IntKind.wrap, IntKind.bits, IntKind.signed]; omega)) fun _ hS => ?_
    refine sI hS (runs_assign rfl) fun _ hS => ?_
    exact nil_ok ⟨_, by omega, j + 1, _, by omega, rfl, hBl1.trans (hB.mono hBl1.size), by rw [cntX_step, hnn], hS.only _ ⟨rfl, rfl, rfl, rfl, trivial⟩⟩
  refine sI hS (lssF rfl rfl (by omega)) fun _ hS => ?_
  obtain rfl : K = j := by omega
  refine nil_ok ⟨_, hS.eval rfl, fun _ => ?_, fun h => by simp at h⟩
  have hB := hBo1.trans ((hBl1.trans (hB.mono hBl1.size)).mono hBo1.size)
  refine qx_seq (reg_seq ?_)
  refine sI hS (runs_assign rfl) fun _ hS => ?_
  refine nil_ok (qx_seq (qx_seq (reg_seq ?_)))
  refine sI hS (runs_assign rfl) fun _ hS => ?_
  refine nil_ok (?_)
  have hBo1 := hB
  refine qx_for (fun mm a w' => ∃ (q : Nat) (od : Nat), q ≤ l.length ∧ mm = l.length - q ∧ Below wl1.heap.size wl1 w' ∧ od = oddX (l.take q) ∧ Sees 90 [(11, .int .i64 (q : Int)), (10, .int .i64 ((od : Nat) : Int)), (5, .int .i64 ((nn : Nat) : Int)), (0, .slice A l.length c)] a) l.length ⟨0, 0, by omega, by omega, Below.refl _ _, by simp [oddX], hS.only _ ⟨rfl, rfl, rfl, rfl, trivial⟩⟩ ?_
  clear hS
  rintro mm a wl1 ⟨q, od, hi1, rfl, hBl1, hod, hS⟩
  have hV := hV.kept hBl1
  have hB := Below.refl wl1.heap.size wl1
  refine reg_seq ?_
  refine sI hS (runs_move rfl) fun _ hS => ?_
  refine sI hS (runs_move rfl) fun _ hS => ?_
  refine sI hS (runs_len rfl undVx) fun _ hS => ?_
  by_cases hlt1 : q < l.length
  · skip
    refine sI hS (lssT rfl rfl (by omega)) fun _ hS => ?_
    refine nil_ok ⟨_, hS.eval rfl, fun h => by simp at h, fun _ => ?_⟩
    obtain ⟨x, hx⟩ : ∃ x, l[q]? = some x := ⟨l[q], by simp [hlt1]⟩
    obtain ⟨b, o, rfl, hbw, hr⟩ := verts_row hV (by omega)
    have hrx := verts_at hr hx
    have hodl : od ≤ l.length := by rw [hod]; exact Nat.le_trans (List.length_filter_le _ _) (List.length_take_le' _ _)
    refine qx_seq (qx_block (qx_seq (reg_seq ?_)))
    refine sI hS (runs_move rfl) fun _ hS => ?_
    refine sI hS (runs_move rfl) fun _ hS => ?_
    refine sI hS (runs_indexAddrG (j := q) rfl rfl undVx sz28 rfl hlt1) fun _ hS => ?_
    refine sI hS (runs_fieldK fo28_0 rfl) fun _ hS => ?_
    refine sI hS (runs_load rfl pl3 (hrx 0 (.int .i64 x.id) rfl)) fun _ hS => ?_
    by_cases hneg : x.id < 0
    · skip
      refine sI hS (lssT rfl rfl (by omega)) fun _ hS => ?_
      refine nil_ok (wp_cond_true (hS.eval rfl) (reg_seq ?_))
      refine sI hS (runs_move rfl) fun _ hS => ?_
      refine sI hS (runs_add (r := ((od + 1 : Nat) : Int)) rfl rfl (by simp [IntKind.wrap, IntKind.bits, IntKind.signed]; omega)) fun _ hS => ?_
      refine sI hS (runs_assign rfl) fun _ hS => ?_
      refine nil_ok (reg_seq ?_)
      refine sI hS (runs_move rfl) fun _ hS => ?_
      refine sI hS (runs_add (r := ((q + 1 : Nat) : Int)) rfl rfl (by simp [IntKind.wrap, IntKind.bits, IntKind.signed]; omega)) fun _ hS => ?_
      refine sI hS (runs_assign rfl) fun _ hS => ?_
      exact nil_ok ⟨_, by omega, q + 1, od + 1, by omega, rfl, hBl1.trans (hB.mono hBl1.size), by rw [oddX_step hx, if_pos hneg, hod], hS.only _ ⟨rfl, rfl, rfl, rfl, trivial⟩⟩
    refine sI hS (lssF rfl rfl (by omega)) fun _ hS => ?_
    refine nil_ok (wp_cond_false (hS.eval rfl) (wp_skip (reg_seq ?_)))
    refine sI hS (runs_move rfl) fun _ hS => ?_
    refine sI hS (runs_add (r := ((q + 1 : Nat) : Int)) rfl rfl (by simp [IntKind.wrap, IntKind.bits, IntKind.signed]; omega)) fun _ hS => ?_
    refine sI hS (runs_assign rfl) fun _ hS => ?_
    exact nil_ok ⟨_, by omega, q + 1, od, by omega, rfl, hBl1.trans (hB.mono hBl1.size), by rw [oddX_step hx, if_neg hneg, hod, Nat.add_zero], hS.only _ ⟨rfl, rfl, rfl, rfl, trivial⟩⟩
  refine sI hS (lssF rfl rfl (by omega)) fun _ hS => ?_
  obtain rfl : q = l.length := by omega
  refine nil_ok ⟨_, hS.eval rfl, fun _ => ?_, fun h => by simp at h⟩
  have hB := hBo1.trans ((hBl1.trans (hB.mono hBl1.size)).mono hBo1.size)
  rw [List.take_length] at hod
  refine qx_seq (?_)
  have hall := cntX_all (k := K) (by omega) (by omega) l
  refine reg_seq ?_
  refine sI hS (runs_move rfl) fun _ hS => ?_
  refine sI hS (runs_move rfl) fun _ hS => ?_
  refine sI hS (runs_add (r := ((nn + od : Nat) : Int)) rfl rfl (by simp [IntKind.wrap, IntKind.bits, IntKind.signed]; omega)) fun _ hS => ?_
  refine sI hS (runs_move rfl) fun _ hS => ?_
  refine sI hS (runs_len rfl undVx) fun _ hS => ?_
  refine sI hS (runs_eql (r := true) rfl rfl (by simp; omega)) fun _ hS => ?_
  refine sI hS (runs_assign rfl) fun _ hS => ?_
  exact nil_ok (qx_ret (ret1 (t := 4) (by kernel_rfl) hS rfl ⟨_, rfl, rfl, hB⟩))
end Go.Proofs.YtbcmglggplmkfaaDoor
