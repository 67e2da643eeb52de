/- Layer 10: Get. Conditions: none of our own. -/
import Derived.Test.YtbcmglggplmkfaaDoorYPut
import Derived.Test.YtbcmglggplmkfaaDoorYNum
import Derived.Test.YtbcmglggplmkfaaDoorYMath
namespace Go.Proofs.YtbcmglggplmkfaaDoor
open Go.RowKit
set_option maxRecDepth 100000

theorem rdn_end {s : ByteArray} : (endOf (rdn 5 s 0).2.1 (rdn 5 s 0).2.2 ≠ 0 → getX (bl s) = (noVx, endOf (rdn 5 s 0).2.1 (rdn 5 s 0).2.2)) ∧ (endOf (rdn 5 s 0).2.1 (rdn 5 s 0).2.2 = 0 → rdk 5 (bl s) = ((rdn 5 s 0).1, [], 0)) := by
  obtain ⟨h1, h2⟩ := rdn_rdk 5 s
  by_cases h : (rdk 5 (bl s)).2.2 = 0
  · obtain ⟨a, b, c⟩ := h1 h
    have hl : (bl (rdn 5 s 0).2.1).length = (rdn 5 s 0).2.1.size := bl_length _
    unfold endOf
    rw [c]
    by_cases hz : 0 < (rdn 5 s 0).2.1.size
    · rw [if_pos ⟨rfl, hz⟩]
      refine ⟨fun _ => getX_more h (fun e => ?_), fun e => by cases e⟩
      rw [← b] at e; rw [e] at hl; simp at hl; omega
    · rw [if_neg (fun e => hz e.2)]
      refine ⟨fun e => absurd rfl e, fun _ => ?_⟩
      have e : bl (rdn 5 s 0).2.1 = [] := List.length_eq_zero_iff.1 (by omega)
      rw [b] at e
      rw [a, ← e, ← h]
  · have e := h2 h
    have e2 : endOf (rdn 5 s 0).2.1 (rdn 5 s 0).2.2 = (rdk 5 (bl s)).2.2 := by unfold endOf; rw [e, if_neg (fun x => h x.1)]
    rw [e2]
    exact ⟨fun _ => getX_err rfl h, fun x => absurd x h⟩
/-- The vertex that the five numbers are taken for. -/
def takenX (n0 n1 n2 n3 n4 : Nat) : Vx := ⟨sgX n0, Wire.unfold_ n1, decide (sgX n2 = 1), decide (sgX n3 = 1), Wire.unfold_ n4⟩
theorem taken_ok {s : ByteArray} {n0 n1 n2 n3 n4 : Nat} (h : rdk 5 (bl s) = ([n0, n1, n2, n3, n4], [], 0)) (hp : putX (takenX n0 n1 n2 n3 n4) = s) : getX (bl s) = (takenX n0 n1 n2 n3 n4, 0) := by
  have hne : bl s ≠ [] := fun e => by rw [e] at h; revert h; simp [rdk, Wire.rd, Wire.rdFrom]
  by_cases hr : rightX (takenX n0 n1 n2 n3 n4) = true
  · have hb : bl s = bytesX (takenX n0 n1 n2 n3 n4) := by rw [← hp]; unfold putX; rw [if_pos hr, bl_S (bytesX_lt _)]
    rw [hb]; exact getX_bytes hr
  · exfalso; apply hne; rw [← hp]; unfold putX; rw [if_neg hr]; rfl
theorem taken_bad {s : ByteArray} {n0 n1 n2 n3 n4 : Nat} (h : rdk 5 (bl s) = ([n0, n1, n2, n3, n4], [], 0)) (hp : putX (takenX n0 n1 n2 n3 n4) ≠ s) : getX (bl s) = (noVx, 100) := by
  refine getX_form h ?_
  rw [Bool.eq_false_iff]
  intro hf
  apply hp
  have hg := getX_ok h hf
  have hpt : n0 ≤ 63 ∧ n2 ≤ 1 ∧ n3 ≤ 1 := by
    simp [formX] at hf; omega
  have he : takenX n0 n1 n2 n3 n4 = ofX [n0, n1, n2, n3, n4] := by
    simp only [takenX, ofX, List.getD_cons_zero, List.getD_cons_succ]
    rw [sgX_small (by omega), sgX_small (by omega), sgX_small (by omega)]
    congr 1
    · rw [decide_eq_decide]; omega
    · rw [decide_eq_decide]; omega
  obtain ⟨b1, b2⟩ := getX_back (bl_bytes s) (show (getX (bl s)).2 = 0 by rw [hg])
  rw [hg] at b1 b2
  rw [he]
  unfold putX
  rw [if_pos b1, b2, S_bl]
set_option maxHeartbeats 1000000 in
theorem sget_any (s : ByteArray) (w : World) : Ans 14 [.string s] w (fun u w' => u = .tuple #[vv (getX (bl s)).1, .int .i64 ((getX (bl s)).2 : Int)] ∧ Below w.heap.size w w') := by
  refine calls_qx (args := [.string s]) 41 Tryd.func14 rfl (by kernel_rfl) (by simp) (fun a hS => ?_)
  have hB := Below.refl w.heap.size w
  refine qx_seq (reg_seq ?_)
  refine seq_op hS (by decide) (runs_allocB (cs := [.int .i64 0, .int .i64 0, .bool false, .bool false, .int .i64 0]) zo28 rfl) (fun v1 w1 a1 hp hS => ?_)
  obtain ⟨rfl, hM1, hB1⟩ := hp
  have hB := hB.trans (hB1.mono hB.size)
  refine sI hS (runs_assign rfl) fun _ hS => ?_
  refine nil_ok (qx_seq (?_))
  have hBpre0 := hB
  have hB := Below.refl w1.heap.size w1
  have hM1b := hM1
  refine reg_seq ?_
  refine sI hS (runs_move rfl) fun _ hS => ?_
  refine seq_op hS (by decide) (runs_fvsX) (fun v3 w3 a1 hp hS => ?_)
  obtain ⟨gf, rfl, hF, hB3⟩ := hp
  have hB := hB.trans (hB3.mono hB.size)
  have hM1 := hM1b.below hB hM1b.lt
  refine seq_op hS (by decide) (runs_call (args := [.string s, .slice (some ⟨gf, 0, none⟩) 5 5]) goes33 rfl (numbers_any s gf w3 hF)) (fun v5 w5 a1 hp hS => ?_)
  obtain ⟨nv, rfl, hown, hB5⟩ := hp
  obtain ⟨gr, cr, rfl, _, hgr, hR⟩ := owns_rowK hown (by omega)
  have hB := hB.trans (hB5.mono hB.size)
  have hM1 := hM1b.below hB hM1b.lt
  refine sI hS (runs_move rfl) fun _ hS => ?_
  refine sI hS (runs_extract rfl rfl) fun _ hS => ?_
  refine sI hS (runs_extract rfl rfl) fun _ hS => ?_
  refine sI hS (runs_assign rfl) fun _ hS => ?_
  refine sI hS (runs_assign rfl) fun _ hS => ?_
  refine nil_ok (qx_seq (qx_seq (?_)))
  have hge := rdn_end (s := s)
  obtain ⟨n0, n1, n2, n3, n4, hn5⟩ := five (rdn_length 5 s 0)
  rw [hn5] at hge hR
  refine reg_seq ?_
  refine sI hS (runs_move rfl) fun _ hS => ?_
  by_cases he : endOf (rdn 5 s 0).2.1 (rdn 5 s 0).2.2 ≠ 0
  · skip
    refine sI hS (runs_neq (r := true) rfl rfl (by simpa using he)) fun _ hS => ?_
    refine nil_ok (wp_cond_true (hS.eval rfl) (qx_seq (reg_seq ?_)))
    refine sI hS (runs_buildK (pv := []) (cells := #[.int .i64 0, .int .i64 0, .bool false, .bool false, .int .i64 0]) rfl (by kernel_rfl)) fun _ hS => ?_
    refine sI hS (runs_move rfl) fun _ hS => ?_
    refine seq_none hS (runs_storeB (cs := [.int .i64 0, .int .i64 0, .bool false, .bool false, .int .i64 0]) rfl rfl hM1 rfl rfl sz28) (fun v7 w7 a1 hp hS => ?_)
    obtain ⟨hM1, hU7⟩ := hp
    have hT := But.new (hBpre0.trans (hB.mono hBpre0.size)) hU7 (fun i e => by rw [e]; exact Nat.le_refl _) (Nat.le_refl _)
    refine sI hS (runs_assign rfl) fun _ hS => ?_
    have hfin := hge.1 he
    exact nil_ok (qx_ret (retRow2 (p := 2) (t := 3) (ty := 23) (by kernel_rfl) hS rfl rfl hM1 Tryd.underlying23 rfl (by rw [sz28]; rfl) ⟨_, rfl, by rw [hfin]; rfl, hT⟩))
  refine sI hS (runs_neq (r := false) rfl rfl (by simpa using he)) fun _ hS => ?_
  refine nil_ok (wp_cond_false (hS.eval rfl) (wp_skip (qx_seq (?_))))
  have hBpre4 := hB
  replace he := Classical.not_not.1 he
  refine reg_guard (fun w' => Below w5.heap.size w5 w') [.inl (.slice (some ⟨gr, 0, none⟩) 5 cr), .inl (.pointer (some ⟨gr, 0 + 0 * 1, none⟩)), .inl (.int .i64 (sgX n0)), .inl (.slice (some ⟨gr, 0, none⟩) 5 cr), .inl (.pointer (some ⟨gr, 0 + 1 * 1, none⟩)), .inl (.int .i64 (Wire.unfold_ n1)), .inl (.slice (some ⟨gr, 0, none⟩) 5 cr), .inl (.pointer (some ⟨gr, 0 + 2 * 1, none⟩)), .inl (.int .i64 (sgX n2)), .inl (.bool (decide (sgX n2 = 1))), .inl (.slice (some ⟨gr, 0, none⟩) 5 cr), .inl (.pointer (some ⟨gr, 0 + 3 * 1, none⟩)), .inl (.int .i64 (sgX n3)), .inl (.bool (decide (sgX n3 = 1))), .inl (.slice (some ⟨gr, 0, none⟩) 5 cr), .inl (.pointer (some ⟨gr, 0 + 4 * 1, none⟩)), .inl (.int .i64 (Wire.unfold_ n4)), .inl (.agg #[.int .i64 (sgX n0), .int .i64 (Wire.unfold_ n1), .bool (decide (sgX n2 = 1)), .bool (decide (sgX n3 = 1)), .int .i64 (Wire.unfold_ n4)]), .inr (fun v w' => ∃ g, v = .pointer (some ⟨g, 0, none⟩) ∧ w5.heap.size ≤ g ∧ Has w' g 23 [.int .i64 0, .int .i64 0, .bool false, .bool false, .int .i64 0])] 19 1 mixed rfl (by kernel_rfl) hS (Below.refl _ _) (fun _ h => h.drew) ?_
  refine hs_is rfl (fun w' hw => runs_move rfl) ?_
  refine hs_is rfl (fun w' hw => runs_indexAddrG (j := 0) rfl rfl undI64s s1_2n rfl (by omega)) ?_
  refine hs_is rfl (fun w' hw => runs_load rfl pl2n ((range_below hR hw hgr) 0 (.int .i64 (sgX n0)) rfl)) ?_
  refine hs_is rfl (fun w' hw => runs_move rfl) ?_
  refine hs_is rfl (fun w' hw => runs_indexAddrG (j := 1) rfl rfl undI64s s1_2n rfl (by omega)) ?_
  refine hs_is rfl (fun w' hw => runs_load rfl pl2n ((range_below hR hw hgr) 1 (.int .i64 (Wire.unfold_ n1)) rfl)) ?_
  refine hs_is rfl (fun w' hw => runs_move rfl) ?_
  refine hs_is rfl (fun w' hw => runs_indexAddrG (j := 2) rfl rfl undI64s s1_2n rfl (by omega)) ?_
  refine hs_is rfl (fun w' hw => runs_load rfl pl2n ((range_below hR hw hgr) 2 (.int .i64 (sgX n2)) rfl)) ?_
  refine hs_is rfl (fun w' hw => runs_eql rfl rfl (by by_cases h : sgX n2 = 1 <;> simp [h])) ?_
  refine hs_is rfl (fun w' hw => runs_move rfl) ?_
  refine hs_is rfl (fun w' hw => runs_indexAddrG (j := 3) rfl rfl undI64s s1_2n rfl (by omega)) ?_
  refine hs_is rfl (fun w' hw => runs_load rfl pl2n ((range_below hR hw hgr) 3 (.int .i64 (sgX n3)) rfl)) ?_
  refine hs_is rfl (fun w' hw => runs_eql rfl rfl (by by_cases h : sgX n3 = 1 <;> simp [h])) ?_
  refine hs_is rfl (fun w' hw => runs_move rfl) ?_
  refine hs_is rfl (fun w' hw => runs_indexAddrG (j := 4) rfl rfl undI64s s1_2n rfl (by omega)) ?_
  refine hs_is rfl (fun w' hw => runs_load rfl pl2n ((range_below hR hw hgr) 4 (.int .i64 (Wire.unfold_ n4)) rfl)) ?_
  refine hs_is rfl (fun w' hw => runs_buildK (pv := [(0, .int .i64 (sgX n0)), (1, .int .i64 (Wire.unfold_ n1)), (2, .bool (decide (sgX n2 = 1))), (3, .bool (decide (sgX n3 = 1))), (4, .int .i64 (Wire.unfold_ n4))]) (cells := #[.int .i64 (sgX n0), .int .i64 (Wire.unfold_ n1), .bool (decide (sgX n2 = 1)), .bool (decide (sgX n3 = 1)), .int .i64 (Wire.unfold_ n4)]) rfl (by kernel_rfl)) ?_
  refine hs_pr rfl (fun _ _ _ h k => by obtain ⟨g, e, h1, h2⟩ := h; exact ⟨g, e, h1, h2.below k h2.lt⟩) (fun w' hw hq => (runs_allocB (cs := [.int .i64 0, .int .i64 0, .bool false, .bool false, .int .i64 0]) zo28 rfl).mono (by rintro v w5 ⟨rfl, h2, h3⟩; exact ⟨⟨_, rfl, hw.size, h2⟩, hw.trans (h3.mono hw.size), h3⟩)) (fun p18 => ?_)
  refine (fun a8 w8 hS hB8 hq => ?_)
  obtain ⟨g9, rfl, hL9, h9⟩ := (hq (18, _) List.mem_cons_self)
  have hM9 := h9
  clear hq
  have hB := hB.trans (hB8.mono hB.size)
  have hM1 := hM1b.below hB hM1b.lt
  have hL9b := Nat.le_trans hBpre4.size hL9
  refine tail_none 19 (by kernel_rfl) rfl hS (runs_storeB (cs := [.int .i64 (sgX n0), .int .i64 (Wire.unfold_ n1), .bool (decide (sgX n2 = 1)), .bool (decide (sgX n3 = 1)), .int .i64 (Wire.unfold_ n4)]) rfl rfl hM9 rfl rfl sz28) (fun v10 w10 a10 hp hS => ⟨trivial, ?_⟩)
  obtain ⟨hM9, hU9⟩ := hp
  have hS9 := But.new hB hU9 (fun i e => by rw [e]; exact hL9b) (Nat.le_refl _)
  have hB := hS9
  have hM1 := hM1b.below hB hM1b.lt
  refine wpAnyH_done (by kernel_rfl) ?_ _
  refine qx_seq (qx_seq (reg_seq ?_))
  refine sI hS (runs_loadRow rfl hM9 Tryd.underlying23 rfl (by rw [sz28]; rfl)) fun _ hS => ?_
  refine seq_op hS (by decide) (runs_call (args := [.agg (vc (takenX n0 n1 n2 n3 n4)).toArray]) goes9 rfl (sput_any (takenX n0 n1 n2 n3 n4) w10)) (fun v11 w11 a1 hp hS => ?_)
  obtain ⟨rfl, hB11⟩ := hp
  have hB := hB.trans (hB11.mono hB.size)
  have hM1 := hM1b.below hB hM1b.lt
  have hM9 := hM9.below hB11 hM9.lt
  refine sI hS (runs_move rfl) fun _ hS => ?_
  by_cases hq : putX (takenX n0 n1 n2 n3 n4) ≠ s
  · skip
    refine sI hS (runs_neStr (r := true) rfl rfl (by simpa using fun e => hq (bl_inj e))) fun _ hS => ?_
    refine nil_ok (wp_cond_true (hS.eval rfl) (qx_seq (reg_seq ?_)))
    refine sI hS (runs_buildK (pv := []) (cells := #[.int .i64 0, .int .i64 0, .bool false, .bool false, .int .i64 0]) rfl (by kernel_rfl)) fun _ hS => ?_
    refine seq_none hS (runs_storeB (cs := [.int .i64 0, .int .i64 0, .bool false, .bool false, .int .i64 0]) rfl rfl hM1 rfl rfl sz28) (fun v13 w13 a1 hp hS => ?_)
    obtain ⟨hM1, hU13⟩ := hp
    have hT := But.new (hBpre0.trans (hB.mono hBpre0.size)) hU13 (fun i e => by rw [e]; exact Nat.le_refl _) (Nat.le_refl _)
    refine sI hS (runs_assign rfl) fun _ hS => ?_
    have hfin := taken_bad (hge.2 he) hq
    exact nil_ok (qx_ret (retRow2 (p := 2) (t := 3) (ty := 23) (by kernel_rfl) hS rfl rfl hM1 Tryd.underlying23 rfl (by rw [sz28]; rfl) ⟨_, rfl, by rw [hfin]; rfl, hT⟩))
  refine sI hS (runs_neStr (r := false) rfl rfl (by rw [Classical.not_not.1 hq]; simp)) fun _ hS => ?_
  refine nil_ok (wp_cond_false (hS.eval rfl) (wp_skip (qx_seq (reg_seq ?_))))
  refine sI hS (runs_loadRow rfl hM9 Tryd.underlying23 rfl (by rw [sz28]; rfl)) fun _ hS => ?_
  refine seq_none hS (runs_storeB (cs := vc (takenX n0 n1 n2 n3 n4)) rfl rfl hM1 rfl rfl sz28) (fun v14 w14 a1 hp hS => ?_)
  obtain ⟨hM1, hU14⟩ := hp
  have hT := But.new (hBpre0.trans (hB.mono hBpre0.size)) hU14 (fun i e => by rw [e]; exact Nat.le_refl _) (Nat.le_refl _)
  refine sI hS (runs_assign rfl) fun _ hS => ?_
  have hfin := taken_ok (hge.2 he) (Classical.not_not.1 hq)
  exact nil_ok (qx_ret (retRow2 (p := 2) (t := 3) (ty := 23) (by kernel_rfl) hS rfl rfl hM1 Tryd.underlying23 rfl (by rw [sz28]; rfl) ⟨_, rfl, by rw [hfin]; rfl, hT⟩))
end Go.Proofs.YtbcmglggplmkfaaDoor
