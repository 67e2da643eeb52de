/- Layer 5: edges that are picked, in order: Norm, Out, In. Conditions: none of our own. -/
import Derived.Test.YtapcpmalgdhakaaGreatGSort
import Derived.Test.YtapcpmalgdhakaaGreatGTwice
namespace Go.Proofs.YtapcpmalgdhakaaGreat
open Go.RowKit
set_option maxRecDepth 100000

theorem goes78 : Goes Tryz.prog 78 := goes_of Tryz.func78 (by kernel_rfl) rfl
theorem goes79 : Goes Tryz.prog 79 := goes_of Tryz.func79 (by kernel_rfl) rfl
theorem goes62 : Goes Tryz.prog 62 := goes_of Tryz.func62 (by kernel_rfl) rfl
set_option maxHeartbeats 1000000 in
theorem picked_any (es : List E) (hsm : es.length ≤ 512) (ha : es.Pairwise Apart) (v : Value) (k : FuncId) (hk : Goes Tryz.prog k) (caps : List Value) (p : E → Bool) (w : World) (hE : Edges w v es) (hp : ∀ e w1, Below w.heap.size w w1 → Ans k ([.agg (encE e).toArray] ++ caps) w1 (fun u w2 => u = .bool (p e) ∧ Below w1.heap.size w1 w2)) : Ans 78 [v, .func (.func k) #[] caps.toArray] w (fun u w' => Below w.heap.size w w' ∧ ∃ l : List E, l.Perm (es.filter p) ∧ l.Pairwise ltE ∧ EdgesB w.heap.size w' u l) := by
  have hE0 := hE
  obtain ⟨A, c, rfl, h1, h2, hA⟩ := hE
  unfold maxLen at h2
  obtain ⟨i45, hi45, hz45, hs45, hb45⟩ := info_parts inf45
  refine calls_qx (args := [.slice A es.length c, .func (.func k) #[] caps.toArray]) 25 Tryz.func78 rfl (by kernel_rfl) (by simp) (fun a hS => ?_)
  refine qx_seq (reg_seq ?_)
  refine seq_is hS (by decide) (runs_assign rfl) (fun a1 hS => ?_)
  refine nil_ok (qx_seq (reg_seq ?_))
  refine seq_is hS (by decide) (runs_assign rfl) (fun a1 hS => ?_)
  refine nil_ok (qx_seq (qx_seq (reg_seq ?_)))
  refine seq_is hS (by decide) (runs_move rfl) (fun a1 hS => ?_)
  refine seq_is hS (by decide) (runs_len rfl und22) (fun a1 hS => ?_)
  refine seq_is hS (by decide) (runs_move rfl) (fun a1 hS => ?_)
  refine nil_ok (qx_range (fun m a w' => ∃ (i : Nat) (sv : Value), i ≤ es.length ∧ m = es.length - i ∧ Below w.heap.size w w' ∧ w'.ownsRow w.heap.size 48 3 sv ((es.take i).filter p).length (cellsE ((es.take i).filter p)) ∧ Sees 25 [(10, .int .i64 (i : Int)), (9, .int .i64 ((es.length : Nat) : Int)), (8, .slice A es.length c), (5, sv), (1, .func (.func k) #[] caps.toArray)] a) es.length ⟨0, .slice none 0 0, by omega, by omega, Below.refl _ _, ⟨rfl, .inl ⟨rfl, rfl⟩⟩, hS.only _ ⟨rfl, rfl, rfl, rfl, rfl, trivial⟩⟩ ?_)
  rintro m a w' ⟨i, sv, hi, rfl, hB, hown, hS⟩
  refine reg_seq ?_
  by_cases hlt : i < es.length
  · skip
    obtain ⟨b, o, rfl, hb, hr⟩ := hA (by omega)
    obtain ⟨e, he⟩ : ∃ e, es[i]? = some e := ⟨_, List.getElem?_eq_getElem hlt⟩
    have hre := range_below (edges_at hr he) hB hb
    have hfl : ((es.take i).filter p).length ≤ i := Nat.le_trans (List.length_filter_le _ _) (by simp; omega)
    refine seq_is hS (by decide) (runs_lss (r := true) rfl rfl (by rw [decide_eq_true_eq]; omega)) (fun a1 hS => ?_)
    refine nil_ok ⟨_, hS.eval rfl, fun h => by simp at h, fun _ => ?_⟩
    refine qx_seq (qx_block (qx_seq (reg_seq ?_)))
    refine seq_is hS (by decide) (runs_indexAddrG (j := i) rfl rfl und22 siz45 rfl hlt) (fun a1 hS => ?_)
    refine seq_is hS (by decide) (runs_loadE rfl hre) (fun a1 hS => ?_)
    refine seq_op hS (by decide) (runs_alloc45) (fun v2 wa2 a1 hp1 hS => ?_)
    obtain ⟨rfl, hwa2⟩ := hp1
    refine seq_none hS (runs_store45 rfl rfl (by rw [hwa2]; exact Has.new w' 48 [.int .i64 0, .int .i64 0, .int .i64 0]) rfl) (fun v2 w2 a1 hp1 hS => ?_)
    obtain ⟨rfl, hwb2⟩ := hp1
    obtain ⟨hE2, hB2⟩ : Has w2 w'.heap.size 48 (encE e) ∧ Below w'.heap.size w' w2 := by rw [hwb2, hwa2]; exact new_row w' 48 [.int .i64 0, .int .i64 0, .int .i64 0] (encE e)
    clear hwb2 hwa2
    have hown := owns_kept hown hB2
    have hB : Below w.heap.size w w2 := hB.trans (hB2.mono hB.size)
    generalize w'.heap.size = ge at *
    refine nil_ok (qx_seq (reg_seq ?_))
    refine seq_is hS (by decide) (runs_move rfl) (fun a1 hS => ?_)
    refine seq_is hS (by decide) (runs_loadB rfl hE2) (fun a1 hS => ?_)
    refine seq_op hS (by decide) (runs_callv (args := [.agg (encE e).toArray]) (caps := caps) hk rfl rfl (hp e w2 hB)) (fun v3 w3 a3 hp3 hS => ?_)
    obtain ⟨rfl, hB3⟩ := hp3
    have hE2 := hE2.below hB3 hE2.lt
    have hown := owns_kept hown hB3
    have hB := hB.trans (hB3.mono hB.size)
    cases hpe : p e with
    | true =>
      rw [hpe] at hS
      refine nil_ok (wp_cond_true (hS.eval rfl) (reg_seq ?_))
      refine seq_is hS (by decide) (runs_move rfl) (fun a1 hS => ?_)
      refine seq_is hS (by decide) (runs_loadB rfl hE2) (fun a1 hS => ?_)
      refine seq_op hS (by decide) (runs_buildSliceG (sz := 3) (pv := [(0, .agg (encE e).toArray)]) rfl und22 hi45 hz45 hs45 (by omega) (by omega) (cells := (encE e).toArray) (by kernel_rfl)) (fun v4 w4 a4 hp4 hS => ?_)
      obtain ⟨rfl, hw4⟩ := hp4
      obtain ⟨hX, hB4⟩ : Has w4 w3.heap.size 48 (encE e) ∧ Below w3.heap.size w3 w4 := by rw [hw4]; exact new_box w3 48 _
      clear hw4
      have hown := owns_kept hown hB4
      have hB := hB.trans (hB4.mono hB.size)
      generalize w3.heap.size = gx at *
      refine seq_op hS (by decide) (runs_appendN (news := encE e) und22 hi45 hz45 hs45 hb45 rfl (by omega) rfl hown rfl rfl (fun j u hj => by rw [add_zero_addr, Nat.zero_add, hX.cell]; exact hj) (by simp [encE, Value.oneCell']) (by unfold maxLen; omega) (by omega) hB.size (by omega)) (fun v5 w5 a5 hp5 hS => ?_)
      obtain ⟨hown5, hgr5, hne5⟩ := hp5
      have hB := below_grown hB hgr5 (fun g hg => by rcases hown.2 with ⟨rfl, _⟩ | ⟨g0, cap, _, rfl, hg0, _⟩ <;> simp [Value.ownBlock] at hg; omega) hB.size
      refine seq_is hS (by decide) (runs_assign rfl) (fun a1 hS => ?_)
      refine nil_ok (reg_seq ?_)
      refine seq_is hS (by decide) (runs_add (r := ((i + 1 : Nat) : Int)) rfl rfl (by simp [IntKind.wrap, IntKind.bits, IntKind.signed]; omega)) (fun a1 hS => ?_)
      refine seq_is hS (by decide) (runs_move rfl) (fun a1 hS => ?_)
      refine nil_ok ⟨_, by omega, i + 1, v5, by omega, rfl, hB, ?_, hS.only _ ⟨rfl, rfl, rfl, rfl, rfl, trivial⟩⟩
      rw [show (es.take (i + 1)).filter p = (es.take i).filter p ++ [e] by rw [List.take_add_one, he, List.filter_append]; simp [hpe], cellsE_append, cellsE_one, List.length_append]
      exact hown5
    | false =>
      rw [hpe] at hS
      refine nil_ok (wp_cond_false (hS.eval rfl) (wp_skip (reg_seq ?_)))
      refine seq_is hS (by decide) (runs_add (r := ((i + 1 : Nat) : Int)) rfl rfl (by simp [IntKind.wrap, IntKind.bits, IntKind.signed]; omega)) (fun a1 hS => ?_)
      refine seq_is hS (by decide) (runs_move rfl) (fun a1 hS => ?_)
      refine nil_ok ⟨_, by omega, i + 1, sv, by omega, rfl, hB, ?_, hS.only _ ⟨rfl, rfl, rfl, rfl, rfl, trivial⟩⟩
      rw [show (es.take (i + 1)).filter p = (es.take i).filter p by rw [List.take_add_one, he, List.filter_append]; simp [hpe]]
      exact hown
  · skip
    refine seq_is hS (by decide) (runs_lss (r := false) rfl rfl (by rw [decide_eq_false_iff_not]; omega)) (fun a1 hS => ?_)
    rw [List.take_of_length_le (by omega)] at hown
    refine nil_ok ⟨_, hS.eval rfl, fun _ => ?_, fun h => by simp at h⟩
    refine qx_seq (reg_seq ?_)
    refine seq_is hS (by decide) (runs_move rfl) (fun a1 hS => ?_)
    refine seq_op hS (by decide) (runs_call (args := [sv, .func (.func 93) #[] #[]]) goes92 rfl (sort_any (es.filter p) (Nat.le_trans (List.length_filter_le _ _) hsm) (ha.filter p) w.heap.size sv w' hown)) (fun v6 w6 a6 hp6 hS => ?_)
    obtain ⟨hB6, l, hl1, hl2, hl3⟩ := hp6
    have hB := hB.trans hB6
    refine nil_ok (qx_seq (reg_seq ?_))
    refine seq_is hS (by decide) (runs_move rfl) (fun a1 hS => ?_)
    refine seq_is hS (by decide) (runs_assign rfl) (fun a1 hS => ?_)
    exact nil_ok (qx_ret (ret1 (t := 4) (by kernel_rfl) hS rfl ⟨_, rfl, hB, l, hl1, hl2, hl3⟩))
set_option maxHeartbeats 1000000 in
theorem out1_any (e : E) (x : Int) (g : Nat) (w : World) (hG : Has w g 3 [.int .i64 x]) : Ans 79 [.agg (encE e).toArray, .pointer (some ⟨g, 0, none⟩)] w (fun u w' => u = .bool (e.1 == x) ∧ Below w.heap.size w w') := by
  refine calls_qx (args := [.agg (encE e).toArray, .pointer (some ⟨g, 0, none⟩)]) 8 Tryz.func79 rfl (by kernel_rfl) (by simp) (fun a hS => ?_)
  refine qx_seq (reg_seq ?_)
  refine seq_op hS (by decide) (runs_box rfl) (fun v1 w1 a1 hp1 hS => ?_)
  obtain ⟨rfl, hw1⟩ := hp1
  obtain ⟨hE, hB1⟩ : Has w1 w.heap.size 48 (encE e) ∧ Below w.heap.size w w1 := by rw [hw1]; exact new_box w 48 (encE e)
  clear hw1
  have hG := hG.below hB1 hG.lt
  refine seq_is hS (by decide) (runs_assign rfl) (fun a1 hS => ?_)
  refine nil_ok (qx_seq (reg_seq ?_))
  refine seq_is hS (by decide) (runs_f45 (by decide) rfl) (fun a1 hS => ?_)
  refine seq_is hS (by decide) (runs_load0 rfl hE) (fun a1 hS => ?_)
  refine seq_is hS (by decide) (runs_load rfl und_plain3 (by rw [hG.cell]; rfl)) (fun a1 hS => ?_)
  refine seq_is hS (by decide) (runs_eql rfl rfl rfl) (fun a1 hS => ?_)
  refine seq_is hS (by decide) (runs_assign rfl) (fun a1 hS => ?_)
  exact nil_ok (qx_ret (ret1 (t := 3) (by kernel_rfl) hS rfl ⟨_, rfl, rfl, hB1⟩))
set_option maxHeartbeats 1000000 in
theorem out_any (n : Int) (x : Int) (es : List E) (v : Value) (w : World) (hE : Edges w v es) : Ans 62 [gv n v, .int .i64 x] w (fun u w' => Below w.heap.size w w' ∧ EdgesB w.heap.size w' u (if checkZ n es = 0 then (normL n.toNat es).filter (fun e => e.1 == x) else [])) := by
  have hE0 := hE
  obtain ⟨A, c, rfl, h1, h2, hA⟩ := hE
  refine calls_qx (args := [gv n (.slice A es.length c), .int .i64 x]) 12 Tryz.func62 rfl (by kernel_rfl) (by simp) (fun a hS => ?_)
  refine qx_seq (reg_seq ?_)
  refine seq_op hS (by decide) (runs_box rfl) (fun v1 w1 a1 hp1 hS => ?_)
  obtain ⟨rfl, hw1⟩ := hp1
  obtain ⟨hG, hB1⟩ : Has w1 w.heap.size 24 [.int .i64 n, .slice A es.length c] ∧ Below w.heap.size w w1 := by rw [hw1]; exact new_box w 24 [.int .i64 n, .slice A es.length c]
  clear hw1
  have hE := hE0.kept hB1
  refine seq_op hS (by decide) (runs_box rfl) (fun v2 w2 a2 hp2 hS => ?_)
  obtain ⟨rfl, hw2⟩ := hp2
  obtain ⟨hX, hB2⟩ : Has w2 w1.heap.size 3 [.int .i64 x] ∧ Below w1.heap.size w1 w2 := by rw [hw2]; exact new_box w1 3 [.int .i64 x]
  clear hw2
  have hG := hG.below hB2 hG.lt
  have hE := hE.kept hB2
  have hB := hB1.trans (hB2.mono hB1.size)
  generalize hg0 : w.heap.size = g0 at *
  generalize w1.heap.size = gx at *
  refine seq_is hS (by decide) (runs_assign rfl) (fun a1 hS => ?_)
  refine nil_ok (qx_seq (qx_seq (reg_seq ?_)))
  refine seq_is hS (by decide) (runs_loadG rfl hG) (fun a1 hS => ?_)
  refine seq_op hS (by decide) (runs_call (args := [gv n (.slice A es.length c)]) goes39 rfl (check_any n es _ w2 hE)) (fun v3 w3 a3 hp3 hS => ?_)
  obtain ⟨rfl, hB3⟩ := hp3
  have hG := hG.below hB3 hG.lt
  have hX := hX.below hB3 hX.lt
  have hE := hE.kept hB3
  have hB := hB.trans (hB3.mono (by have := hB.size; omega))
  by_cases hc : checkZ n es = 0
  · skip
    refine seq_is hS (by decide) (runs_neq (r := false) rfl rfl (by simp [hc])) (fun a1 hS => ?_)
    obtain ⟨hcf, hct⟩ := check_zero hc
    have hcl := ((formed_iff n es).1 hcf).2.2.1
    refine nil_ok (wp_cond_false (hS.eval rfl) (wp_skip (qx_seq (reg_seq ?_))))
    refine seq_is hS (by decide) (runs_f24 (by decide) rfl) (fun a1 hS => ?_)
    refine seq_is hS (by decide) (runs_loadV rfl hG) (fun a1 hS => ?_)
    refine seq_is hS (by decide) (runs_makeFunc (cs := [.pointer (some ⟨gx, 0, none⟩)]) rfl) (fun a1 hS => ?_)
    refine seq_op hS (by decide) (runs_call (args := [.slice A es.length c, .func (.func 79) #[] #[.pointer (some ⟨gx, 0, none⟩)]]) goes78 rfl (picked_any es hcl ((twice_iff es).1 hct) _ 79 goes79 [.pointer (some ⟨gx, 0, none⟩)] (fun e => e.1 == x) w3 hE (fun e w5 h5 => out1_any e x gx w5 (hX.below h5 hX.lt)))) (fun v4 w4 a4 hp4 hS => ?_)
    obtain ⟨hB4, l, hl1, hl2, hl3⟩ := hp4
    have hB0 := hB.size
    have hB := hB.trans (hB4.mono (by have := hB.size; omega))
    refine seq_is hS (by decide) (runs_assign rfl) (fun a1 hS => ?_)
    obtain ⟨kn, rfl, _, _, _⟩ := norm_small hc
    exact nil_ok (qx_ret (ret1 (t := 4) (by kernel_rfl) hS rfl ⟨_, rfl, hB, by rw [if_pos hc, show ((kn : Int)).toNat = kn from rfl, ← pick_is (fun e => e.1 == x) hc hl1 hl2]; exact hl3.mono (by omega)⟩))
  · skip
    refine seq_is hS (by decide) (runs_neq (r := true) rfl rfl (by simp [hc])) (fun a1 hS => ?_)
    refine nil_ok (wp_cond_true (hS.eval rfl) (qx_seq (reg_seq ?_)))
    refine seq_is hS (by decide) (runs_assign rfl) (fun a1 hS => ?_)
    exact nil_ok (qx_ret (ret1 (t := 4) (by kernel_rfl) hS rfl ⟨_, rfl, hB, by rw [if_neg hc]; exact edgesB_nil _ _⟩))
end Go.Proofs.YtapcpmalgdhakaaGreat
