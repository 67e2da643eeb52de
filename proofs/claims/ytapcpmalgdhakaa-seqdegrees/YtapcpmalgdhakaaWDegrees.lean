/- modillionlaw09.SeqDegrees, walked. Conditions: none of our own. -/
import Derived.Test.YtapcpmalgdhakaaVAwake
import Derived.Test.YtapcpmalgdhakaaNAll
namespace Go.Proofs.Ytapcpmalgdhakaa
open Go.RowKit
set_option maxRecDepth 100000

theorem degree_kind9 : kindL (⟨#[100, 101, 103, 114, 101, 101]⟩ : ByteArray).data.toList = 5 := by decide
theorem count_snoc {l : List E} {i : Nat} {m : E} (p : E → Bool) (h : l[i]? = some m) : (l.take (i + 1)).countP p = (l.take i).countP p + (if p m = true then 1 else 0) := by
  rw [List.take_add_one, h, Option.toList_some, List.countP_append, List.countP_singleton]
set_option maxHeartbeats 2000000 in
theorem degrees9_any (n : Int) (es : List E) (v : Value) (steps : Int) (w : World) (hE : Edges w v es) : Ans 7 [gv n v, .int .i64 steps] w (fun u w' => u = .bool true ∧ Below w.heap.size w w') := by
  obtain ⟨Ag, cg, rfl, hg1, hg2, hgA⟩ := hE
  have hE : Edges w (.slice Ag es.length cg) es := ⟨Ag, cg, rfl, hg1, hg2, hgA⟩
  clear hgA
  refine calls_qx (args := [gv n (.slice Ag es.length cg), .int .i64 steps]) 80 Try.func7 rfl (by kernel_rfl) (by simp) (fun a hS => ?_)
  have hB := Below.refl w.heap.size w
  have hEb := hE
  refine qx_seq (reg_seq ?_)
  refine seq_op hS (by decide) (runs_boxB (cs := [.int .i64 n, .slice Ag es.length cg]) rfl rfl) (fun v1 w1 a1 hp hS => ?_)
  obtain ⟨rfl, hM1, hB1⟩ := hp
  have hB := hB.trans (hB1.mono hB.size)
  have hE := hEb.kept hB
  refine sI hS (runs_assign rfl) fun _ hS => ?_
  refine nil_ok (qx_seq (qx_seq (reg_seq ?_)))
  refine seq_op hS (by decide) (runs_call (args := []) goes11 rfl (awake_any w1)) (fun v3 w3 a1 hp hS => ?_)
  obtain ⟨rfl, hB3⟩ := hp
  have hB := hB.trans (hB3.mono hB.size)
  have hM1 := hM1.below hB3 hM1.lt
  have hE := hEb.kept hB
  refine sI hS (runs_not (b := true) rfl) fun _ hS => ?_
  refine sI hS (runs_move rfl) fun _ hS => ?_
  refine sY hS (runs_fieldK fo24_1 rfl) fun _ hS => ?_
  refine sY hS (runs_load rfl pl22 (hM1.at rfl)) fun _ hS => ?_
  refine sY hS (runs_len rfl und22) fun _ hS => ?_
  by_cases h60 : ((es.length : Nat) : Int) > 60
  · skip
    refine sY hS (gtrT rfl rfl (by omega)) fun _ hS => ?_
    refine sI hS (runs_pick rfl rfl) fun _ hS => ?_
    refine sI hS (runs_move rfl) fun _ hS => ?_
    refine sN hS fun _ hS => ?_
    refine sN hS fun _ hS => ?_
    refine sI hS (runs_pick rfl rfl) fun _ hS => ?_
    refine sI hS (runs_move rfl) fun _ hS => ?_
    refine sN hS fun _ hS => ?_
    refine sN hS fun _ hS => ?_
    refine sI hS (runs_pick rfl rfl) fun _ hS => ?_
    refine nil_ok (wp_cond_true (hS.eval rfl) (qx_seq (reg_seq ?_)))
    refine seq_op hS (by decide) (runs_call (args := []) goes11 rfl (awake_any w3)) (fun v5 w5 a1 hp hS => ?_)
    obtain ⟨rfl, hB5⟩ := hp
    have hB := hB.trans (hB5.mono hB.size)
    have hM1 := hM1.below hB5 hM1.lt
    have hE := hEb.kept hB
    refine sI hS (runs_assign rfl) fun _ hS => ?_
    exact nil_ok (qx_ret (ret1 (t := 4) (by kernel_rfl) hS rfl ⟨_, rfl, rfl, hB⟩))
  refine sY hS (gtrF rfl rfl (by omega)) fun _ hS => ?_
  refine sI hS (runs_pick rfl rfl) fun _ hS => ?_
  refine sI hS (runs_move rfl) fun _ hS => ?_
  refine sY hS (runs_move rfl) fun _ hS => ?_
  by_cases h2 : steps < 2
  · skip
    refine sY hS (lssT rfl rfl (by omega)) fun _ hS => ?_
    refine sI hS (runs_pick rfl rfl) fun _ hS => ?_
    refine sI hS (runs_move rfl) fun _ hS => ?_
    refine sN hS fun _ hS => ?_
    refine sN hS fun _ hS => ?_
    refine sI hS (runs_pick rfl rfl) fun _ hS => ?_
    refine nil_ok (wp_cond_true (hS.eval rfl) (qx_seq (reg_seq ?_)))
    refine seq_op hS (by decide) (runs_call (args := []) goes11 rfl (awake_any w3)) (fun v7 w7 a1 hp hS => ?_)
    obtain ⟨rfl, hB7⟩ := hp
    have hB := hB.trans (hB7.mono hB.size)
    have hM1 := hM1.below hB7 hM1.lt
    have hE := hEb.kept hB
    refine sI hS (runs_assign rfl) fun _ hS => ?_
    exact nil_ok (qx_ret (ret1 (t := 4) (by kernel_rfl) hS rfl ⟨_, rfl, rfl, hB⟩))
  refine sY hS (lssF rfl rfl (by omega)) fun _ hS => ?_
  refine sI hS (runs_pick rfl rfl) fun _ hS => ?_
  refine sI hS (runs_move rfl) fun _ hS => ?_
  refine sY hS (runs_move rfl) fun _ hS => ?_
  by_cases h20 : steps > 20
  · skip
    refine sY hS (gtrT rfl rfl (by omega)) fun _ hS => ?_
    refine sI hS (runs_pick rfl rfl) fun _ hS => ?_
    refine nil_ok (wp_cond_true (hS.eval rfl) (qx_seq (reg_seq ?_)))
    refine seq_op hS (by decide) (runs_call (args := []) goes11 rfl (awake_any w3)) (fun v9 w9 a1 hp hS => ?_)
    obtain ⟨rfl, hB9⟩ := hp
    have hB := hB.trans (hB9.mono hB.size)
    have hM1 := hM1.below hB9 hM1.lt
    have hE := hEb.kept hB
    refine sI hS (runs_assign rfl) fun _ hS => ?_
    exact nil_ok (qx_ret (ret1 (t := 4) (by kernel_rfl) hS rfl ⟨_, rfl, rfl, hB⟩))
  refine sY hS (gtrF rfl rfl (by omega)) fun _ hS => ?_
  refine sI hS (runs_pick rfl rfl) fun _ hS => ?_
  refine nil_ok (wp_cond_false (hS.eval rfl) (wp_skip (qx_seq (?_))))
  obtain ⟨XL, XN, XE, hW⟩ : ∃ a b c, wholeL n es 5 0 steps = (a, b, c) := ⟨_, _, _, rfl⟩
  refine reg_seq ?_
  refine sI hS (runs_loadRow rfl hM1 Try.underlying24 rfl (by rw [sz24]; rfl)) fun _ hS => ?_
  refine seq_op hS (by decide) (runs_call (args := [gv n (.slice Ag es.length cg)]) goes13 rfl (own_any n es (by omega) _ w3 hE)) (fun v11 w11 a1 hp hS => ?_)
  obtain ⟨hB11, y1, rfl, hy1⟩ := hp
  have hy1 := hy1.edges
  have hB := hB.trans (hB11.mono hB.size)
  have hM1 := hM1.below hB11 hM1.lt
  have hE := hEb.kept hB
  refine sI hS (runs_move rfl) fun _ hS => ?_
  refine sI hS (runs_buildK (pv := [(0, .string ⟨#[100, 101, 103, 114, 101, 101]⟩), (2, .int .i64 steps)]) (cells := #[.string ⟨#[100, 101, 103, 114, 101, 101]⟩, .int .i64 0, .int .i64 steps]) rfl (by kernel_rfl)) fun _ hS => ?_
  refine seq_op hS (by decide) (runs_call (args := [gv n y1, .agg #[.string ⟨#[100, 101, 103, 114, 101, 101]⟩, .int .i64 0, .int .i64 steps]]) goes14 rfl (whole_is (by omega) w11 hy1 degree_kind9 hW)) (fun v13 w13 a1 hp hS => ?_)
  obtain ⟨x1, rfl, hX, hB13⟩ := hp
  obtain ⟨AX, cX, hsX, hXa, hXb, -⟩ := id hX
  subst hsX
  unfold maxLen at hXb
  have hXm := Nat.le_trans hXa hXb
  have hB := hB.trans (hB13.mono hB.size)
  have hM1 := hM1.below hB13 hM1.lt
  have hE := hEb.kept hB
  have hy1 := hy1.kept hB13
  refine sI hS (runs_move rfl) fun _ hS => ?_
  refine sI hS (runs_extract rfl rfl) fun _ hS => ?_
  refine sI hS (runs_extract rfl rfl) fun _ hS => ?_
  refine sI hS (runs_extract rfl rfl) fun _ hS => ?_
  refine sI hS (runs_assign rfl) fun _ hS => ?_
  refine sI hS (runs_assign rfl) fun _ hS => ?_
  refine sI hS (runs_assign rfl) fun _ hS => ?_
  refine nil_ok (qx_seq (qx_seq (reg_seq ?_)))
  refine sI hS (runs_move rfl) fun _ hS => ?_
  by_cases he : XE ≠ 0
  · skip
    refine sI hS (runs_neq (r := true) rfl rfl (by simpa using he)) fun _ hS => ?_
    refine nil_ok (wp_cond_true (hS.eval rfl) (qx_seq (?_)))
    have hXe : XL = [] := by have h := whole_bad (n := n) (es := es) (k := 5) (src := 0) (steps := steps) (by rw [hW]; exact he); rw [hW] at h; exact h
    refine reg_seq ?_
    refine sI hS (runs_move rfl) fun _ hS => ?_
    refine sI hS (runs_len rfl undI64) fun _ hS => ?_
    refine sI hS (runs_eql (r := true) rfl rfl (by rw [hXe]; rfl)) fun _ hS => ?_
    refine sI hS (runs_assign rfl) fun _ hS => ?_
    exact nil_ok (qx_ret (ret1 (t := 4) (by kernel_rfl) hS rfl ⟨_, rfl, rfl, hB⟩))
  refine sI hS (runs_neq (r := false) rfl rfl (by simpa using he)) fun _ hS => ?_
  refine nil_ok (wp_cond_false (hS.eval rfl) (wp_skip (qx_seq (qx_seq (?_)))))
  have hXE0 : XE = 0 := Classical.not_not.1 he
  obtain ⟨T, hT2, hok, hW2, hval⟩ := whole_deg (n := n) (es := es) (src := 0) (steps := steps) (by omega) (by rw [hW]; exact hXE0)
  rw [hW] at hW2
  simp only [Prod.mk.injEq] at hW2
  obtain ⟨rfl, rfl, -⟩ := hW2
  have hXl := values_length hok
  have hXv := fun v (hv : v < n.toNat) => values_get hok hv
  have hn := job_n hok.1
  obtain ⟨XL, hXL⟩ : ∃ l, valuesL (stL n es 5 0 steps XN) = l := ⟨_, rfl⟩
  rw [hXL] at hXl hS hX hXm
  simp only [hXL] at hXv
  refine reg_seq ?_
  refine sI hS (runs_assign rfl) fun _ hS => ?_
  refine nil_ok (?_)
  have hBo1 := hB
  refine qx_for (fun mm a w' => ∃ (q : Nat), q ≤ XL.length ∧ mm = XL.length - q ∧ Below w13.heap.size w13 w' ∧ Sees 80 [(8, .int .i64 (q : Int)), (6, .int .i64 ((XN : Nat) : Int)), (5, .slice AX XL.length cX), (2, .pointer (some ⟨w.heap.size, 0, none⟩))] a) XL.length ⟨0, by omega, by omega, Below.refl _ _, hS.only _ ⟨rfl, rfl, rfl, rfl, trivial⟩⟩ ?_
  clear hS
  rintro mm a wl1 ⟨q, hi1, rfl, hBl1, hS⟩
  have hM1 := hM1.below hBl1 hM1.lt
  have hE := hE.kept hBl1
  have hX := hX.kept hBl1
  have hB := Below.refl wl1.heap.size wl1
  refine reg_seq ?_
  refine sI hS (runs_move rfl) fun _ hS => ?_
  refine sI hS (runs_move rfl) fun _ hS => ?_
  refine sI hS (runs_len rfl undI64) fun _ hS => ?_
  by_cases hlt1 : q < XL.length
  · skip
    refine sI hS (lssT rfl rfl (by omega)) fun _ hS => ?_
    refine nil_ok ⟨_, hS.eval rfl, fun h => by simp at h, fun _ => ?_⟩
    refine qx_seq (qx_block (qx_seq (reg_seq ?_)))
    refine sI hS (runs_assign rfl) fun _ hS => ?_
    refine nil_ok (qx_seq (qx_seq (reg_seq ?_)))
    refine sI hS (runs_assign rfl) fun _ hS => ?_
    refine nil_ok (?_)
    have hBo2 := hB
    refine qx_for (fun mm a w' => ∃ (i : Nat) (cn : Nat), i ≤ es.length ∧ mm = es.length - i ∧ Below wl1.heap.size wl1 w' ∧ cn = (es.take i).countP (fun e : E => e.2.1 == (q : Int)) ∧ Sees 80 [(10, .int .i64 (i : Int)), (9, .int .i64 (cn : Int)), (8, .int .i64 (q : Int)), (6, .int .i64 ((XN : Nat) : Int)), (5, .slice AX XL.length cX), (2, .pointer (some ⟨w.heap.size, 0, none⟩))] a) es.length ⟨0, 0, by omega, by omega, Below.refl _ _, by simp, hS.only _ ⟨rfl, rfl, rfl, rfl, rfl, rfl, trivial⟩⟩ ?_
    clear hS
    rintro mm a wl2 ⟨i, cn, hi2, rfl, hBl2, hF, hS⟩
    have hM1 := hM1.below hBl2 hM1.lt
    have hE := hE.kept hBl2
    have hX := hX.kept hBl2
    have hB := Below.refl wl2.heap.size wl2
    refine reg_seq ?_
    refine sI hS (runs_move rfl) fun _ hS => ?_
    refine sI hS (runs_fieldK fo24_1 rfl) fun _ hS => ?_
    refine sI hS (runs_load rfl pl22 (hM1.at rfl)) fun _ hS => ?_
    refine sI hS (runs_len rfl und22) fun _ hS => ?_
    by_cases hlt2 : i < es.length
    · skip
      refine sI hS (lssT rfl rfl (by omega)) fun _ hS => ?_
      refine nil_ok ⟨_, hS.eval rfl, fun h => by simp at h, fun _ => ?_⟩
      obtain ⟨e, hei⟩ : ∃ e, es[i]? = some e := ⟨es[i], by simp [hlt2]⟩
      obtain ⟨b, o, hAg, hbw, hr⟩ := edges_row hE (by omega)
      have hre := edges_at hr hei
      have hcl := List.countP_le_length (p := (fun e : E => e.2.1 == (q : Int))) (l := es.take i)
      have hcl2 := List.length_take_le i es
      refine qx_seq (qx_block (qx_seq (reg_seq ?_)))
      refine sI hS (runs_fieldK fo24_1 rfl) fun _ hS => ?_
      refine sI hS (runs_load rfl pl22 (hM1.at rfl)) fun _ hS => ?_
      refine sI hS (runs_move rfl) fun _ hS => ?_
      refine sI hS (runs_indexAddrG (j := i) (by rw [← hAg]; rfl) rfl und22 siz45 rfl hlt2) fun _ hS => ?_
      refine sI hS (runs_fieldK fo46_1 rfl) fun _ hS => ?_
      refine sI hS (runs_load rfl pl3 (hre 1 _ rfl)) fun _ hS => ?_
      refine sI hS (runs_move rfl) fun _ hS => ?_
      by_cases hc : e.2.1 = (q : Int)
      · skip
        refine sI hS (runs_eql (r := true) rfl rfl (by simpa using hc)) fun _ hS => ?_
        refine nil_ok (wp_cond_true (hS.eval rfl) (reg_seq ?_))
        refine sI hS (runs_move rfl) fun _ hS => ?_
        refine sI hS (runs_add (r := ((cn + 1 : Nat) : Int)) rfl rfl (by simp [IntKind.wrap, IntKind.bits, IntKind.signed]; omega)) fun _ hS => ?_
        refine sI hS (runs_assign rfl) fun _ hS => ?_
        refine nil_ok (reg_seq ?_)
        refine sI hS (runs_move rfl) fun _ hS => ?_
        refine sI hS (runs_add (r := ((i + 1 : Nat) : Int)) rfl rfl (by simp [IntKind.wrap, IntKind.bits, IntKind.signed]; omega)) fun _ hS => ?_
        refine sI hS (runs_assign rfl) fun _ hS => ?_
        exact nil_ok ⟨_, by omega, i + 1, (cn + 1), by omega, rfl, hBl2.trans (hB.mono hBl2.size), by rw [count_snoc _ hei, ← hF]; simp [hc], hS.only _ ⟨rfl, rfl, rfl, rfl, rfl, rfl, trivial⟩⟩
      refine sI hS (runs_eql (r := false) rfl rfl (by simpa using hc)) fun _ hS => ?_
      refine nil_ok (wp_cond_false (hS.eval rfl) (wp_skip (reg_seq ?_)))
      refine sI hS (runs_move rfl) fun _ hS => ?_
      refine sI hS (runs_add (r := ((i + 1 : Nat) : Int)) rfl rfl (by simp [IntKind.wrap, IntKind.bits, IntKind.signed]; omega)) fun _ hS => ?_
      refine sI hS (runs_assign rfl) fun _ hS => ?_
      exact nil_ok ⟨_, by omega, i + 1, cn, by omega, rfl, hBl2.trans (hB.mono hBl2.size), by rw [count_snoc _ hei, ← hF]; simp [hc], hS.only _ ⟨rfl, rfl, rfl, rfl, rfl, rfl, trivial⟩⟩
    refine sI hS (lssF rfl rfl (by omega)) fun _ hS => ?_
    obtain rfl : i = es.length := by omega
    refine nil_ok ⟨_, hS.eval rfl, fun _ => ?_, fun h => by simp at h⟩
    have hB := hBo2.trans ((hBl2.trans (hB.mono hBl2.size)).mono hBo2.size)
    rw [List.take_length] at hF
    refine qx_seq (?_)
    have hxq := hXv q (by omega)
    rw [hval q (by omega)] at hxq
    obtain ⟨b, o, hAx, hbw, hr⟩ := nums_row hX (by omega)
    have hrn := nums_at hr hxq
    refine reg_seq ?_
    refine sI hS (runs_move rfl) fun _ hS => ?_
    refine sI hS (runs_move rfl) fun _ hS => ?_
    refine sI hS (runs_indexAddrG (j := q) (by rw [← hAx]; rfl) rfl undI64 siz2 rfl hlt1) fun _ hS => ?_
    refine sI hS (runs_load rfl pl2 (hrn 0 _ rfl)) fun _ hS => ?_
    refine sI hS (runs_move rfl) fun _ hS => ?_
    refine sI hS (runs_neq (r := false) rfl rfl (by rw [hF]; simp [comeL])) fun _ hS => ?_
    refine nil_ok (wp_cond_false (hS.eval rfl) (wp_skip (reg_seq ?_)))
    refine sI hS (runs_move rfl) fun _ hS => ?_
    refine sI hS (runs_add (r := ((q + 1 : Nat) : Int)) rfl rfl (by simp [IntKind.wrap, IntKind.bits, IntKind.signed]; omega)) fun _ hS => ?_
    refine sI hS (runs_assign rfl) fun _ hS => ?_
    exact nil_ok ⟨_, by omega, q + 1, by omega, rfl, hBl1.trans (hB.mono hBl1.size), hS.only _ ⟨rfl, rfl, rfl, rfl, trivial⟩⟩
  refine sI hS (lssF rfl rfl (by omega)) fun _ hS => ?_
  obtain rfl : q = XL.length := by omega
  refine nil_ok ⟨_, hS.eval rfl, fun _ => ?_, fun h => by simp at h⟩
  have hB := hBo1.trans ((hBl1.trans (hB.mono hBl1.size)).mono hBo1.size)
  refine qx_seq (reg_seq ?_)
  refine sI hS (runs_move rfl) fun _ hS => ?_
  refine sI hS (runs_len rfl undI64) fun _ hS => ?_
  refine sI hS (runs_fieldK fo24_0 rfl) fun _ hS => ?_
  refine sI hS (runs_load rfl pl3 (hM1.at rfl)) fun _ hS => ?_
  refine sI hS (runs_eql (r := true) rfl rfl (by rw [beq_iff_eq]; omega)) fun _ hS => ?_
  refine sI hS (runs_move rfl) fun _ hS => ?_
  refine sY hS (runs_move rfl) fun _ hS => ?_
  refine sY hS (runs_leq (r := true) rfl rfl (by rw [decide_eq_true_eq]; omega)) fun _ hS => ?_
  refine sI hS (runs_pick rfl rfl) fun _ hS => ?_
  refine sI hS (runs_assign rfl) fun _ hS => ?_
  exact nil_ok (qx_ret (ret1 (t := 4) (by kernel_rfl) hS rfl ⟨_, rfl, rfl, hB⟩))
end Go.Proofs.Ytapcpmalgdhakaa
