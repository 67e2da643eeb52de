/- Layer 12: CommitKept and CommitMakes, walked over the contracts of what they call. -/
import Derived.Test.YtooeahpkhocaeaaGreatDoorJ36
import Derived.Test.YtooeahpkhocaeaaGreatDoorCRMake
namespace Go.Proofs.YtooeahpkhocaeaaGreatDoor
open Go.RowKit
set_option maxRecDepth 100000

theorem infVxc : (Tryz.prog.info? 77).map (fun i => (i.zero, i.size, i.bytes)) = some (some (.agg (vc ⟨0, 0, false, false, 0⟩).toArray), 5, 32) := by kernel_rfl
theorem cellsV_len5 : ∀ es : List Vx, (cellsV es).length = es.length * 5
  | [] => rfl
  | e :: es => by
    have ih := cellsV_len5 es
    have e1 : cellsV (e :: es) = vc e ++ cellsV es := rfl
    have hv : (vc e).length = 5 := rfl
    rw [e1, List.length_append, ih, hv, show (e :: es).length = es.length + 1 from rfl]
    omega
section
variable {L : List (Nat × Value)} {w : World} {ty : TypeId}
theorem none_ownV {B : Nat} (hB : B ≤ w.heap.size) : Runs Tryz.prog (.buildSlice 22 0 #[]) ty L w (fun v w' => (∃ g, v = .slice (some ⟨g, 0, none⟩) 0 0 ∧ w'.ownsRow B 77 5 v 0 []) ∧ Below w.heap.size w w') := by
  obtain ⟨i48, hi48, hz48, hs48, hb48⟩ := info_parts infVxc
  exact none_ownG undLV hi48 hB
theorem none_ownO {B : Nat} (hB : B ≤ w.heap.size) : Runs Tryz.prog (.buildSlice 23 0 #[]) ty L w (fun v w' => (∃ g, v = .slice (some ⟨g, 0, none⟩) 0 0 ∧ w'.ownsRow B 30 1 v 0 []) ∧ Below w.heap.size w w') := by
  obtain ⟨i48, hi48, hz48, hs48, hb48⟩ := info_parts infLM
  exact none_ownG undLMM hi48 hB
/-- append([]Vertex{}, l...), append([][]Msg{}, out...) -/
theorem copy_V {s x : Operand} {v sv : Value} {es : List Vx} (hE : Verts w v es) (hn : es.length ≤ 100000) (hs : vals L s = some sv) (h0 : ∃ g, sv = .slice (some ⟨g, 0, none⟩) 0 0) (hx : vals L x = some v) :
    Runs Tryz.prog (.call { callee := .builtin .append, args := #[s, x], argTypes := #[22, 22] }) ty L w (fun u w2 => Verts w2 u es ∧ Below w.heap.size w w2) := by
  obtain ⟨g, rfl⟩ := h0
  obtain ⟨i48, hi48, hz48, hs48, hb48⟩ := info_parts infVxc
  obtain ⟨A, c, rfl, h1, h2, h4⟩ := hE
  by_cases hz : es.length = 0
  · obtain rfl : es = [] := List.eq_nil_of_length_eq_zero hz
    exact (runs_appendNone undLV hi48 hs (Nat.le_refl _) (by simp) hx).mono (by
      rintro u w2 ⟨rfl, rfl⟩
      exact ⟨⟨_, 0, rfl, Nat.le_refl _, by unfold maxLen; omega, fun h => absurd h (by simp)⟩, Below.refl _ _⟩)
  · obtain ⟨b, o, rfl, hb, hr⟩ := h4 (by omega)
    exact (runs_append0N (m := es.length) undLV hi48 hz48 hs48 hb48 (by simp [Value.cells, vc]) (by omega) hs hx (news := cellsV es) (cellsV_len5 es) (fun j u hj => by rw [add_lit']; exact hr j u hj) (by unfold maxLen; omega) (by omega) (by omega)).mono (by
      rintro u w2 ⟨h3, h4⟩
      exact ⟨verts_own h3 rfl, h4⟩)
theorem copy_O {s x : Operand} {v sv : Value} {ls : List (List E)} (hE : Outs w v ls) (hn : ls.length ≤ 100000) (hs : vals L s = some sv) (h0 : ∃ g, sv = .slice (some ⟨g, 0, none⟩) 0 0) (hx : vals L x = some v) :
    Runs Tryz.prog (.call { callee := .builtin .append, args := #[s, x], argTypes := #[23, 23] }) ty L w (fun u w2 => Outs w2 u ls ∧ Below w.heap.size w w2) := by
  obtain ⟨g, rfl⟩ := h0
  obtain ⟨i48, hi48, hz48, hs48, hb48⟩ := info_parts infLM
  obtain ⟨A, c, vs, rfl, h1, h2, h3, h4, h5⟩ := hE
  by_cases hz : ls.length = 0
  · obtain rfl : ls = [] := List.eq_nil_of_length_eq_zero hz
    exact (runs_appendNone undLMM hi48 hs (Nat.le_refl _) (by simp) hx).mono (by
      rintro u w2 ⟨rfl, rfl⟩
      exact ⟨⟨_, 0, [], rfl, Nat.le_refl _, by unfold maxLen; omega, rfl, fun h => absurd h (by simp), fun i l hi => by simp at hi⟩, Below.refl _ _⟩)
  · obtain ⟨b, o, rfl, hb, hr⟩ := h4 (by omega)
    exact (runs_append0N (m := ls.length) undLMM hi48 hz48 hs48 hb48 rfl (by omega) hs hx (news := vs) (by omega) (fun j u hj => by rw [add_lit']; exact hr j u hj) (by unfold maxLen; omega) (by omega) (by omega)).mono (by
      rintro u w2 ⟨h6, h7⟩
      refine ⟨?_, h7⟩
      rcases h6.2 with ⟨rfl, h8⟩ | ⟨g2, c2, cur, rfl, _, hg, hc, hm, _⟩
      · omega
      · refine ⟨_, c2, vs, rfl, hc, hm, h3, fun _ => ⟨g2, 0, rfl, (Array.getElem?_eq_some_iff.1 hg).1, fun j u hu => ?_⟩, fun i l hi => ?_⟩
        · have := h6.cells (g := g2) rfl j u hu
          rwa [add_zero_addr] at this
        · obtain ⟨u, hu, hEe⟩ := h5 i l hi
          exact ⟨u, hu, hEe.kept h7⟩)
end
theorem small_snoc {xs : List (List E)} {x : List E} (h : ∀ m ∈ xs, m.length ≤ 10) (hx : x.length ≤ 10) : ∀ m ∈ xs ++ [x], m.length ≤ 10 := fun m hm => by
  rcases List.mem_append.1 hm with h1 | h1
  · exact h m h1
  · rw [List.mem_singleton.1 h1]; exact hx
theorem runs_neB {L : List (Nat × Value)} {w : World} {ty : TypeId} {x y : Operand} {a b r : Bool} (hx : vals L x = some (.bool a)) (hy : vals L y = some (.bool b)) (hr : (!(a == b)) = r) : Runs Tryz.prog (.binOp .neq 4 x y 4) ty L w (Is (.bool r) w) := by
  refine runs_bin hx hy rfl ?_
  subst hr
  cases a <;> cases b <;> rfl
theorem cmv_only {w : World} {v : Value} {bs : List (List Nat)} (h : Hashes w v bs) : CmV w (.agg (cmc ⟨0, 0, zero32, bs⟩ v).toArray) ⟨0, 0, zero32, bs⟩ :=
  ⟨v, rfl, h, by show zero32.length = 32; decide, (cmv_no w).choose_spec.2.2.2⟩
set_option maxHeartbeats 1000000 in
theorem makes_law (hAw : CAwkC) (hMk : CMakeC) (hKp : CKeepsC) (hRM : RMakeC) (p q : Int) (hpp : -9223372036854775808 ≤ p ∧ p ≤ 9223372036854775807) (hqq : -9223372036854775808 ≤ q ∧ q ≤ 9223372036854775807) (l : List Vx) (outs : List (List E)) (c : Cm) (vl vo u : Value) (w : World) (hV : Verts w vl l) (hO : Outs w vo outs) (hf : ∀ m ∈ outs, FitsM m) (hC : CmV w u c) (hk : Kept w) : Ans 3 [.int .i64 p, .int .i64 q, vl, vo, u] w (fun u w' => u = .bool true ∧ Below w.heap.size w w') := by
  obtain ⟨Al, cl_, rfl, hl1, hl2, hl3⟩ := id hV
  obtain ⟨Ao, co, vs, rfl, ho1, ho2, ho3, ho4, ho5⟩ := id hO
  have hcm := ho2
  unfold maxLen at hcm
  obtain ⟨xd, rfl, hHd, hld, hbyd⟩ := id hC
  obtain ⟨Ad, ccd, rfl, hc1d, hc2d, hHod, -⟩ := id hHd
  have hod := hC.ok
  refine calls_qx (args := [.int .i64 p, .int .i64 q, .slice Al l.length cl_, .slice Ao outs.length co, .agg (cmc c (.slice Ad c.bs.length ccd)).toArray]) 116 Tryz.func3 rfl (by kernel_rfl) (by simp) (fun a hS => ?_)
  have hB := Below.refl w.heap.size w
  have hVb := hV
  have hOb := hO
  have hCb := hC
  have hHdb := hHd
  refine qx_seq (reg_seq ?_)
  refine seq_op hS (by decide) (runs_boxB (cs := cmc c (.slice Ad c.bs.length ccd)) rfl rfl) (fun v1 w1 a1 hp hS => ?_)
  obtain ⟨rfl, hM1, hB1⟩ := hp
  have hB := hB.trans (hB1.mono hB.size)
  have hV := hVb.kept hB
  have hO := hOb.kept hB
  have hC := hCb.kept hB
  have hHd := hHdb.kept hB
  refine sI hS (runs_assign rfl) fun _ hS => ?_
  refine nil_ok (qx_seq (qx_seq (reg_seq ?_)))
  refine seq_op hS (by decide) (runs_call (args := []) goes4 rfl (hAw w1 (hk.below (hB) hk.pos))) (fun v3 w3 a1 hp hS => ?_)
  obtain ⟨rfl, hB3⟩ := hp
  have hB := hB.trans (hB3.mono hB.size)
  have hM1 := hM1.below hB3 hM1.lt
  have hV := hVb.kept hB
  have hO := hOb.kept hB
  have hC := hCb.kept hB
  have hHd := hHdb.kept hB
  refine sI hS (runs_not (b := true) rfl) fun _ hS => ?_
  refine sI hS (runs_move rfl) fun _ hS => ?_
  refine sY hS (runs_move rfl) fun _ hS => ?_
  refine sY hS (runs_len rfl undLV) fun _ hS => ?_
  by_cases h10 : 10 < l.length
  · skip
    refine sY hS (gtrT rfl rfl (by omega)) fun _ hS => ?_
    refine sI hS (runs_pick rfl rfl) fun _ hS => ?_
    refine sI hS (runs_move rfl) fun _ hS => ?_
    refine sN hS fun _ hS => ?_
    refine sN hS fun _ hS => ?_
    refine sN hS fun _ hS => ?_
    refine sI hS (runs_pick rfl rfl) fun _ hS => ?_
    refine sI hS (runs_move rfl) fun _ hS => ?_
    refine sN hS fun _ hS => ?_
    refine sN hS fun _ hS => ?_
    refine sN hS fun _ hS => ?_
    refine sN hS fun _ hS => ?_
    refine sI hS (runs_pick rfl rfl) fun _ hS => ?_
    refine nil_ok (wp_cond_true (hS.eval rfl) (qx_seq (reg_seq ?_)))
    refine seq_op hS (by decide) (runs_call (args := []) goes4 rfl (hAw w3 (hk.below (hB) hk.pos))) (fun v5 w5 a1 hp hS => ?_)
    obtain ⟨rfl, hB5⟩ := hp
    have hB := hB.trans (hB5.mono hB.size)
    have hM1 := hM1.below hB5 hM1.lt
    have hV := hVb.kept hB
    have hO := hOb.kept hB
    have hC := hCb.kept hB
    have hHd := hHdb.kept hB
    refine sI hS (runs_assign rfl) fun _ hS => ?_
    exact nil_ok (qx_ret (ret1 (t := 10) (by kernel_rfl) hS rfl ⟨_, rfl, rfl, hB⟩))
  refine sY hS (gtrF rfl rfl (by omega)) fun _ hS => ?_
  refine sI hS (runs_pick rfl rfl) fun _ hS => ?_
  refine sI hS (runs_move rfl) fun _ hS => ?_
  refine sY hS (runs_move rfl) fun _ hS => ?_
  refine sY hS (runs_len rfl undLMM) fun _ hS => ?_
  by_cases h8 : 8 < outs.length
  · skip
    refine sY hS (gtrT rfl rfl (by omega)) fun _ hS => ?_
    refine sI hS (runs_pick rfl rfl) fun _ hS => ?_
    refine sI hS (runs_move rfl) fun _ hS => ?_
    refine sN hS fun _ hS => ?_
    refine sN hS fun _ hS => ?_
    refine sN hS fun _ hS => ?_
    refine sN hS fun _ hS => ?_
    refine sI hS (runs_pick rfl rfl) fun _ hS => ?_
    refine nil_ok (wp_cond_true (hS.eval rfl) (qx_seq (reg_seq ?_)))
    refine seq_op hS (by decide) (runs_call (args := []) goes4 rfl (hAw w3 (hk.below (hB) hk.pos))) (fun v7 w7 a1 hp hS => ?_)
    obtain ⟨rfl, hB7⟩ := hp
    have hB := hB.trans (hB7.mono hB.size)
    have hM1 := hM1.below hB7 hM1.lt
    have hV := hVb.kept hB
    have hO := hOb.kept hB
    have hC := hCb.kept hB
    have hHd := hHdb.kept hB
    refine sI hS (runs_assign rfl) fun _ hS => ?_
    exact nil_ok (qx_ret (ret1 (t := 10) (by kernel_rfl) hS rfl ⟨_, rfl, rfl, hB⟩))
  refine sY hS (gtrF rfl rfl (by omega)) fun _ hS => ?_
  refine sI hS (runs_pick rfl rfl) fun _ hS => ?_
  refine sI hS (runs_move rfl) fun _ hS => ?_
  refine sY hS (runs_fieldK foC_3 rfl) fun _ hS => ?_
  refine sY hS (runs_load rfl pl924 (hM1.at (cm_v hld))) fun _ hS => ?_
  refine sY hS (runs_len rfl undHs) fun _ hS => ?_
  by_cases h70 : 70 < c.bs.length
  · skip
    refine sY hS (gtrT rfl rfl (by omega)) fun _ hS => ?_
    refine sI hS (runs_pick rfl rfl) fun _ hS => ?_
    refine nil_ok (wp_cond_true (hS.eval rfl) (qx_seq (reg_seq ?_)))
    refine seq_op hS (by decide) (runs_call (args := []) goes4 rfl (hAw w3 (hk.below (hB) hk.pos))) (fun v9 w9 a1 hp hS => ?_)
    obtain ⟨rfl, hB9⟩ := hp
    have hB := hB.trans (hB9.mono hB.size)
    have hM1 := hM1.below hB9 hM1.lt
    have hV := hVb.kept hB
    have hO := hOb.kept hB
    have hC := hCb.kept hB
    have hHd := hHdb.kept hB
    refine sI hS (runs_assign rfl) fun _ hS => ?_
    exact nil_ok (qx_ret (ret1 (t := 10) (by kernel_rfl) hS rfl ⟨_, rfl, rfl, hB⟩))
  refine sY hS (gtrF rfl rfl (by omega)) fun _ hS => ?_
  refine sI hS (runs_pick rfl rfl) fun _ hS => ?_
  refine nil_ok (wp_cond_false (hS.eval rfl) (wp_skip (qx_seq (qx_seq (?_)))))
  have hBprel := hB
  have hB := Below.refl w3.heap.size w3
  have hM1b := hM1
  have hVb := hV
  have hOb := hO
  have hCb := hC
  have hHdb := hHd
  refine reg_seq ?_
  refine sI hS (runs_assign rfl) fun _ hS => ?_
  refine nil_ok (?_)
  refine qx_for (fun mm a w' => ∃ (i : Nat), i ≤ outs.length ∧ mm = outs.length - i ∧ Below w3.heap.size w3 w' ∧ (∀ m ∈ outs.take i, m.length ≤ 10) ∧ Sees 116 [(11, .int .i64 (i : Int)), (3, .slice Ao outs.length co), (2, .slice Al l.length cl_), (0, .int .i64 p), (1, .int .i64 q), (9, .pointer (some ⟨w.heap.size, 0, none⟩))] a) outs.length ⟨0, by omega, by omega, hB, by simp, hS.only _ ⟨rfl, rfl, rfl, rfl, rfl, rfl, trivial⟩⟩ ?_
  clear hS 
  rintro mm a wl1 ⟨i, hi1, rfl, hBb1, hsm, hS⟩
  have hV := hVb.kept hBb1
  have hO := hOb.kept hBb1
  have hC := hCb.kept hBb1
  have hHd := hHdb.kept hBb1
  have hM1 := hM1b.below hBb1 hM1b.lt
  have hB := Below.refl wl1.heap.size wl1
  refine reg_seq ?_
  refine sI hS (runs_move rfl) fun _ hS => ?_
  refine sI hS (runs_move rfl) fun _ hS => ?_
  refine sI hS (runs_len rfl undLMM) fun _ hS => ?_
  by_cases hlt1 : i < outs.length
  · skip
    refine sI hS (lssT rfl rfl (by omega)) fun _ hS => ?_
    refine nil_ok ⟨_, hS.eval rfl, fun h => by simp at h, fun _ => ?_⟩
    have hSn := hS
    obtain ⟨x, hx⟩ : ∃ x, outs[i]? = some x := ⟨outs[i], by simp [hlt1]⟩
    obtain ⟨b, o, u0, hbe, hcu, hEu⟩ := outs_row hO hx
    cases hbe
    obtain ⟨Ax, cx, rfl, -, -, -⟩ := id hEu
    have hS := hSn
    refine qx_seq (qx_block (qx_seq (reg_seq ?_)))
    refine sI hS (runs_move rfl) fun _ hS => ?_
    refine sI hS (runs_move rfl) fun _ hS => ?_
    refine sI hS (runs_indexAddrG (j := i) rfl rfl undLMM szLM rfl hlt1) fun _ hS => ?_
    refine sI hS (runs_load rfl plLM (by rw [Nat.mul_one]; exact hcu)) fun _ hS => ?_
    refine sI hS (runs_len rfl und32) fun _ hS => ?_
    by_cases hx10 : 10 < x.length
    · skip
      refine sI hS (gtrT rfl rfl (by omega)) fun _ hS => ?_
      refine nil_ok (wp_cond_true (hS.eval rfl) (qx_seq (reg_seq ?_)))
      refine sI hS (runs_assign rfl) fun _ hS => ?_
      exact nil_ok (qx_ret (ret1 (t := 10) (by kernel_rfl) hS rfl ⟨_, rfl, rfl, hBprel.trans ((hBb1.trans (hB.mono hBb1.size)).mono hBprel.size)⟩))
    refine sI hS (gtrF rfl rfl (by omega)) fun _ hS => ?_
    refine nil_ok (wp_cond_false (hS.eval rfl) (wp_skip (reg_seq ?_)))
    refine sI hS (runs_move rfl) fun _ hS => ?_
    refine sI hS (runs_add (r := ((i + 1 : Nat) : Int)) rfl rfl (by simp [IntKind.wrap, IntKind.bits, IntKind.signed]; omega)) fun _ hS => ?_
    refine sI hS (runs_assign rfl) fun _ hS => ?_
    exact nil_ok ⟨_, by omega, i + 1, by omega, rfl, hBb1.trans (hB.mono hBb1.size), by rw [List.take_add_one, hx]; exact small_snoc hsm (Nat.le_of_not_lt hx10), hS.only _ ⟨rfl, rfl, rfl, rfl, rfl, rfl, trivial⟩⟩
  refine sI hS (lssF rfl rfl (by omega)) fun _ hS => ?_
  obtain rfl : i = outs.length := by omega
  refine nil_ok ⟨_, hS.eval rfl, fun _ => ?_, fun h => by simp at h⟩
  have hB := hBb1
  rw [List.take_length] at hsm
  have hfo : FitsO outs := fun m hm => ⟨Nat.le_trans (hsm m hm) (by omega), hf m hm⟩
  refine qx_seq (reg_seq ?_)
  refine sI hS (runs_move rfl) fun _ hS => ?_
  refine sI hS (runs_move rfl) fun _ hS => ?_
  refine seq_op hS (by decide) (none_ownV (B := w.heap.size) ((hBprel.trans ((hB).mono hBprel.size)).size)) (fun v11 w11 a1 hp hS => ?_)
  obtain ⟨⟨gv, rfl, -⟩, hB11⟩ := hp
  have hB := hB.trans (hB11.mono hB.size)
  have hM1 := hM1b.below hB hM1b.lt
  have hV := hV.kept hB11
  have hO := hO.kept hB11
  have hC := hC.kept hB11
  have hHd := hHd.kept hB11
  refine sI hS (runs_move rfl) fun _ hS => ?_
  refine seq_op hS (by decide) (copy_V hV (by omega) rfl ⟨_, rfl⟩ rfl) (fun v13 w13 a1 hp hS => ?_)
  obtain ⟨hV1, hB13⟩ := hp
  have hB := hB.trans (hB13.mono hB.size)
  have hM1 := hM1b.below hB hM1b.lt
  have hV := hV.kept hB13
  have hO := hO.kept hB13
  have hC := hC.kept hB13
  have hHd := hHd.kept hB13
  refine seq_op hS (by decide) (none_ownO (B := w.heap.size) ((hBprel.trans ((hB).mono hBprel.size)).size)) (fun v15 w15 a1 hp hS => ?_)
  obtain ⟨⟨go, rfl, -⟩, hB15⟩ := hp
  have hB := hB.trans (hB15.mono hB.size)
  have hM1 := hM1b.below hB hM1b.lt
  have hV := hV.kept hB15
  have hO := hO.kept hB15
  have hC := hC.kept hB15
  have hHd := hHd.kept hB15
  have hV1 := hV1.kept hB15
  refine sI hS (runs_move rfl) fun _ hS => ?_
  refine seq_op hS (by decide) (copy_O hO (by omega) rfl ⟨_, rfl⟩ rfl) (fun v17 w17 a1 hp hS => ?_)
  obtain ⟨hO1, hB17⟩ := hp
  have hB := hB.trans (hB17.mono hB.size)
  have hM1 := hM1b.below hB hM1b.lt
  have hV := hV.kept hB17
  have hO := hO.kept hB17
  have hC := hC.kept hB17
  have hHd := hHd.kept hB17
  have hV1 := hV1.kept hB17
  refine seq_op hS (by decide) (runs_call (args := [.int .i64 p, .int .i64 q, v13, v17]) goes5 rfl (hMk p q l outs _ _ w17 hpp hqq hV1 (by omega) hO1 (by omega) hfo (hk.below (hBprel.trans ((hB).mono hBprel.size)) hk.pos))) (fun v19 w19 a1 hp hS => ?_)
  obtain ⟨um, rfl, hM, hB19⟩ := hp
  obtain ⟨mk, hmk⟩ : ∃ m, makeM p q l outs = m := ⟨_, rfl⟩
  rw [hmk] at hM hS
  have hB := hB.trans (hB19.mono hB.size)
  have hM1 := hM1b.below hB hM1b.lt
  have hV := hV.kept hB19
  have hO := hO.kept hB19
  have hC := hC.kept hB19
  have hHd := hHd.kept hB19
  obtain ⟨mm, hmm⟩ : ∃ m, (if rightC mk = true then mk else noCm) = m := ⟨_, rfl⟩
  rw [hmm] at hM
  obtain ⟨xm, rfl, hHm, hlm, hbym⟩ := id hM
  obtain ⟨Am, cm_, rfl, -, -, hHom, -⟩ := id hHm
  have hBprem := hB
  have hB := Below.refl w19.heap.size w19
  have hM1b := hM1
  have hVb := hV
  have hOb := hO
  have hCb := hC
  have hHdb := hHd
  have hMb := hM
  refine sI hS (runs_move rfl) fun _ hS => ?_
  refine sI hS (runs_extract rfl rfl) fun _ hS => ?_
  refine sI hS (runs_extract rfl rfl) fun _ hS => ?_
  refine seq_op hS (by decide) (runs_allocB (cs := cmc noCm (.slice none 0 0)) zoC rfl) (fun v21 w21 a1 hp hS => ?_)
  obtain ⟨rfl, hM21, hB21⟩ := hp
  have hLhM21 : w19.heap.size ≤ w19.heap.size := hB.size
  have hB := hB.trans (hB21.mono hB.size)
  have hM1 := hM1b.below hB hM1b.lt
  have hV := hVb.kept hB
  have hO := hOb.kept hB
  have hC := hCb.kept hB
  have hHd := hHdb.kept hB
  have hM := hMb.kept hB
  refine seq_none hS (runs_storeB (cs := cmc mm (.slice Am mm.bs.length cm_)) rfl rfl hM21 ((cmc_len noCm_len).trans (cmc_len hlm).symm) (cm_one rfl) (by rw [szC, cmc_len hlm])) (fun v23 w23 a1 hp hS => ?_)
  obtain ⟨hM21, hU23⟩ := hp
  have hB := But.new hB hU23 (fun i e => by rw [e]; exact hLhM21) (Nat.le_refl _)
  have hM1 := hM1b.below hB hM1b.lt
  have hV := hVb.kept hB
  have hO := hOb.kept hB
  have hC := hCb.kept hB
  have hHd := hHdb.kept hB
  have hM := hMb.kept hB
  refine sI hS (runs_assign rfl) fun _ hS => ?_
  refine nil_ok (qx_seq (reg_seq ?_))
  refine sI hS (runs_move rfl) fun _ hS => ?_
  refine sI hS (runs_move rfl) fun _ hS => ?_
  refine sI hS (runs_move rfl) fun _ hS => ?_
  refine sI hS (runs_move rfl) fun _ hS => ?_
  refine seq_op hS (by decide) (runs_call (args := [.int .i64 p, .int .i64 q, .slice Al l.length cl_, .slice Ao outs.length co]) goes6 rfl (hRM p q l outs _ _ w23 hV (by omega) hO (by omega) hfo (hk.below (hBprel.trans ((hBprem.trans ((hB).mono hBprem.size)).mono hBprel.size)) hk.pos))) (fun v25 w25 a1 hp hS => ?_)
  obtain ⟨hR0, hB25⟩ := hp
  rw [hmk] at hR0
  obtain ⟨xr, rfl, hHr, hlr, hbyr⟩ := id hR0
  obtain ⟨Ar, cr, rfl, -, -, hHor, -⟩ := id hHr
  have hB := hB.trans (hB25.mono hB.size)
  have hM1 := hM1b.below hB hM1b.lt
  have hM21 := hM21.below hB25 hM21.lt
  have hV := hVb.kept hB
  have hO := hOb.kept hB
  have hC := hCb.kept hB
  have hHd := hHdb.kept hB
  have hM := hMb.kept hB
  have hkB : keepsB c l outs = (decide (c.root = mk.root) && decide (c.bs = mk.bs)) := by rw [← hmk]; rfl
  have hBprer := hB
  have hB := Below.refl w25.heap.size w25
  have hM1b := hM1
  have hM21b := hM21
  have hVb := hV
  have hOb := hO
  have hCb := hC
  have hHdb := hHd
  have hMb := hM
  have hR0b := hR0
  have hHrb := hHr
  refine seq_op hS (by decide) (runs_allocB (cs := cmc noCm (.slice none 0 0)) zoC rfl) (fun v27 w27 a1 hp hS => ?_)
  obtain ⟨rfl, hM27, hB27⟩ := hp
  have hLhM27 : w25.heap.size ≤ w25.heap.size := hB.size
  have hB := hB.trans (hB27.mono hB.size)
  have hM1 := hM1b.below hB hM1b.lt
  have hM21 := hM21b.below hB hM21b.lt
  have hV := hVb.kept hB
  have hO := hOb.kept hB
  have hC := hCb.kept hB
  have hHd := hHdb.kept hB
  have hM := hMb.kept hB
  have hR0 := hR0b.kept hB
  have hHr := hHrb.kept hB
  refine seq_none hS (runs_storeB (cs := cmc mk (.slice Ar mk.bs.length cr)) rfl rfl hM27 ((cmc_len noCm_len).trans (cmc_len hlr).symm) (cm_one rfl) (by rw [szC, cmc_len hlr])) (fun v29 w29 a1 hp hS => ?_)
  obtain ⟨hM27, hU29⟩ := hp
  have hB := But.new hB hU29 (fun i e => by rw [e]; exact hLhM27) (Nat.le_refl _)
  have hM1 := hM1b.below hB hM1b.lt
  have hM21 := hM21b.below hB hM21b.lt
  have hV := hVb.kept hB
  have hO := hOb.kept hB
  have hC := hCb.kept hB
  have hHd := hHdb.kept hB
  have hM := hMb.kept hB
  have hR0 := hR0b.kept hB
  have hHr := hHrb.kept hB
  refine nil_ok (qx_seq (reg_seq ?_))
  refine sI hS (runs_fieldK foC_2 rfl) fun _ hS => ?_
  refine sI hS (runs_loadMid rfl (cm_root hM1 hld) Tryz.underlying25 rfl (by rw [infHash, U8_length, hld])) fun _ hS => ?_
  refine sI hS (runs_fieldK foC_2 rfl) fun _ hS => ?_
  refine sI hS (runs_loadMid rfl (cm_root hM27 hlr) Tryz.underlying25 rfl (by rw [infHash, U8_length, hlr])) fun _ hS => ?_
  by_cases hq : c.root = mk.root
  · skip
    refine sI hS (runs_eqHash (r := true) rfl rfl hld hlr (by rw [hq]; simp)) fun _ hS => ?_
    refine sI hS (runs_move rfl) fun _ hS => ?_
    refine sY hS (runs_fieldK foC_3 rfl) fun _ hS => ?_
    refine sY hS (runs_load rfl pl924 (hM1.at (cm_v hld))) fun _ hS => ?_
    refine sY hS (runs_buildK (pv := [(3, (.slice Ad c.bs.length ccd))]) (cells := (cmc (⟨0, 0, zero32, c.bs⟩ : Cm) (.slice Ad c.bs.length ccd)).toArray) rfl (built_B _ _ _ _)) fun _ hS => ?_
    refine sY hS (runs_fieldK foC_3 rfl) fun _ hS => ?_
    refine sY hS (runs_load rfl pl924 (hM27.at (cm_v hlr))) fun _ hS => ?_
    refine sY hS (runs_buildK (pv := [(3, (.slice Ar mk.bs.length cr))]) (cells := (cmc (⟨0, 0, zero32, mk.bs⟩ : Cm) (.slice Ar mk.bs.length cr)).toArray) rfl (built_B _ _ _ _)) fun _ hS => ?_
    refine seq_yes hS (by decide) rfl (by decide) rfl (runs_call (args := [.agg (cmc (⟨0, 0, zero32, c.bs⟩ : Cm) (.slice Ad c.bs.length ccd)).toArray, .agg (cmc (⟨0, 0, zero32, mk.bs⟩ : Cm) (.slice Ar mk.bs.length cr)).toArray]) goes7 rfl (rsame_any (⟨0, 0, zero32, c.bs⟩ : Cm) (⟨0, 0, zero32, mk.bs⟩ : Cm) _ _ w29 (cmv_only hHd) (cmv_only hHr))) (fun v31 w31 a1 hp hS => ?_)
    obtain ⟨rfl, hB31⟩ := hp
    have hB := hB.trans (hB31.mono hB.size)
    have hM1 := hM1b.below hB hM1b.lt
    have hM21 := hM21b.below hB hM21b.lt
    have hM27 := hM27.below hB31 hM27.lt
    have hV := hVb.kept hB
    have hO := hOb.kept hB
    have hC := hCb.kept hB
    have hM := hMb.kept hB
    have hR0 := hR0b.kept hB
    rw [show decide ((⟨0, 0, zero32, c.bs⟩ : Cm) = (⟨0, 0, zero32, mk.bs⟩ : Cm)) = decide (c.bs = mk.bs) by simp] at hS
    refine sI hS (runs_pick rfl rfl) fun _ hS => ?_
    refine sI hS (runs_assign rfl) fun _ hS => ?_
    refine nil_ok (qx_seq (qx_seq (reg_seq ?_)))
    refine sI hS (runs_loadRow rfl hM1 Tryz.underlying28 rfl (by rw [szC, cmc_len hld])) fun _ hS => ?_
    refine seq_op hS (by decide) (runs_call (args := [.agg (cmc c (.slice Ad c.bs.length ccd)).toArray]) goes9 rfl (own_any c _ w31 hC (by omega))) (fun v33 w33 a1 hp hS => ?_)
    obtain ⟨hO9, hB33⟩ := hp
    have hB := hB.trans (hB33.mono hB.size)
    have hM1 := hM1b.below hB hM1b.lt
    have hM21 := hM21b.below hB hM21b.lt
    have hM27 := hM27.below hB33 hM27.lt
    have hV := hVb.kept hB
    have hO := hOb.kept hB
    have hC := hCb.kept hB
    have hM := hMb.kept hB
    have hR0 := hR0b.kept hB
    refine seq_op hS (by decide) (none_ownV (B := w.heap.size) ((hBprel.trans ((hBprem.trans ((hBprer.trans ((hB).mono hBprer.size)).mono hBprem.size)).mono hBprel.size)).size)) (fun v35 w35 a1 hp hS => ?_)
    obtain ⟨⟨gv2, rfl, -⟩, hB35⟩ := hp
    have hB := hB.trans (hB35.mono hB.size)
    have hM1 := hM1b.below hB hM1b.lt
    have hM21 := hM21b.below hB hM21b.lt
    have hM27 := hM27.below hB35 hM27.lt
    have hV := hVb.kept hB
    have hO := hOb.kept hB
    have hC := hCb.kept hB
    have hM := hMb.kept hB
    have hR0 := hR0b.kept hB
    have hO9 := hO9.kept hB35
    refine sI hS (runs_move rfl) fun _ hS => ?_
    refine seq_op hS (by decide) (copy_V hV (by omega) rfl ⟨_, rfl⟩ rfl) (fun v37 w37 a1 hp hS => ?_)
    obtain ⟨hV2, hB37⟩ := hp
    have hB := hB.trans (hB37.mono hB.size)
    have hM1 := hM1b.below hB hM1b.lt
    have hM21 := hM21b.below hB hM21b.lt
    have hM27 := hM27.below hB37 hM27.lt
    have hV := hVb.kept hB
    have hO := hOb.kept hB
    have hC := hCb.kept hB
    have hM := hMb.kept hB
    have hR0 := hR0b.kept hB
    have hO9 := hO9.kept hB37
    refine seq_op hS (by decide) (none_ownO (B := w.heap.size) ((hBprel.trans ((hBprem.trans ((hBprer.trans ((hB).mono hBprer.size)).mono hBprem.size)).mono hBprel.size)).size)) (fun v39 w39 a1 hp hS => ?_)
    obtain ⟨⟨go2, rfl, -⟩, hB39⟩ := hp
    have hB := hB.trans (hB39.mono hB.size)
    have hM1 := hM1b.below hB hM1b.lt
    have hM21 := hM21b.below hB hM21b.lt
    have hM27 := hM27.below hB39 hM27.lt
    have hV := hVb.kept hB
    have hO := hOb.kept hB
    have hC := hCb.kept hB
    have hM := hMb.kept hB
    have hR0 := hR0b.kept hB
    have hO9 := hO9.kept hB39
    have hV2 := hV2.kept hB39
    refine sI hS (runs_move rfl) fun _ hS => ?_
    refine seq_op hS (by decide) (copy_O hO (by omega) rfl ⟨_, rfl⟩ rfl) (fun v41 w41 a1 hp hS => ?_)
    obtain ⟨hO2, hB41⟩ := hp
    have hB := hB.trans (hB41.mono hB.size)
    have hM1 := hM1b.below hB hM1b.lt
    have hM21 := hM21b.below hB hM21b.lt
    have hM27 := hM27.below hB41 hM27.lt
    have hV := hVb.kept hB
    have hO := hOb.kept hB
    have hC := hCb.kept hB
    have hM := hMb.kept hB
    have hR0 := hR0b.kept hB
    have hO9 := hO9.kept hB41
    have hV2 := hV2.kept hB41
    refine seq_op hS (by decide) (runs_call (args := [v33, v37, v41]) goes8 rfl (hKp c l outs _ _ _ w41 hO9 (by omega) hV2 (by omega) hO2 (by omega) hfo (hk.below (hBprel.trans ((hBprem.trans ((hBprer.trans ((hB).mono hBprer.size)).mono hBprem.size)).mono hBprel.size)) hk.pos))) (fun v43 w43 a1 hp hS => ?_)
    obtain ⟨rfl, hB43⟩ := hp
    rw [hkB] at hS
    have hB := hB.trans (hB43.mono hB.size)
    have hM1 := hM1b.below hB hM1b.lt
    have hM21 := hM21b.below hB hM21b.lt
    have hM27 := hM27.below hB43 hM27.lt
    have hV := hVb.kept hB
    have hO := hOb.kept hB
    have hC := hCb.kept hB
    have hM := hMb.kept hB
    have hR0 := hR0b.kept hB
    have hO9 := hO9.kept hB43
    have hV2 := hV2.kept hB43
    have hO2 := hO2.kept hB43
    refine sI hS (runs_move rfl) fun _ hS => ?_
    refine sI hS (runs_neB (r := false) rfl rfl (by simp [hq])) fun _ hS => ?_
    refine nil_ok (wp_cond_false (hS.eval rfl) (wp_skip (qx_seq (qx_seq (reg_seq ?_)))))
    refine sI hS (runs_loadRow rfl hM27 Tryz.underlying28 rfl (by rw [szC, cmc_len hlr])) fun _ hS => ?_
    refine seq_op hS (by decide) (runs_call (args := [.agg (cmc mk (.slice Ar mk.bs.length cr)).toArray]) goes10 rfl (rrightC_any mk _ w43 hR0)) (fun v45 w45 a1 hp hS => ?_)
    obtain ⟨rfl, hB45⟩ := hp
    have hB := hB.trans (hB45.mono hB.size)
    have hM1 := hM1b.below hB hM1b.lt
    have hM21 := hM21b.below hB hM21b.lt
    have hM27 := hM27.below hB45 hM27.lt
    have hV := hVb.kept hB
    have hO := hOb.kept hB
    have hC := hCb.kept hB
    have hM := hMb.kept hB
    have hR0 := hR0b.kept hB
    have hO9 := hO9.kept hB45
    have hV2 := hV2.kept hB45
    have hO2 := hO2.kept hB45
    by_cases hr : rightC mk = true
    · skip
      rw [hr] at hS
      refine sI hS (runs_not (b := true) rfl) fun _ hS => ?_
      refine nil_ok (wp_cond_false (hS.eval rfl) (wp_skip (qx_seq (?_))))
      have hmn : mm = mk := by rw [← hmm, if_pos hr]
      have hk1 : keepsB mk l outs = true := by rw [← hmk]; simp [keepsB, makeM]
      have hbl : mk.bs.length ≤ 10000 := by have := ((rightC_iff mk).1 hr).2.2.2.2.2; omega
      have hblm : mm.bs.length ≤ 10000 := by rw [hmn]; exact hbl
      refine reg_guard (fun w' => Below w45.heap.size w45 w') [.inl (.int .i64 (chkC mk)), .inl (.bool true), .inl (.bool true), .inl (.agg (cmc mm (.slice Am mm.bs.length cm_)).toArray), .inl (.agg (cmc mk (.slice Ar mk.bs.length cr)).toArray), .inl (.bool true), .inl (.bool true), .inl (.bool true), .inl (.agg (cmc mm (.slice Am mm.bs.length cm_)).toArray), .inr (fun v _ => ∃ g, v = .slice (some ⟨g, 0, none⟩) 0 0), .inl (.slice Al l.length cl_), .inr (fun v w' => Verts w' v l), .inr (fun v _ => ∃ g, v = .slice (some ⟨g, 0, none⟩) 0 0), .inl (.slice Ao outs.length co), .inr (fun v w' => Outs w' v outs), .inl (.bool true), .inl (.bool true), .inl (.bool true)] 18 0 mixed rfl (by kernel_rfl) hS (Below.refl _ _) (fun _ h => h.drew) ?_
      refine hs_is rfl (fun w' hw => runs_move rfl) ?_
      refine hs_is rfl (fun w' hw => runs_eql (r := true) rfl rfl (by rw [chkC_ok hr]; rfl)) ?_
      refine hs_is rfl (fun w' hw => runs_move rfl) ?_
      refine hs_yis rfl rfl (fun w' hw => runs_loadRow rfl (hM21.below hw hM21.lt) Tryz.underlying28 rfl (by rw [szC, cmc_len hlm])) ?_
      refine hs_yis rfl rfl (fun w' hw => runs_loadRow rfl (hM27.below hw hM27.lt) Tryz.underlying28 rfl (by rw [szC, cmc_len hlr])) ?_
      refine hs_yval rfl rfl (fun w' hw hq => (runs_call (args := [.agg (cmc mm (.slice Am mm.bs.length cm_)).toArray, .agg (cmc mk (.slice Ar mk.bs.length cr)).toArray]) goes7 rfl (rsame_any mm mk _ _ w' (hM.kept hw) (hR0.kept hw))).mono (by rintro u w5 ⟨rfl, hb⟩; exact ⟨by simp [hmn], hw.trans (hb.mono hw.size), hb⟩)) ?_
      refine hs_is rfl (fun w' hw => runs_pick rfl rfl) ?_
      refine hs_is rfl (fun w' hw => runs_move rfl) ?_
      refine hs_yis rfl rfl (fun w' hw => runs_loadRow rfl (hM21.below hw hM21.lt) Tryz.underlying28 rfl (by rw [szC, cmc_len hlm])) ?_
      refine hs_ypr rfl rfl (fun _ _ _ h _ => h) (fun w' hw hq => (none_ownV (B := w'.heap.size) (Nat.le_refl _)).mono (by rintro u w5 ⟨⟨g, rfl, -⟩, hb⟩; exact ⟨⟨g, rfl⟩, hw.trans (hb.mono hw.size), hb⟩)) (fun ea => ?_)
      refine hs_yis rfl rfl (fun w' hw => runs_move rfl) ?_
      refine hs_ypr rfl rfl (fun _ _ _ h hk => h.kept hk) (fun w' hw hq => (copy_V (hV.kept hw) (by omega) rfl (hq (9, _) List.mem_cons_self (by kernel_rfl)) rfl).mono (by rintro u w5 ⟨h, hb⟩; exact ⟨h, hw.trans (hb.mono hw.size), hb⟩)) (fun va => ?_)
      refine hs_ypr rfl rfl (fun _ _ _ h _ => h) (fun w' hw hq => (none_ownO (B := w'.heap.size) (Nat.le_refl _)).mono (by rintro u w5 ⟨⟨g, rfl, -⟩, hb⟩; exact ⟨⟨g, rfl⟩, hw.trans (hb.mono hw.size), hb⟩)) (fun eb => ?_)
      refine hs_yis rfl rfl (fun w' hw => runs_move rfl) ?_
      refine hs_ypr rfl rfl (fun _ _ _ h hk => h.kept hk) (fun w' hw hq => (copy_O (hO.kept hw) (by omega) rfl (hq (12, _) List.mem_cons_self (by kernel_rfl)) rfl).mono (by rintro u w5 ⟨h, hb⟩; exact ⟨h, hw.trans (hb.mono hw.size), hb⟩)) (fun vb => ?_)
      refine hs_yval rfl rfl (fun w' hw hq => (runs_call (args := [.agg (cmc mm (.slice Am mm.bs.length cm_)).toArray, va, vb]) goes8 rfl (hKp mm l outs _ _ _ w' (hM.kept hw) hblm (hq (11, _) (List.mem_cons_of_mem _ (List.mem_cons_of_mem _ List.mem_cons_self)) (by kernel_rfl)) (by omega) (hq (14, _) List.mem_cons_self (by kernel_rfl)) (by omega) hfo (hk.below ((hBprel.trans ((hBprem.trans ((hBprer.trans ((hB).mono hBprer.size)).mono hBprem.size)).mono hBprel.size)).trans (hw.mono (hBprel.trans ((hBprem.trans ((hBprer.trans ((hB).mono hBprer.size)).mono hBprem.size)).mono hBprel.size)).size)) hk.pos))).mono (by rintro u w5 ⟨rfl, hb⟩; exact ⟨by rw [hmn, hk1], hw.trans (hb.mono hw.size), hb⟩)) ?_
      refine hs_is rfl (fun w' hw => runs_pick rfl rfl) ?_
      refine hs_is rfl (fun w' hw => runs_assign rfl) ?_
      refine (fun a47 w47 hS hB47 hq => ?_)
      have hn_ea := (hq (9, _) (List.mem_cons_of_mem _ (List.mem_cons_of_mem _ (List.mem_cons_of_mem _ List.mem_cons_self))))
      have hn_va := (hq (11, _) (List.mem_cons_of_mem _ (List.mem_cons_of_mem _ List.mem_cons_self)))
      have hn_eb := (hq (12, _) (List.mem_cons_of_mem _ List.mem_cons_self))
      have hn_vb := (hq (14, _) List.mem_cons_self)
      clear hq
      have hB := hB.trans (hB47.mono hB.size)
      have hM1 := hM1b.below hB hM1b.lt
      have hM21 := hM21b.below hB hM21b.lt
      have hM27 := hM27.below hB47 hM27.lt
      have hV := hVb.kept hB
      have hO := hOb.kept hB
      have hC := hCb.kept hB
      have hM := hMb.kept hB
      have hR0 := hR0b.kept hB
      have hO9 := hO9.kept hB47
      have hV2 := hV2.kept hB47
      have hO2 := hO2.kept hB47
      refine wpAnyH_done (by kernel_rfl) ?_ _
      exact qx_ret (ret1 (t := 10) (by kernel_rfl) hS rfl ⟨_, rfl, rfl, hBprel.trans ((hBprem.trans ((hBprer.trans ((hB).mono hBprer.size)).mono hBprem.size)).mono hBprel.size)⟩)
    · skip
      rw [Bool.eq_false_iff.2 hr] at hS
      refine sI hS (runs_not (b := false) rfl) fun _ hS => ?_
      refine nil_ok (wp_cond_true (hS.eval rfl) (qx_seq (reg_seq ?_)))
      refine sI hS (runs_move rfl) fun _ hS => ?_
      refine sI hS (runs_eql (r := true) rfl rfl (by rw [chkC_bad hr]; rfl)) fun _ hS => ?_
      refine sI hS (runs_move rfl) fun _ hS => ?_
      refine sY hS (runs_loadRow rfl hM21 Tryz.underlying28 rfl (by rw [szC, cmc_len hlm])) fun _ hS => ?_
      refine sY hS (runs_buildK (pv := []) (cells := (cmc noCm (.slice none 0 0)).toArray) rfl built_0) fun _ hS => ?_
      have hmn : mm = noCm := by rw [← hmm, if_neg hr]
      refine seq_yes hS (by decide) rfl (by decide) rfl (runs_call (args := [.agg (cmc mm (.slice Am mm.bs.length cm_)).toArray, .agg (cmc noCm (.slice none 0 0)).toArray]) goes7 rfl (rsame_any mm noCm _ _ w45 hM (cmv_no _))) (fun v49 w49 a1 hp hS => ?_)
      obtain ⟨rfl, hB49⟩ := hp
      have hB := hB.trans (hB49.mono hB.size)
      have hM1 := hM1b.below hB hM1b.lt
      have hM21 := hM21b.below hB hM21b.lt
      have hM27 := hM27.below hB49 hM27.lt
      have hV := hVb.kept hB
      have hO := hOb.kept hB
      have hC := hCb.kept hB
      have hM := hMb.kept hB
      have hR0 := hR0b.kept hB
      have hO9 := hO9.kept hB49
      have hV2 := hV2.kept hB49
      have hO2 := hO2.kept hB49
      rw [show decide (mm = noCm) = true by simp [hmn]] at hS
      refine sI hS (runs_pick rfl rfl) fun _ hS => ?_
      refine sI hS (runs_assign rfl) fun _ hS => ?_
      exact nil_ok (qx_ret (ret1 (t := 10) (by kernel_rfl) hS rfl ⟨_, rfl, rfl, hBprel.trans ((hBprem.trans ((hBprer.trans ((hB).mono hBprer.size)).mono hBprem.size)).mono hBprel.size)⟩))
  refine sI hS (runs_eqHash (r := false) rfl rfl hld hlr (by rw [beq_eq_false_iff_ne]; exact hq)) fun _ hS => ?_
  refine sI hS (runs_move rfl) fun _ hS => ?_
  refine sN hS fun _ hS => ?_
  refine sN hS fun _ hS => ?_
  refine sN hS fun _ hS => ?_
  refine sN hS fun _ hS => ?_
  refine sN hS fun _ hS => ?_
  refine sN hS fun _ hS => ?_
  refine sN hS fun _ hS => ?_
  refine sI hS (runs_pick rfl rfl) fun _ hS => ?_
  refine sI hS (runs_assign rfl) fun _ hS => ?_
  refine nil_ok (qx_seq (qx_seq (reg_seq ?_)))
  refine sI hS (runs_loadRow rfl hM1 Tryz.underlying28 rfl (by rw [szC, cmc_len hld])) fun _ hS => ?_
  refine seq_op hS (by decide) (runs_call (args := [.agg (cmc c (.slice Ad c.bs.length ccd)).toArray]) goes9 rfl (own_any c _ w29 hC (by omega))) (fun v51 w51 a1 hp hS => ?_)
  obtain ⟨hO9, hB51⟩ := hp
  have hB := hB.trans (hB51.mono hB.size)
  have hM21 := hM21b.below hB hM21b.lt
  have hM27 := hM27.below hB51 hM27.lt
  have hV := hVb.kept hB
  have hO := hOb.kept hB
  have hM := hMb.kept hB
  have hR0 := hR0b.kept hB
  refine seq_op hS (by decide) (none_ownV (B := w.heap.size) ((hBprel.trans ((hBprem.trans ((hBprer.trans ((hB).mono hBprer.size)).mono hBprem.size)).mono hBprel.size)).size)) (fun v53 w53 a1 hp hS => ?_)
  obtain ⟨⟨gv2, rfl, -⟩, hB53⟩ := hp
  have hB := hB.trans (hB53.mono hB.size)
  have hM21 := hM21b.below hB hM21b.lt
  have hM27 := hM27.below hB53 hM27.lt
  have hV := hVb.kept hB
  have hO := hOb.kept hB
  have hM := hMb.kept hB
  have hR0 := hR0b.kept hB
  have hO9 := hO9.kept hB53
  refine sI hS (runs_move rfl) fun _ hS => ?_
  refine seq_op hS (by decide) (copy_V hV (by omega) rfl ⟨_, rfl⟩ rfl) (fun v55 w55 a1 hp hS => ?_)
  obtain ⟨hV2, hB55⟩ := hp
  have hB := hB.trans (hB55.mono hB.size)
  have hM21 := hM21b.below hB hM21b.lt
  have hM27 := hM27.below hB55 hM27.lt
  have hV := hVb.kept hB
  have hO := hOb.kept hB
  have hM := hMb.kept hB
  have hR0 := hR0b.kept hB
  have hO9 := hO9.kept hB55
  refine seq_op hS (by decide) (none_ownO (B := w.heap.size) ((hBprel.trans ((hBprem.trans ((hBprer.trans ((hB).mono hBprer.size)).mono hBprem.size)).mono hBprel.size)).size)) (fun v57 w57 a1 hp hS => ?_)
  obtain ⟨⟨go2, rfl, -⟩, hB57⟩ := hp
  have hB := hB.trans (hB57.mono hB.size)
  have hM21 := hM21b.below hB hM21b.lt
  have hM27 := hM27.below hB57 hM27.lt
  have hV := hVb.kept hB
  have hO := hOb.kept hB
  have hM := hMb.kept hB
  have hR0 := hR0b.kept hB
  have hO9 := hO9.kept hB57
  have hV2 := hV2.kept hB57
  refine sI hS (runs_move rfl) fun _ hS => ?_
  refine seq_op hS (by decide) (copy_O hO (by omega) rfl ⟨_, rfl⟩ rfl) (fun v59 w59 a1 hp hS => ?_)
  obtain ⟨hO2, hB59⟩ := hp
  have hB := hB.trans (hB59.mono hB.size)
  have hM21 := hM21b.below hB hM21b.lt
  have hM27 := hM27.below hB59 hM27.lt
  have hV := hVb.kept hB
  have hO := hOb.kept hB
  have hM := hMb.kept hB
  have hR0 := hR0b.kept hB
  have hO9 := hO9.kept hB59
  have hV2 := hV2.kept hB59
  refine seq_op hS (by decide) (runs_call (args := [v51, v55, v59]) goes8 rfl (hKp c l outs _ _ _ w59 hO9 (by omega) hV2 (by omega) hO2 (by omega) hfo (hk.below (hBprel.trans ((hBprem.trans ((hBprer.trans ((hB).mono hBprer.size)).mono hBprem.size)).mono hBprel.size)) hk.pos))) (fun v61 w61 a1 hp hS => ?_)
  obtain ⟨rfl, hB61⟩ := hp
  rw [hkB] at hS
  have hB := hB.trans (hB61.mono hB.size)
  have hM21 := hM21b.below hB hM21b.lt
  have hM27 := hM27.below hB61 hM27.lt
  have hV := hVb.kept hB
  have hO := hOb.kept hB
  have hM := hMb.kept hB
  have hR0 := hR0b.kept hB
  refine sI hS (runs_move rfl) fun _ hS => ?_
  refine sI hS (runs_neB (r := false) rfl rfl (by simp [hq])) fun _ hS => ?_
  refine nil_ok (wp_cond_false (hS.eval rfl) (wp_skip (qx_seq (qx_seq (reg_seq ?_)))))
  refine sI hS (runs_loadRow rfl hM27 Tryz.underlying28 rfl (by rw [szC, cmc_len hlr])) fun _ hS => ?_
  refine seq_op hS (by decide) (runs_call (args := [.agg (cmc mk (.slice Ar mk.bs.length cr)).toArray]) goes10 rfl (rrightC_any mk _ w61 hR0)) (fun v63 w63 a1 hp hS => ?_)
  obtain ⟨rfl, hB63⟩ := hp
  have hB := hB.trans (hB63.mono hB.size)
  have hM21 := hM21b.below hB hM21b.lt
  have hM27 := hM27.below hB63 hM27.lt
  have hV := hVb.kept hB
  have hO := hOb.kept hB
  have hM := hMb.kept hB
  have hR0 := hR0b.kept hB
  by_cases hr : rightC mk = true
  · skip
    rw [hr] at hS
    refine sI hS (runs_not (b := true) rfl) fun _ hS => ?_
    refine nil_ok (wp_cond_false (hS.eval rfl) (wp_skip (qx_seq (?_))))
    have hmn : mm = mk := by rw [← hmm, if_pos hr]
    have hk1 : keepsB mk l outs = true := by rw [← hmk]; simp [keepsB, makeM]
    have hbl : mk.bs.length ≤ 10000 := by have := ((rightC_iff mk).1 hr).2.2.2.2.2; omega
    have hblm : mm.bs.length ≤ 10000 := by rw [hmn]; exact hbl
    refine reg_guard (fun w' => Below w63.heap.size w63 w') [.inl (.int .i64 (chkC mk)), .inl (.bool true), .inl (.bool true), .inl (.agg (cmc mm (.slice Am mm.bs.length cm_)).toArray), .inl (.agg (cmc mk (.slice Ar mk.bs.length cr)).toArray), .inl (.bool true), .inl (.bool true), .inl (.bool true), .inl (.agg (cmc mm (.slice Am mm.bs.length cm_)).toArray), .inr (fun v _ => ∃ g, v = .slice (some ⟨g, 0, none⟩) 0 0), .inl (.slice Al l.length cl_), .inr (fun v w' => Verts w' v l), .inr (fun v _ => ∃ g, v = .slice (some ⟨g, 0, none⟩) 0 0), .inl (.slice Ao outs.length co), .inr (fun v w' => Outs w' v outs), .inl (.bool true), .inl (.bool true), .inl (.bool true)] 18 0 mixed rfl (by kernel_rfl) hS (Below.refl _ _) (fun _ h => h.drew) ?_
    refine hs_is rfl (fun w' hw => runs_move rfl) ?_
    refine hs_is rfl (fun w' hw => runs_eql (r := true) rfl rfl (by rw [chkC_ok hr]; rfl)) ?_
    refine hs_is rfl (fun w' hw => runs_move rfl) ?_
    refine hs_yis rfl rfl (fun w' hw => runs_loadRow rfl (hM21.below hw hM21.lt) Tryz.underlying28 rfl (by rw [szC, cmc_len hlm])) ?_
    refine hs_yis rfl rfl (fun w' hw => runs_loadRow rfl (hM27.below hw hM27.lt) Tryz.underlying28 rfl (by rw [szC, cmc_len hlr])) ?_
    refine hs_yval rfl rfl (fun w' hw hq => (runs_call (args := [.agg (cmc mm (.slice Am mm.bs.length cm_)).toArray, .agg (cmc mk (.slice Ar mk.bs.length cr)).toArray]) goes7 rfl (rsame_any mm mk _ _ w' (hM.kept hw) (hR0.kept hw))).mono (by rintro u w5 ⟨rfl, hb⟩; exact ⟨by simp [hmn], hw.trans (hb.mono hw.size), hb⟩)) ?_
    refine hs_is rfl (fun w' hw => runs_pick rfl rfl) ?_
    refine hs_is rfl (fun w' hw => runs_move rfl) ?_
    refine hs_yis rfl rfl (fun w' hw => runs_loadRow rfl (hM21.below hw hM21.lt) Tryz.underlying28 rfl (by rw [szC, cmc_len hlm])) ?_
    refine hs_ypr rfl rfl (fun _ _ _ h _ => h) (fun w' hw hq => (none_ownV (B := w'.heap.size) (Nat.le_refl _)).mono (by rintro u w5 ⟨⟨g, rfl, -⟩, hb⟩; exact ⟨⟨g, rfl⟩, hw.trans (hb.mono hw.size), hb⟩)) (fun ea => ?_)
    refine hs_yis rfl rfl (fun w' hw => runs_move rfl) ?_
    refine hs_ypr rfl rfl (fun _ _ _ h hk => h.kept hk) (fun w' hw hq => (copy_V (hV.kept hw) (by omega) rfl (hq (9, _) List.mem_cons_self (by kernel_rfl)) rfl).mono (by rintro u w5 ⟨h, hb⟩; exact ⟨h, hw.trans (hb.mono hw.size), hb⟩)) (fun va => ?_)
    refine hs_ypr rfl rfl (fun _ _ _ h _ => h) (fun w' hw hq => (none_ownO (B := w'.heap.size) (Nat.le_refl _)).mono (by rintro u w5 ⟨⟨g, rfl, -⟩, hb⟩; exact ⟨⟨g, rfl⟩, hw.trans (hb.mono hw.size), hb⟩)) (fun eb => ?_)
    refine hs_yis rfl rfl (fun w' hw => runs_move rfl) ?_
    refine hs_ypr rfl rfl (fun _ _ _ h hk => h.kept hk) (fun w' hw hq => (copy_O (hO.kept hw) (by omega) rfl (hq (12, _) List.mem_cons_self (by kernel_rfl)) rfl).mono (by rintro u w5 ⟨h, hb⟩; exact ⟨h, hw.trans (hb.mono hw.size), hb⟩)) (fun vb => ?_)
    refine hs_yval rfl rfl (fun w' hw hq => (runs_call (args := [.agg (cmc mm (.slice Am mm.bs.length cm_)).toArray, va, vb]) goes8 rfl (hKp mm l outs _ _ _ w' (hM.kept hw) hblm (hq (11, _) (List.mem_cons_of_mem _ (List.mem_cons_of_mem _ List.mem_cons_self)) (by kernel_rfl)) (by omega) (hq (14, _) List.mem_cons_self (by kernel_rfl)) (by omega) hfo (hk.below ((hBprel.trans ((hBprem.trans ((hBprer.trans ((hB).mono hBprer.size)).mono hBprem.size)).mono hBprel.size)).trans (hw.mono (hBprel.trans ((hBprem.trans ((hBprer.trans ((hB).mono hBprer.size)).mono hBprem.size)).mono hBprel.size)).size)) hk.pos))).mono (by rintro u w5 ⟨rfl, hb⟩; exact ⟨by rw [hmn, hk1], hw.trans (hb.mono hw.size), hb⟩)) ?_
    refine hs_is rfl (fun w' hw => runs_pick rfl rfl) ?_
    refine hs_is rfl (fun w' hw => runs_assign rfl) ?_
    refine (fun a65 w65 hS hB65 hq => ?_)
    have hn_ea := (hq (9, _) (List.mem_cons_of_mem _ (List.mem_cons_of_mem _ (List.mem_cons_of_mem _ List.mem_cons_self))))
    have hn_va := (hq (11, _) (List.mem_cons_of_mem _ (List.mem_cons_of_mem _ List.mem_cons_self)))
    have hn_eb := (hq (12, _) (List.mem_cons_of_mem _ List.mem_cons_self))
    have hn_vb := (hq (14, _) List.mem_cons_self)
    clear hq
    have hB := hB.trans (hB65.mono hB.size)
    have hM21 := hM21b.below hB hM21b.lt
    have hM := hMb.kept hB
    refine wpAnyH_done (by kernel_rfl) ?_ _
    exact qx_ret (ret1 (t := 10) (by kernel_rfl) hS rfl ⟨_, rfl, rfl, hBprel.trans ((hBprem.trans ((hBprer.trans ((hB).mono hBprer.size)).mono hBprem.size)).mono hBprel.size)⟩)
  · skip
    rw [Bool.eq_false_iff.2 hr] at hS
    refine sI hS (runs_not (b := false) rfl) fun _ hS => ?_
    refine nil_ok (wp_cond_true (hS.eval rfl) (qx_seq (reg_seq ?_)))
    refine sI hS (runs_move rfl) fun _ hS => ?_
    refine sI hS (runs_eql (r := true) rfl rfl (by rw [chkC_bad hr]; rfl)) fun _ hS => ?_
    refine sI hS (runs_move rfl) fun _ hS => ?_
    refine sY hS (runs_loadRow rfl hM21 Tryz.underlying28 rfl (by rw [szC, cmc_len hlm])) fun _ hS => ?_
    refine sY hS (runs_buildK (pv := []) (cells := (cmc noCm (.slice none 0 0)).toArray) rfl built_0) fun _ hS => ?_
    have hmn : mm = noCm := by rw [← hmm, if_neg hr]
    refine seq_yes hS (by decide) rfl (by decide) rfl (runs_call (args := [.agg (cmc mm (.slice Am mm.bs.length cm_)).toArray, .agg (cmc noCm (.slice none 0 0)).toArray]) goes7 rfl (rsame_any mm noCm _ _ w63 hM (cmv_no _))) (fun v67 w67 a1 hp hS => ?_)
    obtain ⟨rfl, hB67⟩ := hp
    have hB := hB.trans (hB67.mono hB.size)
    rw [show decide (mm = noCm) = true by simp [hmn]] at hS
    refine sI hS (runs_pick rfl rfl) fun _ hS => ?_
    refine sI hS (runs_assign rfl) fun _ hS => ?_
    exact nil_ok (qx_ret (ret1 (t := 10) (by kernel_rfl) hS rfl ⟨_, rfl, rfl, hBprel.trans ((hBprem.trans ((hBprer.trans ((hB).mono hBprer.size)).mono hBprem.size)).mono hBprel.size)⟩))
end Go.Proofs.YtooeahpkhocaeaaGreatDoor
