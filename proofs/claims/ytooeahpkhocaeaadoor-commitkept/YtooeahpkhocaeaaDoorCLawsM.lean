/- Layer 12: CommitKept and CommitMakes, walked over the contracts of what they call. -/
import Derived.Test.YtooeahpkhocaeaaDoorCLaws
namespace Go.Proofs.YtooeahpkhocaeaaDoor
open Go.RowKit
set_option maxRecDepth 100000

theorem infVxc : (Tryd.prog.info? 88).map (fun i => (i.zero, i.size, i.bytes)) = some (some (.agg (vc ⟨0, 0, false, false, 0⟩).toArray), 5, 32) := by kernel_rfl
theorem cellsV_len5 : ∀ es : List Vx, (cellsV es).length = es.length * 5
  | [] => rfl
  | e :: es => by
    have ih := cellsV_len5 es
    have e1 : cellsV (e :: es) = vc e ++ cellsV es := rfl
    have hv : (vc e).length = 5 := rfl
    rw [e1, List.length_append, ih, hv, show (e :: es).length = es.length + 1 from rfl]
    omega
section
variable {L : List (Nat × Value)} {w : World} {ty : TypeId}
theorem none_ownV {B : Nat} (hB : B ≤ w.heap.size) : Runs Tryd.prog (.buildSlice 38 0 #[]) ty L w (fun v w' => (∃ g, v = .slice (some ⟨g, 0, none⟩) 0 0 ∧ w'.ownsRow B 88 5 v 0 []) ∧ Below w.heap.size w w') := by
  obtain ⟨i48, hi48, hz48, hs48, hb48⟩ := info_parts infVxc
  exact none_ownG undLV hi48 hB
theorem none_ownO {B : Nat} (hB : B ≤ w.heap.size) : Runs Tryd.prog (.buildSlice 39 0 #[]) ty L w (fun v w' => (∃ g, v = .slice (some ⟨g, 0, none⟩) 0 0 ∧ w'.ownsRow B 40 1 v 0 []) ∧ Below w.heap.size w w') := by
  obtain ⟨i48, hi48, hz48, hs48, hb48⟩ := info_parts infLM
  exact none_ownG undLMM hi48 hB
/-- append([]Vertex{}, l...), append([][]Msg{}, out...) -/
theorem copy_V {s x : Operand} {v sv : Value} {es : List Vx} (hE : Verts w v es) (hn : es.length ≤ 100000) (hs : vals L s = some sv) (h0 : ∃ g, sv = .slice (some ⟨g, 0, none⟩) 0 0) (hx : vals L x = some v) :
    Runs Tryd.prog (.call { callee := .builtin .append, args := #[s, x], argTypes := #[38, 38] }) ty L w (fun u w2 => Verts w2 u es ∧ Below w.heap.size w w2) := by
  obtain ⟨g, rfl⟩ := h0
  obtain ⟨i48, hi48, hz48, hs48, hb48⟩ := info_parts infVxc
  obtain ⟨A, c, rfl, h1, h2, h4⟩ := hE
  by_cases hz : es.length = 0
  · obtain rfl : es = [] := List.eq_nil_of_length_eq_zero hz
    exact (runs_appendNone undLV hi48 hs (Nat.le_refl _) (by simp) hx).mono (by
      rintro u w2 ⟨rfl, rfl⟩
      exact ⟨⟨_, 0, rfl, Nat.le_refl _, by unfold maxLen; omega, fun h => absurd h (by simp)⟩, Below.refl _ _⟩)
  · obtain ⟨b, o, rfl, hb, hr⟩ := h4 (by omega)
    exact (runs_append0N (m := es.length) undLV hi48 hz48 hs48 hb48 (by simp [Value.cells, vc]) (by omega) hs hx (news := cellsV es) (cellsV_len5 es) (fun j u hj => by rw [add_lit']; exact hr j u hj) (by unfold maxLen; omega) (by omega) (by omega)).mono (by
      rintro u w2 ⟨h3, h4⟩
      exact ⟨verts_own h3 rfl, h4⟩)
theorem copy_O {s x : Operand} {v sv : Value} {ls : List (List E)} (hE : Outs w v ls) (hn : ls.length ≤ 100000) (hs : vals L s = some sv) (h0 : ∃ g, sv = .slice (some ⟨g, 0, none⟩) 0 0) (hx : vals L x = some v) :
    Runs Tryd.prog (.call { callee := .builtin .append, args := #[s, x], argTypes := #[39, 39] }) ty L w (fun u w2 => Outs w2 u ls ∧ Below w.heap.size w w2) := by
  obtain ⟨g, rfl⟩ := h0
  obtain ⟨i48, hi48, hz48, hs48, hb48⟩ := info_parts infLM
  obtain ⟨A, c, vs, rfl, h1, h2, h3, h4, h5⟩ := hE
  by_cases hz : ls.length = 0
  · obtain rfl : ls = [] := List.eq_nil_of_length_eq_zero hz
    exact (runs_appendNone undLMM hi48 hs (Nat.le_refl _) (by simp) hx).mono (by
      rintro u w2 ⟨rfl, rfl⟩
      exact ⟨⟨_, 0, [], rfl, Nat.le_refl _, by unfold maxLen; omega, rfl, fun h => absurd h (by simp), fun i l hi => by simp at hi⟩, Below.refl _ _⟩)
  · obtain ⟨b, o, rfl, hb, hr⟩ := h4 (by omega)
    exact (runs_append0N (m := ls.length) undLMM hi48 hz48 hs48 hb48 rfl (by omega) hs hx (news := vs) (by omega) (fun j u hj => by rw [add_lit']; exact hr j u hj) (by unfold maxLen; omega) (by omega) (by omega)).mono (by
      rintro u w2 ⟨h6, h7⟩
      refine ⟨?_, h7⟩
      rcases h6.2 with ⟨rfl, h8⟩ | ⟨g2, c2, cur, rfl, _, hg, hc, hm, _⟩
      · omega
      · refine ⟨_, c2, vs, rfl, hc, hm, h3, fun _ => ⟨g2, 0, rfl, (Array.getElem?_eq_some_iff.1 hg).1, fun j u hu => ?_⟩, fun i l hi => ?_⟩
        · have := h6.cells (g := g2) rfl j u hu
          rwa [add_zero_addr] at this
        · obtain ⟨u, hu, hEe⟩ := h5 i l hi
          exact ⟨u, hu, hEe.kept h7⟩)
end
theorem outs_tail {w : World} {A : Option Addr} {c : Nat} {ls : List (List E)} (h : Outs w (.slice A ls.length c) ls) (h0 : 1 ≤ ls.length) : Outs w (.slice (if c = 1 then A else A.map (·.add (1 * 1))) (ls.length - 1) (c - 1)) ls.tail := by
  obtain ⟨A', c', vs, e, h1, h2, h3, h4, h5⟩ := h
  simp only [Value.slice.injEq, true_and] at e
  obtain ⟨rfl, rfl⟩ := e
  obtain ⟨b, o, rfl, hb, hr⟩ := h4 (by omega)
  refine ⟨_, c - 1, vs.tail, by rw [List.length_tail], by rw [List.length_tail]; omega, by omega, by simp [h3], fun hp => ?_, fun i l hi => ?_⟩
  · rw [List.length_tail] at hp
    rw [if_neg (by omega)]
    refine ⟨b, o + 1, by simp [add_lit'], hb, fun j u hj => ?_⟩
    rw [List.getElem?_tail] at hj
    rw [show o + 1 + j = o + (j + 1) by omega]
    exact hr (j + 1) u hj
  · rw [List.getElem?_tail] at hi ⊢
    exact h5 (i + 1) l hi
theorem keeps_tail {a b : Int} {l : List Vx} {outs : List (List E)} {c : Cm} (h : makeM a b l outs = c) (h1 : 1 ≤ outs.length) : keepsB c l outs.tail = false := by
  subst h
  have hne : ¬ outs.map rootM = outs.tail.map rootM := fun e => by
    have e2 := congrArg List.length e
    rw [List.length_map, List.length_map, List.length_tail] at e2
    omega
  show (decide (rootX l = rootX l) && decide (outs.map rootM = outs.tail.map rootM)) = false
  rw [decide_eq_false hne, Bool.and_false]
theorem small_snoc {xs : List (List E)} {x : List E} (h : ∀ m ∈ xs, m.length ≤ 10) (hx : x.length ≤ 10) : ∀ m ∈ xs ++ [x], m.length ≤ 10 := fun m hm => by
  rcases List.mem_append.1 hm with h1 | h1
  · exact h m h1
  · rw [List.mem_singleton.1 h1]; exact hx
set_option maxHeartbeats 1000000 in
theorem kept_law (hAw : CAwkC) (hMk : CMakeC) (hKp : CKeepsC) (p q : Int) (hpp : -9223372036854775808 ≤ p ∧ p ≤ 9223372036854775807) (hqq : -9223372036854775808 ≤ q ∧ q ≤ 9223372036854775807) (l : List Vx) (outs : List (List E)) (vl vo : Value) (w : World) (hV : Verts w vl l) (hO : Outs w vo outs) (hf : ∀ m ∈ outs, FitsM m) (hk : Kept w) : Ans 6 [.int .i64 p, .int .i64 q, vl, vo] w (fun u w' => u = .bool true ∧ Below w.heap.size w w') := by
  obtain ⟨Al, cl_, rfl, hl1, hl2, hl3⟩ := id hV
  obtain ⟨Ao, co, vs, rfl, ho1, ho2, ho3, ho4, ho5⟩ := id hO
  have hcm := ho2
  unfold maxLen at hcm
  refine calls_qx (args := [.int .i64 p, .int .i64 q, .slice Al l.length cl_, .slice Ao outs.length co]) 102 Tryd.func6 rfl (by kernel_rfl) (by simp) (fun a hS => ?_)
  have hB := Below.refl w.heap.size w
  have hVb := hV
  have hOb := hO
  refine qx_seq (reg_seq ?_)
  refine sI hS (runs_assign rfl) fun _ hS => ?_
  refine nil_ok (qx_seq (qx_seq (reg_seq ?_)))
  refine seq_op hS (by decide) (runs_call (args := []) goes8 rfl (hAw w (hk.below (hB) hk.pos))) (fun v1 w1 a1 hp hS => ?_)
  obtain ⟨rfl, hB1⟩ := hp
  have hB := hB.trans (hB1.mono hB.size)
  have hV := hVb.kept hB
  have hO := hOb.kept hB
  refine sI hS (runs_not (b := true) rfl) fun _ hS => ?_
  refine sI hS (runs_move rfl) fun _ hS => ?_
  refine sY hS (runs_move rfl) fun _ hS => ?_
  refine sY hS (runs_len rfl undLV) fun _ hS => ?_
  by_cases h10 : 10 < l.length
  · skip
    refine sY hS (gtrT rfl rfl (by omega)) fun _ hS => ?_
    refine sI hS (runs_pick rfl rfl) fun _ hS => ?_
    refine sI hS (runs_move rfl) fun _ hS => ?_
    refine sN hS fun _ hS => ?_
    refine sN hS fun _ hS => ?_
    refine sN hS fun _ hS => ?_
    refine sI hS (runs_pick rfl rfl) fun _ hS => ?_
    refine nil_ok (wp_cond_true (hS.eval rfl) (qx_seq (reg_seq ?_)))
    refine seq_op hS (by decide) (runs_call (args := []) goes8 rfl (hAw w1 (hk.below (hB) hk.pos))) (fun v3 w3 a1 hp hS => ?_)
    obtain ⟨rfl, hB3⟩ := hp
    have hB := hB.trans (hB3.mono hB.size)
    have hV := hVb.kept hB
    have hO := hOb.kept hB
    refine sI hS (runs_assign rfl) fun _ hS => ?_
    exact nil_ok (qx_ret (ret1 (t := 8) (by kernel_rfl) hS rfl ⟨_, rfl, rfl, hB⟩))
  refine sY hS (gtrF rfl rfl (by omega)) fun _ hS => ?_
  refine sI hS (runs_pick rfl rfl) fun _ hS => ?_
  refine sI hS (runs_move rfl) fun _ hS => ?_
  refine sY hS (runs_move rfl) fun _ hS => ?_
  refine sY hS (runs_len rfl undLMM) fun _ hS => ?_
  by_cases h8 : 8 < outs.length
  · skip
    refine sY hS (gtrT rfl rfl (by omega)) fun _ hS => ?_
    refine sI hS (runs_pick rfl rfl) fun _ hS => ?_
    refine nil_ok (wp_cond_true (hS.eval rfl) (qx_seq (reg_seq ?_)))
    refine seq_op hS (by decide) (runs_call (args := []) goes8 rfl (hAw w1 (hk.below (hB) hk.pos))) (fun v5 w5 a1 hp hS => ?_)
    obtain ⟨rfl, hB5⟩ := hp
    have hB := hB.trans (hB5.mono hB.size)
    have hV := hVb.kept hB
    have hO := hOb.kept hB
    refine sI hS (runs_assign rfl) fun _ hS => ?_
    exact nil_ok (qx_ret (ret1 (t := 8) (by kernel_rfl) hS rfl ⟨_, rfl, rfl, hB⟩))
  refine sY hS (gtrF rfl rfl (by omega)) fun _ hS => ?_
  refine sI hS (runs_pick rfl rfl) fun _ hS => ?_
  refine nil_ok (wp_cond_false (hS.eval rfl) (wp_skip (qx_seq (qx_seq (reg_seq ?_)))))
  refine sI hS (runs_assign rfl) fun _ hS => ?_
  refine nil_ok (?_)
  refine qx_for (fun mm a w' => ∃ (i : Nat), i ≤ outs.length ∧ mm = outs.length - i ∧ Below w.heap.size w w' ∧ (∀ m ∈ outs.take i, m.length ≤ 10) ∧ Sees 102 [(9, .int .i64 (i : Int)), (3, .slice Ao outs.length co), (2, .slice Al l.length cl_), (0, .int .i64 p), (1, .int .i64 q)] a) outs.length ⟨0, by omega, by omega, hB, by simp, hS.only _ ⟨rfl, rfl, rfl, rfl, rfl, trivial⟩⟩ ?_
  clear hS 
  rintro mm a wl1 ⟨i, hi1, rfl, hBb1, hsm, hS⟩
  have hV := hVb.kept hBb1
  have hO := hOb.kept hBb1
  have hB := Below.refl wl1.heap.size wl1
  refine reg_seq ?_
  refine sI hS (runs_move rfl) fun _ hS => ?_
  refine sI hS (runs_move rfl) fun _ hS => ?_
  refine sI hS (runs_len rfl undLMM) fun _ hS => ?_
  by_cases hlt1 : i < outs.length
  · skip
    refine sI hS (lssT rfl rfl (by omega)) fun _ hS => ?_
    refine nil_ok ⟨_, hS.eval rfl, fun h => by simp at h, fun _ => ?_⟩
    have hSn := hS
    obtain ⟨x, hx⟩ : ∃ x, outs[i]? = some x := ⟨outs[i], by simp [hlt1]⟩
    obtain ⟨b, o, u0, hbe, hcu, hEu⟩ := outs_row hO hx
    cases hbe
    obtain ⟨Ax, cx, rfl, -, -, -⟩ := id hEu
    have hS := hSn
    refine qx_seq (qx_block (qx_seq (reg_seq ?_)))
    refine sI hS (runs_move rfl) fun _ hS => ?_
    refine sI hS (runs_move rfl) fun _ hS => ?_
    refine sI hS (runs_indexAddrG (j := i) rfl rfl undLMM szLM rfl hlt1) fun _ hS => ?_
    refine sI hS (runs_load rfl plLM (by rw [Nat.mul_one]; exact hcu)) fun _ hS => ?_
    refine sI hS (runs_len rfl und32) fun _ hS => ?_
    by_cases hx10 : 10 < x.length
    · skip
      refine sI hS (gtrT rfl rfl (by omega)) fun _ hS => ?_
      refine nil_ok (wp_cond_true (hS.eval rfl) (qx_seq (reg_seq ?_)))
      refine sI hS (runs_assign rfl) fun _ hS => ?_
      exact nil_ok (qx_ret (ret1 (t := 8) (by kernel_rfl) hS rfl ⟨_, rfl, rfl, hBb1.trans (hB.mono hBb1.size)⟩))
    refine sI hS (gtrF rfl rfl (by omega)) fun _ hS => ?_
    refine nil_ok (wp_cond_false (hS.eval rfl) (wp_skip (reg_seq ?_)))
    refine sI hS (runs_move rfl) fun _ hS => ?_
    refine sI hS (runs_add (r := ((i + 1 : Nat) : Int)) rfl rfl (by simp [IntKind.wrap, IntKind.bits, IntKind.signed]; omega)) fun _ hS => ?_
    refine sI hS (runs_assign rfl) fun _ hS => ?_
    exact nil_ok ⟨_, by omega, i + 1, by omega, rfl, hBb1.trans (hB.mono hBb1.size), by rw [List.take_add_one, hx]; exact small_snoc hsm (Nat.le_of_not_lt hx10), hS.only _ ⟨rfl, rfl, rfl, rfl, rfl, trivial⟩⟩
  refine sI hS (lssF rfl rfl (by omega)) fun _ hS => ?_
  obtain rfl : i = outs.length := by omega
  refine nil_ok ⟨_, hS.eval rfl, fun _ => ?_, fun h => by simp at h⟩
  have hB := hBb1
  rw [List.take_length] at hsm
  have hfo : FitsO outs := fun m hm => ⟨Nat.le_trans (hsm m hm) (by omega), hf m hm⟩
  refine qx_seq (reg_seq ?_)
  refine sI hS (runs_move rfl) fun _ hS => ?_
  refine sI hS (runs_move rfl) fun _ hS => ?_
  refine seq_op hS (by decide) (none_ownV (B := w.heap.size) ((hB).size)) (fun v7 w7 a1 hp hS => ?_)
  obtain ⟨⟨gv, rfl, -⟩, hB7⟩ := hp
  have hB := hB.trans (hB7.mono hB.size)
  have hV := hV.kept hB7
  have hO := hO.kept hB7
  refine sI hS (runs_move rfl) fun _ hS => ?_
  refine seq_op hS (by decide) (copy_V hV (by omega) rfl ⟨_, rfl⟩ rfl) (fun v9 w9 a1 hp hS => ?_)
  obtain ⟨hV1, hB9⟩ := hp
  have hB := hB.trans (hB9.mono hB.size)
  have hV := hV.kept hB9
  have hO := hO.kept hB9
  refine seq_op hS (by decide) (none_ownO (B := w.heap.size) ((hB).size)) (fun v11 w11 a1 hp hS => ?_)
  obtain ⟨⟨go, rfl, -⟩, hB11⟩ := hp
  have hB := hB.trans (hB11.mono hB.size)
  have hV := hV.kept hB11
  have hO := hO.kept hB11
  have hV1 := hV1.kept hB11
  refine sI hS (runs_move rfl) fun _ hS => ?_
  refine seq_op hS (by decide) (copy_O hO (by omega) rfl ⟨_, rfl⟩ rfl) (fun v13 w13 a1 hp hS => ?_)
  obtain ⟨hO1, hB13⟩ := hp
  have hB := hB.trans (hB13.mono hB.size)
  have hV := hV.kept hB13
  have hO := hO.kept hB13
  have hV1 := hV1.kept hB13
  refine seq_op hS (by decide) (runs_call (args := [.int .i64 p, .int .i64 q, v9, v13]) goes16 rfl (hMk p q l outs _ _ w13 hpp hqq hV1 (by omega) hO1 (by omega) hfo (hk.below (hB) hk.pos))) (fun v15 w15 a1 hp hS => ?_)
  obtain ⟨um, rfl, hM, hB15⟩ := hp
  obtain ⟨mk, hmk⟩ : ∃ m, makeM p q l outs = m := ⟨_, rfl⟩
  rw [hmk] at hM hS
  have hB := hB.trans (hB15.mono hB.size)
  have hV := hV.kept hB15
  have hO := hO.kept hB15
  obtain ⟨mm, hmm⟩ : ∃ m, (if rightC mk = true then mk else noCm) = m := ⟨_, rfl⟩
  rw [hmm] at hM
  obtain ⟨xm, rfl, hHm, hlm, hbym⟩ := id hM
  obtain ⟨Am, cm_, rfl, -, -, hHom, -⟩ := id hHm
  have hBprem := hB
  have hB := Below.refl w15.heap.size w15
  have hVb := hV
  have hOb := hO
  have hMb := hM
  refine sI hS (runs_move rfl) fun _ hS => ?_
  refine sI hS (runs_extract rfl rfl) fun _ hS => ?_
  refine sI hS (runs_extract rfl rfl) fun _ hS => ?_
  refine seq_op hS (by decide) (runs_allocB (cs := cmc noCm (.slice none 0 0)) zoC rfl) (fun v17 w17 a1 hp hS => ?_)
  obtain ⟨rfl, hM17, hB17⟩ := hp
  have hLhM17 : w15.heap.size ≤ w15.heap.size := hB.size
  have hB := hB.trans (hB17.mono hB.size)
  have hV := hVb.kept hB
  have hO := hOb.kept hB
  have hM := hMb.kept hB
  refine seq_none hS (runs_storeB (cs := cmc mm (.slice Am mm.bs.length cm_)) rfl rfl hM17 ((cmc_len noCm_len).trans (cmc_len hlm).symm) (cm_one rfl) (by rw [szC, cmc_len hlm])) (fun v19 w19 a1 hp hS => ?_)
  obtain ⟨hM17, hU19⟩ := hp
  have hB := But.new hB hU19 (fun i e => by rw [e]; exact hLhM17) (Nat.le_refl _)
  have hV := hVb.kept hB
  have hO := hOb.kept hB
  have hM := hMb.kept hB
  refine sI hS (runs_assign rfl) fun _ hS => ?_
  refine nil_ok (qx_seq (qx_seq (reg_seq ?_)))
  refine sI hS (runs_move rfl) fun _ hS => ?_
  by_cases hr : ¬ rightC mk = true
  · skip
    refine sI hS (runs_neq (r := true) rfl rfl (by rw [chkC_bad hr]; rfl)) fun _ hS => ?_
    refine nil_ok (wp_cond_true (hS.eval rfl) (qx_seq (reg_seq ?_)))
    refine sI hS (runs_move rfl) fun _ hS => ?_
    by_cases k1 : p < 0
    · skip
      refine sI hS (lssT rfl rfl (by omega)) fun _ hS => ?_
      refine sI hS (runs_move rfl) fun _ hS => ?_
      refine sN hS fun _ hS => ?_
      refine sN hS fun _ hS => ?_
      refine sI hS (runs_pick rfl rfl) fun _ hS => ?_
      refine sI hS (runs_move rfl) fun _ hS => ?_
      refine sN hS fun _ hS => ?_
      refine sN hS fun _ hS => ?_
      refine sI hS (runs_pick rfl rfl) fun _ hS => ?_
      refine sI hS (runs_move rfl) fun _ hS => ?_
      refine sN hS fun _ hS => ?_
      refine sN hS fun _ hS => ?_
      refine sI hS (runs_pick rfl rfl) fun _ hS => ?_
      refine sI hS (runs_move rfl) fun _ hS => ?_
      refine sN hS fun _ hS => ?_
      refine sN hS fun _ hS => ?_
      refine sN hS fun _ hS => ?_
      refine sI hS (runs_pick rfl rfl) fun _ hS => ?_
      refine sI hS (runs_assign rfl) fun _ hS => ?_
      exact nil_ok (qx_ret (ret1 (t := 8) (by kernel_rfl) hS rfl ⟨_, rfl, rfl, hBprem.trans ((hB).mono hBprem.size)⟩))
    refine sI hS (lssF rfl rfl (by omega)) fun _ hS => ?_
    refine sI hS (runs_move rfl) fun _ hS => ?_
    refine sY hS (runs_move rfl) fun _ hS => ?_
    by_cases k2 : 63 < p
    · skip
      refine sY hS (gtrT rfl rfl (by omega)) fun _ hS => ?_
      refine sI hS (runs_pick rfl rfl) fun _ hS => ?_
      refine sI hS (runs_move rfl) fun _ hS => ?_
      refine sN hS fun _ hS => ?_
      refine sN hS fun _ hS => ?_
      refine sI hS (runs_pick rfl rfl) fun _ hS => ?_
      refine sI hS (runs_move rfl) fun _ hS => ?_
      refine sN hS fun _ hS => ?_
      refine sN hS fun _ hS => ?_
      refine sI hS (runs_pick rfl rfl) fun _ hS => ?_
      refine sI hS (runs_move rfl) fun _ hS => ?_
      refine sN hS fun _ hS => ?_
      refine sN hS fun _ hS => ?_
      refine sN hS fun _ hS => ?_
      refine sI hS (runs_pick rfl rfl) fun _ hS => ?_
      refine sI hS (runs_assign rfl) fun _ hS => ?_
      exact nil_ok (qx_ret (ret1 (t := 8) (by kernel_rfl) hS rfl ⟨_, rfl, rfl, hBprem.trans ((hB).mono hBprem.size)⟩))
    refine sY hS (gtrF rfl rfl (by omega)) fun _ hS => ?_
    refine sI hS (runs_pick rfl rfl) fun _ hS => ?_
    refine sI hS (runs_move rfl) fun _ hS => ?_
    refine sY hS (runs_move rfl) fun _ hS => ?_
    by_cases k3 : q < 0
    · skip
      refine sY hS (lssT rfl rfl (by omega)) fun _ hS => ?_
      refine sI hS (runs_pick rfl rfl) fun _ hS => ?_
      refine sI hS (runs_move rfl) fun _ hS => ?_
      refine sN hS fun _ hS => ?_
      refine sN hS fun _ hS => ?_
      refine sI hS (runs_pick rfl rfl) fun _ hS => ?_
      refine sI hS (runs_move rfl) fun _ hS => ?_
      refine sN hS fun _ hS => ?_
      refine sN hS fun _ hS => ?_
      refine sN hS fun _ hS => ?_
      refine sI hS (runs_pick rfl rfl) fun _ hS => ?_
      refine sI hS (runs_assign rfl) fun _ hS => ?_
      exact nil_ok (qx_ret (ret1 (t := 8) (by kernel_rfl) hS rfl ⟨_, rfl, rfl, hBprem.trans ((hB).mono hBprem.size)⟩))
    refine sY hS (lssF rfl rfl (by omega)) fun _ hS => ?_
    refine sI hS (runs_pick rfl rfl) fun _ hS => ?_
    refine sI hS (runs_move rfl) fun _ hS => ?_
    refine sY hS (runs_move rfl) fun _ hS => ?_
    by_cases k4 : 63 < q
    · skip
      refine sY hS (gtrT rfl rfl (by omega)) fun _ hS => ?_
      refine sI hS (runs_pick rfl rfl) fun _ hS => ?_
      refine sI hS (runs_move rfl) fun _ hS => ?_
      refine sN hS fun _ hS => ?_
      refine sN hS fun _ hS => ?_
      refine sN hS fun _ hS => ?_
      refine sI hS (runs_pick rfl rfl) fun _ hS => ?_
      refine sI hS (runs_assign rfl) fun _ hS => ?_
      exact nil_ok (qx_ret (ret1 (t := 8) (by kernel_rfl) hS rfl ⟨_, rfl, rfl, hBprem.trans ((hB).mono hBprem.size)⟩))
    refine sY hS (gtrF rfl rfl (by omega)) fun _ hS => ?_
    refine sI hS (runs_pick rfl rfl) fun _ hS => ?_
    refine sI hS (runs_move rfl) fun _ hS => ?_
    refine sY hS (runs_move rfl) fun _ hS => ?_
    refine sY hS (runs_len rfl undLMM) fun _ hS => ?_
    refine sY hS (runs_eql (r := true) rfl rfl (by simp only [beq_iff_eq]; exact Classical.byContradiction (fun h => hr ((rightC_iff mk).2 (by rw [← hmk]; show 0 ≤ p ∧ p < 64 ∧ 0 ≤ q ∧ q < 64 ∧ 1 ≤ (outs.map rootM).length ∧ (outs.map rootM).length ≤ 64; rw [List.length_map]; omega))))) fun _ hS => ?_
    refine sI hS (runs_pick rfl rfl) fun _ hS => ?_
    refine sI hS (runs_assign rfl) fun _ hS => ?_
    exact nil_ok (qx_ret (ret1 (t := 8) (by kernel_rfl) hS rfl ⟨_, rfl, rfl, hBprem.trans ((hB).mono hBprem.size)⟩))
  refine sI hS (runs_neq (r := false) rfl rfl (by rw [chkC_ok (Classical.not_not.1 hr)]; rfl)) fun _ hS => ?_
  refine nil_ok (wp_cond_false (hS.eval rfl) (wp_skip (qx_seq (?_))))
  replace hr := Classical.not_not.1 hr
  rw [if_pos hr] at hmm
  subst hmm
  have hrr := (rightC_iff mk).1 hr
  rw [← hmk] at hrr
  have hr1 : 1 ≤ outs.length := by have : 1 ≤ (outs.map rootM).length := hrr.2.2.2.2.1; rwa [List.length_map] at this
  have hk1 : keepsB mk l outs = true := by rw [← hmk]; simp [keepsB, makeM]
  have hk2 : keepsB mk l outs.tail = false := keeps_tail hmk hr1
  have hfo2 : FitsO outs.tail := fun m hm => hfo m (List.mem_of_mem_tail hm)
  have hbl : mk.bs.length ≤ 10000 := by have := hrr.2.2.2.2.2; have h2 : mk.bs.length = (makeM p q l outs).bs.length := by rw [hmk]
                                        omega
  have hwm : p = mk.w := by rw [← hmk]; rfl
  have hsm2 : q = mk.st := by rw [← hmk]; rfl
  refine reg_guard (fun w' => Below w19.heap.size w19 w') [.inl (.pointer (some ⟨w15.heap.size, 0 + 0, none⟩)), .inl (.int .i64 mk.w), .inl (.int .i64 p), .inl (.bool true), .inl (.bool true), .inl (.pointer (some ⟨w15.heap.size, 0 + 1, none⟩)), .inl (.int .i64 mk.st), .inl (.int .i64 q), .inl (.bool true), .inl (.bool true), .inl (.bool true), .inl (.agg (cmc mk (.slice Am mk.bs.length cm_)).toArray), .inr (fun v _ => ∃ g, v = .slice (some ⟨g, 0, none⟩) 0 0), .inl (.slice Al l.length cl_), .inr (fun v w' => Verts w' v l), .inr (fun v _ => ∃ g, v = .slice (some ⟨g, 0, none⟩) 0 0), .inl (.slice Ao outs.length co), .inr (fun v w' => Outs w' v outs), .inl (.bool true), .inl (.bool true), .inl (.bool true), .inl (.agg (cmc mk (.slice Am mk.bs.length cm_)).toArray), .inr (fun v _ => ∃ g, v = .slice (some ⟨g, 0, none⟩) 0 0), .inl (.slice Al l.length cl_), .inr (fun v w' => Verts w' v l), .inr (fun v _ => ∃ g, v = .slice (some ⟨g, 0, none⟩) 0 0), .inl (.slice Ao outs.length co), .inl (.slice (if co = 1 then Ao else Ao.map (·.add (1 * 1))) (outs.length - 1) (co - 1)), .inr (fun v w' => Outs w' v outs.tail), .inl (.bool false), .inl (.bool true), .inl (.bool true), .inl (.bool true)] 33 0 mixed rfl (by kernel_rfl) hS (Below.refl _ _) (fun _ h => h.drew) ?_
  refine hs_is rfl (fun w' hw => runs_fieldK foC_0 rfl) ?_
  refine hs_is rfl (fun w' hw => runs_load rfl pl3 ((hM17.below hw hM17.lt).at rfl)) ?_
  refine hs_is rfl (fun w' hw => runs_move rfl) ?_
  refine hs_is rfl (fun w' hw => runs_eql (r := true) rfl rfl (by rw [hwm]; simp)) ?_
  refine hs_is rfl (fun w' hw => runs_move rfl) ?_
  refine hs_yis rfl rfl (fun w' hw => runs_fieldK foC_1 rfl) ?_
  refine hs_yis rfl rfl (fun w' hw => runs_load rfl pl3 ((hM17.below hw hM17.lt).at rfl)) ?_
  refine hs_yis rfl rfl (fun w' hw => runs_move rfl) ?_
  refine hs_yis rfl rfl (fun w' hw => runs_eql (r := true) rfl rfl (by rw [hsm2]; simp)) ?_
  refine hs_is rfl (fun w' hw => runs_pick rfl rfl) ?_
  refine hs_is rfl (fun w' hw => runs_move rfl) ?_
  refine hs_yis rfl rfl (fun w' hw => runs_loadRow rfl (hM17.below hw hM17.lt) Tryd.underlying26 rfl (by rw [szC, cmc_len hlm])) ?_
  refine hs_ypr rfl rfl (fun _ _ _ h _ => h) (fun w' hw hq => (none_ownV (B := w'.heap.size) (Nat.le_refl _)).mono (by rintro u w5 ⟨⟨g, rfl, -⟩, hb⟩; exact ⟨⟨g, rfl⟩, hw.trans (hb.mono hw.size), hb⟩)) (fun ea => ?_)
  refine hs_yis rfl rfl (fun w' hw => runs_move rfl) ?_
  refine hs_ypr rfl rfl (fun _ _ _ h hk => h.kept hk) (fun w' hw hq => (copy_V (hV.kept hw) (by omega) rfl (hq (12, _) List.mem_cons_self (by kernel_rfl)) rfl).mono (by rintro u w5 ⟨h, hb⟩; exact ⟨h, hw.trans (hb.mono hw.size), hb⟩)) (fun va => ?_)
  refine hs_ypr rfl rfl (fun _ _ _ h _ => h) (fun w' hw hq => (none_ownO (B := w'.heap.size) (Nat.le_refl _)).mono (by rintro u w5 ⟨⟨g, rfl, -⟩, hb⟩; exact ⟨⟨g, rfl⟩, hw.trans (hb.mono hw.size), hb⟩)) (fun eb => ?_)
  refine hs_yis rfl rfl (fun w' hw => runs_move rfl) ?_
  refine hs_ypr rfl rfl (fun _ _ _ h hk => h.kept hk) (fun w' hw hq => (copy_O (hO.kept hw) (by omega) rfl (hq (15, _) List.mem_cons_self (by kernel_rfl)) rfl).mono (by rintro u w5 ⟨h, hb⟩; exact ⟨h, hw.trans (hb.mono hw.size), hb⟩)) (fun vb => ?_)
  refine hs_yval rfl rfl (fun w' hw hq => (runs_call (args := [.agg (cmc mk (.slice Am mk.bs.length cm_)).toArray, va, vb]) goes17 rfl (hKp mk l outs _ _ _ w' (hM.kept hw) hbl (hq (14, _) (List.mem_cons_of_mem _ (List.mem_cons_of_mem _ List.mem_cons_self)) (by kernel_rfl)) (by omega) (hq (17, _) List.mem_cons_self (by kernel_rfl)) (by omega) hfo (hk.below ((hBprem.trans ((hB).mono hBprem.size)).trans (hw.mono (hBprem.trans ((hB).mono hBprem.size)).size)) hk.pos))).mono (by rintro u w5 ⟨rfl, hb⟩; exact ⟨by rw [hk1], hw.trans (hb.mono hw.size), hb⟩)) ?_
  refine hs_is rfl (fun w' hw => runs_pick rfl rfl) ?_
  refine hs_is rfl (fun w' hw => runs_move rfl) ?_
  refine hs_yis rfl rfl (fun w' hw => runs_loadRow rfl (hM17.below hw hM17.lt) Tryd.underlying26 rfl (by rw [szC, cmc_len hlm])) ?_
  refine hs_ypr rfl rfl (fun _ _ _ h _ => h) (fun w' hw hq => (none_ownV (B := w'.heap.size) (Nat.le_refl _)).mono (by rintro u w5 ⟨⟨g, rfl, -⟩, hb⟩; exact ⟨⟨g, rfl⟩, hw.trans (hb.mono hw.size), hb⟩)) (fun ec => ?_)
  refine hs_yis rfl rfl (fun w' hw => runs_move rfl) ?_
  refine hs_ypr rfl rfl (fun _ _ _ h hk => h.kept hk) (fun w' hw hq => (copy_V (hV.kept hw) (by omega) rfl (hq (22, _) List.mem_cons_self (by kernel_rfl)) rfl).mono (by rintro u w5 ⟨h, hb⟩; exact ⟨h, hw.trans (hb.mono hw.size), hb⟩)) (fun vc_ => ?_)
  refine hs_ypr rfl rfl (fun _ _ _ h _ => h) (fun w' hw hq => (none_ownO (B := w'.heap.size) (Nat.le_refl _)).mono (by rintro u w5 ⟨⟨g, rfl, -⟩, hb⟩; exact ⟨⟨g, rfl⟩, hw.trans (hb.mono hw.size), hb⟩)) (fun ed => ?_)
  refine hs_yis rfl rfl (fun w' hw => runs_move rfl) ?_
  refine hs_yis rfl rfl (fun w' hw => runs_sliceFromG rfl rfl rfl undLMM szLM hr1) ?_
  refine hs_ypr rfl rfl (fun _ _ _ h hk => h.kept hk) (fun w' hw hq => (copy_O (outs_tail (hO.kept hw) hr1) (by rw [List.length_tail]; omega) rfl (hq (25, _) List.mem_cons_self (by kernel_rfl)) rfl).mono (by rintro u w5 ⟨h, hb⟩; exact ⟨h, hw.trans (hb.mono hw.size), hb⟩)) (fun vd => ?_)
  refine hs_yval rfl rfl (fun w' hw hq => (runs_call (args := [.agg (cmc mk (.slice Am mk.bs.length cm_)).toArray, vc_, vd]) goes17 rfl (hKp mk l outs.tail _ _ _ w' (hM.kept hw) hbl (hq (24, _) (List.mem_cons_of_mem _ (List.mem_cons_of_mem _ List.mem_cons_self)) (by kernel_rfl)) (by omega) (hq (28, _) List.mem_cons_self (by kernel_rfl)) (by rw [List.length_tail]; omega) hfo2 (hk.below ((hBprem.trans ((hB).mono hBprem.size)).trans (hw.mono (hBprem.trans ((hB).mono hBprem.size)).size)) hk.pos))).mono (by rintro u w5 ⟨rfl, hb⟩; exact ⟨by rw [hk2], hw.trans (hb.mono hw.size), hb⟩)) ?_
  refine hs_yis rfl rfl (fun w' hw => runs_not (b := false) rfl) ?_
  refine hs_is rfl (fun w' hw => runs_pick rfl rfl) ?_
  refine hs_is rfl (fun w' hw => runs_assign rfl) ?_
  refine (fun a21 w21 hS hB21 hq => ?_)
  have hn_ea := (hq (12, _) (List.mem_cons_of_mem _ (List.mem_cons_of_mem _ (List.mem_cons_of_mem _ (List.mem_cons_of_mem _ (List.mem_cons_of_mem _ (List.mem_cons_of_mem _ (List.mem_cons_of_mem _ List.mem_cons_self))))))))
  have hn_va := (hq (14, _) (List.mem_cons_of_mem _ (List.mem_cons_of_mem _ (List.mem_cons_of_mem _ (List.mem_cons_of_mem _ (List.mem_cons_of_mem _ (List.mem_cons_of_mem _ List.mem_cons_self)))))))
  have hn_eb := (hq (15, _) (List.mem_cons_of_mem _ (List.mem_cons_of_mem _ (List.mem_cons_of_mem _ (List.mem_cons_of_mem _ (List.mem_cons_of_mem _ List.mem_cons_self))))))
  have hn_vb := (hq (17, _) (List.mem_cons_of_mem _ (List.mem_cons_of_mem _ (List.mem_cons_of_mem _ (List.mem_cons_of_mem _ List.mem_cons_self)))))
  have hn_ec := (hq (22, _) (List.mem_cons_of_mem _ (List.mem_cons_of_mem _ (List.mem_cons_of_mem _ List.mem_cons_self))))
  have hn_vc_ := (hq (24, _) (List.mem_cons_of_mem _ (List.mem_cons_of_mem _ List.mem_cons_self)))
  have hn_ed := (hq (25, _) (List.mem_cons_of_mem _ List.mem_cons_self))
  have hn_vd := (hq (28, _) List.mem_cons_self)
  clear hq
  have hB := hB.trans (hB21.mono hB.size)
  refine wpAnyH_done (by kernel_rfl) ?_ _
  exact qx_ret (ret1 (t := 8) (by kernel_rfl) hS rfl ⟨_, rfl, rfl, hBprem.trans ((hB).mono hBprem.size)⟩)
end Go.Proofs.YtooeahpkhocaeaaDoor
