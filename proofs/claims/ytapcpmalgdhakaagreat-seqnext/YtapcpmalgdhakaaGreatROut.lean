/- The document's Out and In, walked. Conditions: none of our own. -/
import Derived.Test.YtapcpmalgdhakaaGreatRNorm
namespace Go.Proofs.YtapcpmalgdhakaaGreat
open Go.RowKit
set_option maxRecDepth 100000

/-- A row of the call's own, or none yet. -/
def OwnOr (B : Nat) (w : World) (v : Value) (acc : List E) : Prop := (acc = [] ∧ ∃ g, v = .slice (some ⟨g, 0, none⟩) 0 0) ∨ w.ownsRow B 48 3 v acc.length (cellsE acc)
theorem OwnOr.kept {B : Nat} {w w' : World} {v : Value} {acc : List E} (h : OwnOr B w v acc) (k : Below w.heap.size w w') : OwnOr B w' v acc := by
  rcases h with h | h
  · exact .inl h
  · exact .inr (owns_kept h k)
theorem OwnOr.edges {B : Nat} {w : World} {v : Value} {acc : List E} (h : OwnOr B w v acc) : Edges w v acc := by
  rcases h with ⟨rfl, g, rfl⟩ | h
  · exact edges_empty _ _ _ (by unfold maxLen; omega)
  · exact edges_own h rfl
section
variable {ty : TypeId} {L : List (Nat × Value)} {w : World}
theorem push_or {B g2 : Nat} {s x : Operand} {sv : Value} {acc : List E} {e : E} (hs : vals L s = some sv) (hown : OwnOr B w sv acc) (hx : vals L x = some (.slice (some ⟨g2, 0, none⟩) 1 1)) (hX : Has w g2 48 (encE e)) (hn : acc.length ≤ 10000000) (hB : B ≤ w.heap.size) :
    Runs Tryz.prog (.call { callee := .builtin .append, args := #[s, x], argTypes := #[22, 22] }) ty L w (fun v w' => OwnOr B w' v (acc ++ [e]) ∧ (∀ i t cs, t ≠ 48 → Has w i t cs → Has w' i t cs) ∧ Below B w w') := by
  rcases hown with ⟨rfl, g, rfl⟩ | hown
  · obtain ⟨i45, hi45, hz45, hs45, hb45⟩ := info_parts inf45
    exact (runs_append0N (m := 1) und22 hi45 hz45 hs45 hb45 rfl (by omega) hs hx (news := cellsE [e]) (cellsE_length [e]) (fun j u hj => by rw [add_zero_addr, Nat.zero_add, hX.cell]; rw [cellsE_one] at hj; exact hj) (by unfold maxLen; omega) (by omega) (by omega)).mono (by
      rintro u w2 ⟨h3, h4⟩
      exact ⟨.inr (owns_mono h3 hB), fun i t cs _ hi => hi.below h4 hi.lt, h4.mono hB⟩)
  · exact (push_own hs hown hx hX hn hB).mono (by
      rintro u w2 ⟨_, h2, h3, h4⟩
      exact ⟨.inr (by rw [List.length_append]; exact h2), h3, h4⟩)
end
theorem filter_snoc {l : List E} {i : Nat} {x : E} (p : E → Bool) (h : l[i]? = some x) : (l.take (i + 1)).filter p = (l.take i).filter p ++ if p x then [x] else [] := by
  rw [List.take_add_one, h, Option.toList_some, List.filter_append, List.filter_cons, List.filter_nil]
theorem goes54 : Goes Tryz.prog 54 := goes_of Tryz.func54 (by kernel_rfl) rfl
set_option maxHeartbeats 1000000 in
theorem rout2_any (n q : Int) (es : List E) (v : Value) (w : World) (hE : Edges w v es) (hc : checkZ n es = 0) : Ans 54 [gv n v, .int .i64 q] w (fun u w' => Below w.heap.size w w' ∧ ∃ B, OwnOr B w' u ((normL n.toNat es).filter (fun e => e.1 == q))) := by
  have hE0 := hE
  obtain ⟨A, c, rfl, hc1, hc2, hA⟩ := id hE
  unfold maxLen at hc2
  obtain ⟨kn, rfl, hkn1, hkn2, hel⟩ := norm_small hc
  refine calls_qx (args := [gv (kn : Int) (.slice A es.length c), .int .i64 q]) 35 Tryz.func54 rfl (by kernel_rfl) (by simp) (fun a hS => ?_)
  refine qx_seq (reg_seq ?_)
  refine seq_op hS (by decide) (runs_box rfl) (fun v1 w1 a1 hp1 hS => ?_)
  obtain ⟨rfl, hw1⟩ := hp1
  obtain ⟨hG, hB⟩ : Has w1 w.heap.size 24 [.int .i64 (kn : Int), .slice A es.length c] ∧ Below w.heap.size w w1 := by rw [hw1]; exact new_box w 24 [.int .i64 (kn : Int), .slice A es.length c]
  clear hw1
  have hE := hE0.kept hB
  generalize hgg : w.heap.size = g at *
  refine seq_is hS (by decide) (runs_assign rfl) (fun a1 hS => ?_)
  refine nil_ok (qx_seq (reg_seq ?_))
  refine seq_op hS (by decide) (none_own (Nat.le_refl _)) (fun v2 w2 a2 hp2 hS => ?_)
  obtain ⟨⟨g5, rfl, _⟩, hB2⟩ := hp2
  have hE := hE.kept hB2
  have hG0 := hG.lt
  have hG := hG.below hB2 hG.lt
  have hB := hB.trans (hB2.mono (by omega))
  refine seq_is hS (by decide) (runs_assign rfl) (fun a1 hS => ?_)
  refine nil_ok (qx_seq (reg_seq ?_))
  refine seq_is hS (by decide) (runs_loadG rfl hG) (fun a1 hS => ?_)
  refine seq_op hS (by decide) (runs_call (args := [gv (kn : Int) (.slice A es.length c)]) goes75 rfl (rnorm_any kn es _ w2 hE hc)) (fun v3 w3 a3 hp3 hS => ?_)
  obtain ⟨hB3, x3, rfl, hE3⟩ := hp3
  obtain ⟨l, hl⟩ : ∃ l, l = normL kn es := ⟨_, rfl⟩
  rw [Int.toNat_natCast, ← hl] at hE3
  have hll : l.length = es.length := by rw [hl]; exact (norm_perm hc).length_eq
  obtain ⟨A3, c3, rfl, _, hc3, hA3⟩ := hE3.edges
  unfold maxLen at hc3
  have hG := hG.below hB3 hG.lt
  have hB2s := hB2.size
  have hB := hB.trans (hB3.mono (by omega))
  refine seq_op hS (by decide) (runs_alloc24) (fun v4 wa4 a1 hp1 hS => ?_)
  obtain ⟨rfl, hwa4⟩ := hp1
  refine seq_none hS (runs_store24 rfl rfl (by rw [hwa4]; exact Has.new w3 24 [.int .i64 0, .slice none 0 0]) rfl) (fun v4 w4 a1 hp1 hS => ?_)
  obtain ⟨rfl, hwb4⟩ := hp1
  obtain ⟨hM, hB4⟩ : Has w4 w3.heap.size 24 [.int .i64 (kn : Int), .slice A3 l.length c3] ∧ Below w3.heap.size w3 w4 := by rw [hwb4, hwa4]; exact new_row w3 24 [.int .i64 0, .slice none 0 0] [.int .i64 (kn : Int), .slice A3 l.length c3]
  clear hwb4 hwa4
  have hB3s := hB3.size
  have hB := hB.trans (hB4.mono (by omega))
  have hg6 := hM.lt
  have hA4 : 0 < l.length → ∃ b o, A3 = some ⟨b, o, none⟩ ∧ b < w4.heap.size ∧ w4.rangeAt b o (cellsE l) := fun h0 => by
    obtain ⟨b, o, h1, h2, h3⟩ := hA3 h0
    exact ⟨b, o, h1, by have := hB4.size; omega, range_below h3 hB4 h2⟩
  generalize w3.heap.size = g6 at *
  refine nil_ok (qx_seq (qx_seq (reg_seq ?_)))
  refine seq_is hS (by decide) (runs_assign rfl) (fun a1 hS => ?_)
  refine nil_ok (qx_for (fun m a w' => ∃ (i : Nat) (sv : Value), i ≤ l.length ∧ m = l.length - i ∧ Below w4.heap.size w4 w' ∧ Has w' g6 24 [.int .i64 (kn : Int), .slice A3 l.length c3] ∧ OwnOr w4.heap.size w' sv ((l.take i).filter (fun e => e.1 == q)) ∧ Sees 35 [(7, .int .i64 (i : Int)), (5, sv), (6, .pointer (some ⟨g6, 0, none⟩)), (1, .int .i64 q)] a) l.length ⟨0, _, by omega, by omega, Below.refl _ _, hM, .inl ⟨rfl, g5, rfl⟩, hS.only _ ⟨rfl, rfl, rfl, rfl, trivial⟩⟩ ?_)
  clear hG hS hM hA hE
  rintro m a w' ⟨i, sv, hi, rfl, hB5, hM, hown, hS⟩
  have hal : ((l.take i).filter (fun e => e.1 == q)).length ≤ i := Nat.le_trans (List.length_filter_le _ _) (List.length_take_le _ _)
  refine reg_seq ?_
  refine seq_is hS (by decide) (runs_move rfl) (fun a1 hS => ?_)
  refine seq_is hS (by decide) (runs_f24 (by decide) rfl) (fun a1 hS => ?_)
  refine seq_is hS (by decide) (runs_loadV rfl hM) (fun a1 hS => ?_)
  refine seq_is hS (by decide) (runs_len rfl und22) (fun a1 hS => ?_)
  by_cases hlt : i < l.length
  · skip
    refine seq_is hS (by decide) (runs_lss (r := true) rfl rfl (by rw [decide_eq_true_eq]; omega)) (fun a1 hS => ?_)
    obtain ⟨b, o, rfl, hb, hr⟩ := hA4 (by omega)
    obtain ⟨x, hx⟩ : ∃ x, l[i]? = some x := ⟨_, List.getElem?_eq_getElem hlt⟩
    have hrx := range_below (edges_at hr hx) hB5 hb
    have hsn := filter_snoc (fun e => e.1 == q) hx
    refine nil_ok ⟨_, hS.eval rfl, fun h => by simp at h, fun _ => ?_⟩
    refine qx_seq (qx_block (qx_seq (reg_seq ?_)))
    refine seq_is hS (by decide) (runs_f24 (by decide) rfl) (fun a1 hS => ?_)
    refine seq_is hS (by decide) (runs_loadV rfl hM) (fun a1 hS => ?_)
    refine seq_is hS (by decide) (runs_move rfl) (fun a1 hS => ?_)
    refine seq_is hS (by decide) (runs_indexAddrG (j := i) rfl rfl und22 siz45 rfl hlt) (fun a1 hS => ?_)
    refine seq_is hS (by decide) (runs_f45 (by decide) rfl) (fun a1 hS => ?_)
    refine seq_is hS (by decide) (runs_load rfl und_plain3 (hrx 0 _ rfl)) (fun a1 hS => ?_)
    refine seq_is hS (by decide) (runs_move rfl) (fun a1 hS => ?_)
    by_cases q1 : x.1 = q
    · skip
      refine seq_is hS (by decide) (runs_eql (r := true) rfl rfl (by simp [q1])) (fun a1 hS => ?_)
      rw [if_pos (by simp [q1])] at hsn
      refine nil_ok (wp_cond_true (hS.eval rfl) (reg_seq ?_))
      refine seq_is hS (by decide) (runs_move rfl) (fun a1 hS => ?_)
      refine seq_is hS (by decide) (runs_f24 (by decide) rfl) (fun a1 hS => ?_)
      refine seq_is hS (by decide) (runs_loadV rfl hM) (fun a1 hS => ?_)
      refine seq_is hS (by decide) (runs_move rfl) (fun a1 hS => ?_)
      refine seq_is hS (by decide) (runs_indexAddrG (j := i) rfl rfl und22 siz45 rfl hlt) (fun a1 hS => ?_)
      refine seq_is hS (by decide) (runs_loadE rfl hrx) (fun a1 hS => ?_)
      refine seq_op hS (by decide) (runs_oneE rfl) (fun v6 w6 a6 hp6 hS => ?_)
      obtain ⟨g2, rfl, hX, hB6⟩ := hp6
      have hM := hM.below hB6 hM.lt
      have hown := hown.kept hB6
      have hB5s := hB5.size
      have hB5 := hB5.trans (hB6.mono hB5.size)
      refine seq_op hS (by decide) (push_or rfl hown rfl hX (by omega) (by have := hB5.size; omega)) (fun v7 w7 a7 hp7 hS => ?_)
      obtain ⟨hown, hrow, hB7⟩ := hp7
      have hM := hrow g6 24 _ (by decide) hM
      have hB5 := hB5.trans hB7
      refine seq_is hS (by decide) (runs_assign rfl) (fun a1 hS => ?_)
      refine nil_ok (reg_seq ?_)
      refine seq_is hS (by decide) (runs_move rfl) (fun a1 hS => ?_)
      refine seq_is hS (by decide) (runs_add (r := ((i + 1 : Nat) : Int)) rfl rfl (by simp [IntKind.wrap, IntKind.bits, IntKind.signed]; omega)) (fun a1 hS => ?_)
      refine seq_is hS (by decide) (runs_assign rfl) (fun a1 hS => ?_)
      exact nil_ok ⟨_, by omega, i + 1, v7, by omega, rfl, hB5, hM, by rw [hsn]; exact hown, hS.only _ ⟨rfl, rfl, rfl, rfl, trivial⟩⟩
    · skip
      refine seq_is hS (by decide) (runs_eql (r := false) rfl rfl (by simp [q1])) (fun a1 hS => ?_)
      rw [if_neg (by simp [q1]), List.append_nil] at hsn
      refine nil_ok (wp_cond_false (hS.eval rfl) (wp_skip (reg_seq ?_)))
      refine seq_is hS (by decide) (runs_move rfl) (fun a1 hS => ?_)
      refine seq_is hS (by decide) (runs_add (r := ((i + 1 : Nat) : Int)) rfl rfl (by simp [IntKind.wrap, IntKind.bits, IntKind.signed]; omega)) (fun a1 hS => ?_)
      refine seq_is hS (by decide) (runs_assign rfl) (fun a1 hS => ?_)
      exact nil_ok ⟨_, by omega, i + 1, sv, by omega, rfl, hB5, hM, by rw [hsn]; exact hown, hS.only _ ⟨rfl, rfl, rfl, rfl, trivial⟩⟩
  · skip
    refine seq_is hS (by decide) (runs_lss (r := false) rfl rfl (by rw [decide_eq_false_iff_not]; omega)) (fun a1 hS => ?_)
    obtain rfl : i = l.length := by omega
    rw [List.take_length] at hown
    refine nil_ok ⟨_, hS.eval rfl, fun _ => ?_, fun h => by simp at h⟩
    refine qx_seq (reg_seq ?_)
    refine seq_is hS (by decide) (runs_move rfl) (fun a1 hS => ?_)
    refine seq_is hS (by decide) (runs_assign rfl) (fun a1 hS => ?_)
    exact nil_ok (qx_ret (ret1 (t := 4) (by kernel_rfl) hS rfl ⟨_, rfl, hB.trans (hB5.mono (by have := hB.size; omega)), by rw [Int.toNat_natCast, ← hl]; exact ⟨_, hown⟩⟩))
end Go.Proofs.YtapcpmalgdhakaaGreat
