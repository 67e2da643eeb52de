/- The document's Norm, walked. Conditions: none of our own. -/
import Derived.Test.YtapcpmalgdhakaaGreatGApp
import Derived.Test.YtapcpmalgdhakaaGreatEngU
namespace Go.Proofs.YtapcpmalgdhakaaGreat
open Go.RowKit
set_option maxRecDepth 100000

theorem goes75 : Goes Tryz.prog 75 := goes_of Tryz.func75 (by kernel_rfl) rfl
theorem owns_setCell {w : World} {B g n : Nat} {v : Value} {xs : List Value} {t : TypeId} {old : List Value} (h : w.ownsRow B 48 3 v n xs) (hg : Has w g t old) (ht : t ≠ 48) (i : Nat) (u : Value) : (w.setCell ⟨g, i, none⟩ u).ownsRow B 48 3 v n xs := by
  refine ⟨h.1, ?_⟩
  rcases h.2 with h | ⟨g4, c4, cur, h0, h4, hh, hrest⟩
  · exact .inl h
  · refine .inr ⟨g4, c4, cur, h0, h4, ?_, hrest⟩
    rw [Below.heap_setCell _ _ _ _ (show g4 ≠ g from fun e => by
      subst e
      unfold Has at hg
      rw [hg] at hh
      simp only [Option.some.injEq, Obj.cells.injEq] at hh
      exact ht hh.2.1)]
    exact hh
section
variable {ty : TypeId} {L : List (Nat × Value)} {w : World}
/-- One more edge. -/
theorem push_own {B g2 : Nat} {s x : Operand} {sv : Value} {acc : List E} {e : E} (hs : vals L s = some sv) (hown : w.ownsRow B 48 3 sv acc.length (cellsE acc)) (hx : vals L x = some (.slice (some ⟨g2, 0, none⟩) 1 1)) (hX : Has w g2 48 (encE e)) (hn : acc.length ≤ 10000000) (hB : B ≤ w.heap.size) :
    Runs Tryz.prog (.call { callee := .builtin .append, args := #[s, x], argTypes := #[22, 22] }) ty L w (fun v w' => (∃ g3 c3, v = .slice (some ⟨g3, 0, none⟩) (acc.length + 1) c3) ∧ w'.ownsRow B 48 3 v (acc.length + 1) (cellsE (acc ++ [e])) ∧ (∀ i t cs, t ≠ 48 → Has w i t cs → Has w' i t cs) ∧ Below B w w') := by
  obtain ⟨i45, hi45, hz45, hs45, hb45⟩ := info_parts inf45
  refine (runs_appendN (news := encE e) und22 hi45 hz45 hs45 hb45 rfl (by omega) hs hown hx rfl (fun j u hj => by rw [add_zero_addr, Nat.zero_add, hX.cell]; exact hj) (by simp [encE, Value.oneCell']) (by unfold maxLen; omega) (by omega) hB (by omega)).mono ?_
  rintro v w' ⟨hown3, hgr3, hne3⟩
  refine ⟨?_, by rw [cellsE_append, cellsE_one]; exact hown3, fun i t cs ht hi => ?_, ?_⟩
  · rcases hown3.2 with ⟨rfl, h0⟩ | ⟨g3, c3, _, rfl, _⟩
    · omega
    · exact ⟨g3, c3, rfl⟩
  · have hne : some i ≠ sv.ownBlock := fun hsv => by
      rcases hown.2 with ⟨rfl, _⟩ | ⟨g0, cap, cur, rfl, _, hh, _⟩
      · simp [Value.ownBlock] at hsv
      · simp only [Value.ownBlock, Option.some.injEq] at hsv
        subst hsv
        unfold Has at hi
        rw [hi] at hh
        simp only [Option.some.injEq, Obj.cells.injEq] at hh
        exact ht hh.2.1
    unfold Has
    rw [hgr3.block i hi.lt hne]
    exact hi
  · exact below_grown (Below.refl _ _) hgr3 (fun g hg => by rcases hown.2 with ⟨rfl, _⟩ | ⟨g0, cap, _, rfl, hg0, _⟩ <;> simp [Value.ownBlock] at hg; omega) hB
/-- A slice of one edge. -/
theorem runs_oneE {x : Operand} {e : E} (hx : vals L x = some (.agg (encE e).toArray)) : Runs Tryz.prog (.buildSlice 22 1 #[(0, x)]) ty L w (fun v w' => ∃ g2, v = .slice (some ⟨g2, 0, none⟩) 1 1 ∧ Has w' g2 48 (encE e) ∧ Below w.heap.size w w') := by
  obtain ⟨i45, hi45, hz45, hs45, hb45⟩ := info_parts inf45
  exact (runs_buildSliceG (sz := 3) (pv := [(0, .agg (encE e).toArray)]) (by simp [hx]) und22 hi45 hz45 hs45 (by omega) (by omega) (cells := (encE e).toArray) (by kernel_rfl)).mono (by rintro v w5 ⟨rfl, rfl⟩; exact ⟨_, rfl, Has.new w 48 (encE e), (Below.refl _ _).alloc (Nat.le_refl _) _⟩)
end
theorem cell_snoc {l : List E} {i : Nat} {x : E} (h : l[i]? = some x) (v k : Nat) : cellE (l.take (i + 1)) v k = cellE (l.take i) v k ++ if x.1 = (v : Int) ∧ x.2.1 = (k : Int) then [x] else [] := by
  unfold cellE
  rw [List.take_add_one, h, Option.toList_some, List.filter_append, List.filter_cons, List.filter_nil]
  by_cases hc : x.1 = (v : Int) ∧ x.2.1 = (k : Int)
  · rw [if_pos hc, if_pos (by simp [hc.1, hc.2])]
  · rw [if_neg hc, if_neg (by simpa using hc)]
theorem row_snoc (es : List E) (v k : Nat) : rowE es v (k + 1) = rowE es v k ++ cellE es v k := by
  unfold rowE; rw [List.range_succ, List.flatMap_append, List.flatMap_singleton]
theorem norm_snoc (es : List E) (n k : Nat) : normUpto es n (k + 1) = normUpto es n k ++ rowE es k n := by
  unfold normUpto; rw [List.range_succ, List.flatMap_append, List.flatMap_singleton]
/-- What the loops keep. -/
def NSt (w : World) (g gr gn : Nat) (kn : Nat) (VS : Value) (acc : List E) (w' : World) : Prop :=
  ∃ sv, Below g w w' ∧ Has w' g 24 [.int .i64 (kn : Int), VS] ∧ Has w' gr 24 [.int .i64 0, .slice none 0 0] ∧ Has w' gn 24 [.int .i64 (kn : Int), sv] ∧ w'.ownsRow g 48 3 sv acc.length (cellsE acc)
set_option maxHeartbeats 1000000 in
theorem norm_in (N R : Act → World → Prop) (X : Nat → Act → World → Prop) (w0 : World) (g gr gn kn : Nat) (es : List E) (A : Option Addr) (c : Nat) (hel : es.length ≤ 512) (_hkn : kn ≤ 64) (hgn : g ≠ gn) (hrn : gr ≠ gn) (hgm : g ≤ gn) (hA : 0 < es.length → ∃ b o, A = some ⟨b, o, none⟩ ∧ b < g ∧ w0.rangeAt b o (cellsE es)) (acc : List E) (hac : acc.length ≤ 5000000) (v u : Nat) (a : Act) (w : World) (hN : NSt w0 g gr gn kn (.slice A es.length c) acc w) (hS : Sees 58 [(6, .int .i64 0), (4, .int .i64 (v : Int)), (5, .int .i64 (u : Int)), (1, .pointer (some ⟨g, 0, none⟩)), (2, .pointer (some ⟨gr, 0, none⟩)), (3, .pointer (some ⟨gn, 0, none⟩))] a) (h : ∀ a' w', NSt w0 g gr gn kn (.slice A es.length c) (acc ++ cellE es v u) w' → Sees 58 [(4, .int .i64 (v : Int)), (5, .int .i64 (u : Int)), (1, .pointer (some ⟨g, 0, none⟩)), (2, .pointer (some ⟨gr, 0, none⟩)), (3, .pointer (some ⟨gn, 0, none⟩))] a' → N a' w') : ((Tryz.f75.body.bind (blockIn 4)).getD .skip).wp Tryz.prog (Qx N X R) a w := by
  refine qx_for (fun m a w' => ∃ i : Nat, i ≤ es.length ∧ m = es.length - i ∧ NSt w0 g gr gn kn (.slice A es.length c) (acc ++ cellE (es.take i) v u) w' ∧ Sees 58 [(6, .int .i64 (i : Int)), (4, .int .i64 (v : Int)), (5, .int .i64 (u : Int)), (1, .pointer (some ⟨g, 0, none⟩)), (2, .pointer (some ⟨gr, 0, none⟩)), (3, .pointer (some ⟨gn, 0, none⟩))] a) es.length ⟨0, by omega, by omega, by simpa [cellE] using hN, hS.only _ ⟨rfl, rfl, rfl, rfl, rfl, rfl, trivial⟩⟩ ?_
  clear hN hS
  rintro m a w' ⟨i, hi, rfl, ⟨sv, hB, hG, hR, hM, hown⟩, hS⟩
  have hcl : (acc ++ cellE (es.take i) v u).length ≤ acc.length + i := by rw [List.length_append]; have := List.length_filter_le (fun e : E => e.1 == (v : Int) && e.2.1 == (u : Int)) (es.take i); have h2 : (es.take i).length ≤ i := List.length_take_le _ _; unfold cellE; omega
  refine reg_seq ?_
  refine seq_is hS (by decide) (runs_move rfl) (fun a1 hS => ?_)
  refine seq_is hS (by decide) (runs_f24 (by decide) rfl) (fun a1 hS => ?_)
  refine seq_is hS (by decide) (runs_loadV rfl hG) (fun a1 hS => ?_)
  refine seq_is hS (by decide) (runs_len rfl und22) (fun a1 hS => ?_)
  by_cases hlt : i < es.length
  · skip
    refine seq_is hS (by decide) (runs_lss (r := true) rfl rfl (by rw [decide_eq_true_eq]; omega)) (fun a1 hS => ?_)
    obtain ⟨b, o, rfl, hb, hr⟩ := hA (by omega)
    obtain ⟨x, hx⟩ : ∃ x, es[i]? = some x := ⟨_, List.getElem?_eq_getElem hlt⟩
    have hrx := range_below (edges_at hr hx) hB hb
    have hbw : b < w'.heap.size := by have := hG.lt; omega
    have hsn := cell_snoc hx v u
    refine nil_ok ⟨_, hS.eval rfl, fun h => by simp at h, fun _ => ?_⟩
    refine qx_seq (qx_block (qx_seq (reg_seq ?_)))
    refine seq_is hS (by decide) (runs_f24 (by decide) rfl) (fun a1 hS => ?_)
    refine seq_is hS (by decide) (runs_loadV rfl hG) (fun a1 hS => ?_)
    refine seq_is hS (by decide) (runs_move rfl) (fun a1 hS => ?_)
    refine seq_is hS (by decide) (runs_indexAddrG (j := i) rfl rfl und22 siz45 rfl hlt) (fun a1 hS => ?_)
    refine seq_is hS (by decide) (runs_f45 (by decide) rfl) (fun a1 hS => ?_)
    refine seq_is hS (by decide) (runs_load rfl und_plain3 (hrx 0 _ rfl)) (fun a1 hS => ?_)
    refine seq_is hS (by decide) (runs_move rfl) (fun a1 hS => ?_)
    by_cases q1 : x.1 = (v : Int)
    · skip
      refine seq_is hS (by decide) (runs_eql (r := true) rfl rfl (by simp [q1])) (fun a1 hS => ?_)
      refine seq_is hS (by decide) (runs_move rfl) (fun a1 hS => ?_)
      refine seq_yis hS (by decide) rfl (by decide) rfl (runs_f24 (by decide) rfl) (fun a1 hS => ?_)
      refine seq_yis hS (by decide) rfl (by decide) rfl (runs_loadV rfl hG) (fun a1 hS => ?_)
      refine seq_yis hS (by decide) rfl (by decide) rfl (runs_move rfl) (fun a1 hS => ?_)
      refine seq_yis hS (by decide) rfl (by decide) rfl (runs_indexAddrG (j := i) rfl rfl und22 siz45 rfl hlt) (fun a1 hS => ?_)
      refine seq_yis hS (by decide) rfl (by decide) rfl (runs_f45 (by decide) rfl) (fun a1 hS => ?_)
      refine seq_yis hS (by decide) rfl (by decide) rfl (runs_load rfl und_plain3 (hrx 1 _ rfl)) (fun a1 hS => ?_)
      refine seq_yis hS (by decide) rfl (by decide) rfl (runs_move rfl) (fun a1 hS => ?_)
      by_cases q2 : x.2.1 = (u : Int)
      · skip
        refine seq_yis hS (by decide) rfl (by decide) rfl (runs_eql (r := true) rfl rfl (by simp [q2])) (fun a1 hS => ?_)
        refine seq_is hS (by decide) (runs_pick rfl rfl) (fun a1 hS => ?_)
        rw [if_pos ⟨q1, q2⟩] at hsn
        refine nil_ok (wp_cond_true (hS.eval rfl) ?_)
        have hgl := hG.lt
        have hml := hM.lt
        have hrl := hR.lt
        have hg1 : g ≤ w'.heap.size := by omega
        generalize hws : w' = w1 at *
        refine reg_guard (fun w4 => Below w1.heap.size w1 w4) [.inl (.pointer (some ⟨gn, 0 + 1, none⟩)), .inl (sv), .inl (.pointer (some ⟨g, 0 + 1, none⟩)), .inl (.slice (some ⟨b, o, none⟩) es.length c), .inl (.int .i64 (i : Int)), .inl (.pointer (some ⟨b, o + i * 3, none⟩)), .inl (.agg (encE x).toArray), .inr (fun v w4 => ∃ g2, v = .slice (some ⟨g2, 0, none⟩) 1 1 ∧ Has w4 g2 48 (encE x))] 8 3 mixed rfl (by kernel_rfl) hS (Below.refl _ _) (fun _ h => h.drew) ?_
        refine hs_is rfl (fun w' hw => runs_f24 (by decide) rfl) ?_
        refine hs_is rfl (fun w' hw => runs_loadV rfl (hM.below hw hml)) ?_
        refine hs_is rfl (fun w' hw => runs_f24 (by decide) rfl) ?_
        refine hs_is rfl (fun w' hw => runs_loadV rfl (hG.below hw hgl)) ?_
        refine hs_is rfl (fun w' hw => runs_move rfl) ?_
        refine hs_is rfl (fun w' hw => runs_indexAddrG (j := i) rfl rfl und22 siz45 rfl hlt) ?_
        refine hs_is rfl (fun w' hw => runs_loadE rfl (range_below hrx hw hbw)) ?_
        refine hs_pr rfl (fun _ _ _ h hb => by obtain ⟨g2, h1, h2⟩ := h; exact ⟨g2, h1, h2.below hb h2.lt⟩) (fun w' hw hq => (runs_oneE rfl).mono (by rintro v w5 ⟨g2, h1, h2, h3⟩; exact ⟨⟨g2, h1, h2⟩, hw.trans (h3.mono hw.size), h3⟩)) (fun v54 => ?_)
        refine (fun a5 w5 hS5 hB5 hq => ?_)
        obtain ⟨g2, rfl, hX⟩ := hq (7, _) List.mem_cons_self
        clear hq
        have hG := hG.below hB5 hgl
        have hM := hM.below hB5 hml
        have hR := hR.below hB5 hrl
        have hown := owns_kept hown hB5
        have hB5s := hB5.size
        have hB := hB.trans (hB5.mono hg1)
        refine tail_op 8 (by kernel_rfl) rfl hS5 (by decide) (push_own rfl hown rfl hX (by omega) (by omega)) (fun v6 w6 a6 hp6 hS6 => ⟨trivial, ?_⟩)
        obtain ⟨⟨g3, c3, rfl⟩, hown6, hrow, hB6⟩ := hp6
        have hG := hrow g 24 _ (by decide) hG
        have hM := hrow gn 24 _ (by decide) hM
        have hR := hrow gr 24 _ (by decide) hR
        have hB := hB.trans hB6
        refine tail_op 9 (by kernel_rfl) rfl hS6 (by decide) (runs_f24 (by decide) rfl) (fun v7 w7 a7 hp7 hS7 => ⟨trivial, ?_⟩)
        obtain ⟨rfl, rfl⟩ := hp7
        refine tail_none 10 (by kernel_rfl) rfl hS7 (runs_store rfl rfl rfl siz22 (by rw [hM.cell]; rfl) (hM.open_ _)) (fun v8 w8 a8 hp8 hS8 => ⟨trivial, ?_⟩)
        obtain ⟨rfl, hw8⟩ := hp8
        refine wpAnyH_done (by kernel_rfl) ?_ _
        have hM8 : Has w8 gn 24 [.int .i64 (kn : Int), .slice (some ⟨g3, 0, none⟩) ((acc ++ cellE (es.take i) v u).length + 1) c3] := by rw [hw8]; exact hM.set_ 1 _
        have hG8 := hG.far (p := ⟨gn, 0 + 1, none⟩) (show g ≠ gn from hgn) (.slice (some ⟨g3, 0, none⟩) ((acc ++ cellE (es.take i) v u).length + 1) c3)
        have hR8 := hR.far (p := ⟨gn, 0 + 1, none⟩) (show gr ≠ gn from hrn) (.slice (some ⟨g3, 0, none⟩) ((acc ++ cellE (es.take i) v u).length + 1) c3)
        have hB8 : Below g w0 w8 := by rw [hw8]; exact hB.setCell (p := ⟨gn, 0 + 1, none⟩) hgm _
        have hown8 := owns_setCell hown6 hM (by decide) (0 + 1) (.slice (some ⟨g3, 0, none⟩) ((acc ++ cellE (es.take i) v u).length + 1) c3)
        rw [← hw8] at hG8 hR8 hown8
        have hS := hS8
        refine reg_seq ?_
        refine seq_is hS (by decide) (runs_move rfl) (fun a1 hS => ?_)
        refine seq_is hS (by decide) (runs_add (r := ((i + 1 : Nat) : Int)) rfl rfl (by simp [IntKind.wrap, IntKind.bits, IntKind.signed]; omega)) (fun a1 hS => ?_)
        refine seq_is hS (by decide) (runs_assign rfl) (fun a1 hS => ?_)
        exact nil_ok ⟨_, by omega, i + 1, by omega, rfl, ⟨_, hB8, hG8, hR8, hM8, by rw [hsn, ← List.append_assoc, List.length_append (bs := [x])]; exact hown8⟩, hS.only _ ⟨rfl, rfl, rfl, rfl, rfl, rfl, trivial⟩⟩
      · skip
        refine seq_yis hS (by decide) rfl (by decide) rfl (runs_eql (r := false) rfl rfl (by simp [q2])) (fun a1 hS => ?_)
        refine seq_is hS (by decide) (runs_pick rfl rfl) (fun a1 hS => ?_)
        rw [if_neg (by omega), List.append_nil] at hsn
        refine nil_ok (wp_cond_false (hS.eval rfl) (wp_skip (reg_seq ?_)))
        refine seq_is hS (by decide) (runs_move rfl) (fun a1 hS => ?_)
        refine seq_is hS (by decide) (runs_add (r := ((i + 1 : Nat) : Int)) rfl rfl (by simp [IntKind.wrap, IntKind.bits, IntKind.signed]; omega)) (fun a1 hS => ?_)
        refine seq_is hS (by decide) (runs_assign rfl) (fun a1 hS => ?_)
        exact nil_ok ⟨_, by omega, i + 1, by omega, rfl, ⟨sv, hB, hG, hR, hM, by rw [hsn]; exact hown⟩, hS.only _ ⟨rfl, rfl, rfl, rfl, rfl, rfl, trivial⟩⟩
    · skip
      refine seq_is hS (by decide) (runs_eql (r := false) rfl rfl (by simp [q1])) (fun a1 hS => ?_)
      refine seq_is hS (by decide) (runs_move rfl) (fun a1 hS => ?_)
      refine seq_no hS (by decide) rfl (by decide) rfl rfl (fun a1 hS => ?_)
      refine seq_no hS (by decide) rfl (by decide) rfl rfl (fun a1 hS => ?_)
      refine seq_no hS (by decide) rfl (by decide) rfl rfl (fun a1 hS => ?_)
      refine seq_no hS (by decide) rfl (by decide) rfl rfl (fun a1 hS => ?_)
      refine seq_no hS (by decide) rfl (by decide) rfl rfl (fun a1 hS => ?_)
      refine seq_no hS (by decide) rfl (by decide) rfl rfl (fun a1 hS => ?_)
      refine seq_no hS (by decide) rfl (by decide) rfl rfl (fun a1 hS => ?_)
      refine seq_no hS (by decide) rfl (by decide) rfl rfl (fun a1 hS => ?_)
      refine seq_is hS (by decide) (runs_pick rfl rfl) (fun a1 hS => ?_)
      rw [if_neg (by omega), List.append_nil] at hsn
      refine nil_ok (wp_cond_false (hS.eval rfl) (wp_skip (reg_seq ?_)))
      refine seq_is hS (by decide) (runs_move rfl) (fun a1 hS => ?_)
      refine seq_is hS (by decide) (runs_add (r := ((i + 1 : Nat) : Int)) rfl rfl (by simp [IntKind.wrap, IntKind.bits, IntKind.signed]; omega)) (fun a1 hS => ?_)
      refine seq_is hS (by decide) (runs_assign rfl) (fun a1 hS => ?_)
      exact nil_ok ⟨_, by omega, i + 1, by omega, rfl, ⟨sv, hB, hG, hR, hM, by rw [hsn]; exact hown⟩, hS.only _ ⟨rfl, rfl, rfl, rfl, rfl, rfl, trivial⟩⟩
  · skip
    refine seq_is hS (by decide) (runs_lss (r := false) rfl rfl (by rw [decide_eq_false_iff_not]; omega)) (fun a1 hS => ?_)
    obtain rfl : i = es.length := by omega
    rw [List.take_length] at hown
    exact nil_ok ⟨_, hS.eval rfl, fun _ => h _ _ ⟨sv, hB, hG, hR, hM, hown⟩ (hS.only _ ⟨rfl, rfl, rfl, rfl, rfl, trivial⟩), fun h => by simp at h⟩
set_option maxHeartbeats 1000000 in
theorem rnorm_any (n : Int) (es : List E) (v : Value) (w : World) (hE : Edges w v es) (hc : checkZ n es = 0) : Ans 75 [gv n v] w (fun u w' => Below w.heap.size w w' ∧ ∃ x, u = gv n x ∧ EdgesB w.heap.size w' x (normL n.toNat es)) := by
  have hE0 := hE
  obtain ⟨A, c, rfl, hc1, hc2, hA⟩ := id hE
  unfold maxLen at hc2
  obtain ⟨kn, rfl, hkn1, hkn2, hel⟩ := norm_small hc
  refine calls_qx (args := [gv (kn : Int) (.slice A es.length c)]) 58 Tryz.func75 rfl (by kernel_rfl) (by simp) (fun a hS => ?_)
  refine qx_seq (reg_seq ?_)
  refine seq_op hS (by decide) (runs_box rfl) (fun v1 w1 a1 hp1 hS => ?_)
  obtain ⟨rfl, hw1⟩ := hp1
  obtain ⟨hG, hB1⟩ : Has w1 w.heap.size 24 [.int .i64 (kn : Int), .slice A es.length c] ∧ Below w.heap.size w w1 := by rw [hw1]; exact new_box w 24 [.int .i64 (kn : Int), .slice A es.length c]
  clear hw1
  refine seq_op hS (by decide) (runs_alloc24) (fun v2 w2 a2 hp2 hS => ?_)
  obtain ⟨rfl, hw2⟩ := hp2
  obtain ⟨hR, hB2⟩ : Has w2 w1.heap.size 24 [.int .i64 0, .slice none 0 0] ∧ Below w1.heap.size w1 w2 := by rw [hw2]; exact new_box w1 24 _
  clear hw2
  have hgr0 := hG.lt
  have hG := hG.below hB2 hG.lt
  have hB := hB1.trans (hB2.mono hB1.size)
  have hrl0 := hR.lt
  generalize hgg : w.heap.size = g at *
  generalize w1.heap.size = gr at *
  refine nil_ok (qx_seq (reg_seq ?_))
  refine seq_is hS (by decide) (runs_f24 (by decide) rfl) (fun a1 hS => ?_)
  refine seq_is hS (by decide) (runs_loadN rfl hG) (fun a1 hS => ?_)
  refine seq_is hS (by decide) (runs_build24o rfl) (fun a1 hS => ?_)
  refine seq_op hS (by decide) (runs_alloc24) (fun v3 wa3 a1 hp1 hS => ?_)
  obtain ⟨rfl, hwa3⟩ := hp1
  refine seq_none hS (runs_store24 rfl rfl (by rw [hwa3]; exact Has.new w2 24 [.int .i64 0, .slice none 0 0]) rfl) (fun v3 w3 a1 hp1 hS => ?_)
  obtain ⟨rfl, hwb3⟩ := hp1
  obtain ⟨hM, hB3⟩ : Has w3 w2.heap.size 24 [.int .i64 (kn : Int), .slice none 0 0] ∧ Below w2.heap.size w2 w3 := by rw [hwb3, hwa3]; exact new_row w2 24 [.int .i64 0, .slice none 0 0] [.int .i64 (kn : Int), .slice none 0 0]
  clear hwb3 hwa3
  have hG := hG.below hB3 hG.lt
  have hR := hR.below hB3 hR.lt
  have hB := hB.trans (hB3.mono (by omega))
  generalize w2.heap.size = gn at *
  refine nil_ok (qx_seq (qx_seq (reg_seq ?_)))
  refine seq_is hS (by decide) (runs_assign rfl) (fun a1 hS => ?_)
  have hgn : g ≠ gn := by omega
  have hrn : gr ≠ gn := by omega
  have hgm : g ≤ gn := by omega
  have hN : NSt w g gr gn kn (.slice A es.length c) [] w3 := ⟨_, hB, hG, hR, hM, ⟨rfl, .inl ⟨rfl, rfl⟩⟩⟩
  refine nil_ok (qx_for (fun m a w' => ∃ v : Nat, v ≤ kn ∧ m = kn - v ∧ (normUpto es kn v).length ≤ 32768 * v ∧ NSt w g gr gn kn (.slice A es.length c) (normUpto es kn v) w' ∧ Sees 58 [(4, .int .i64 (v : Int)), (1, .pointer (some ⟨g, 0, none⟩)), (2, .pointer (some ⟨gr, 0, none⟩)), (3, .pointer (some ⟨gn, 0, none⟩))] a) kn ⟨0, by omega, by omega, Nat.zero_le _, hN, hS.only _ ⟨rfl, rfl, rfl, rfl, trivial⟩⟩ ?_)
  clear hN hS hG hR hM hB
  rintro m a w' ⟨v, hv, rfl, hvl, hN, hS⟩
  have hG := hN
  obtain ⟨_, _, hG, _⟩ := hG
  refine reg_seq ?_
  refine seq_is hS (by decide) (runs_move rfl) (fun a1 hS => ?_)
  refine seq_is hS (by decide) (runs_f24 (by decide) rfl) (fun a1 hS => ?_)
  refine seq_is hS (by decide) (runs_loadN rfl hG) (fun a1 hS => ?_)
  by_cases hlt : v < kn
  · skip
    refine seq_is hS (by decide) (runs_lss (r := true) rfl rfl (by rw [decide_eq_true_eq]; omega)) (fun a1 hS => ?_)
    refine nil_ok ⟨_, hS.eval rfl, fun h => by simp at h, fun _ => ?_⟩
    refine qx_seq (qx_block (qx_seq (reg_seq ?_)))
    refine seq_is hS (by decide) (runs_assign rfl) (fun a1 hS => ?_)
    refine nil_ok (qx_for (fun m a w' => ∃ u : Nat, u ≤ kn ∧ m = kn - u ∧ (rowE es v u).length ≤ 512 * u ∧ NSt w g gr gn kn (.slice A es.length c) (normUpto es kn v ++ rowE es v u) w' ∧ Sees 58 [(4, .int .i64 (v : Int)), (5, .int .i64 (u : Int)), (1, .pointer (some ⟨g, 0, none⟩)), (2, .pointer (some ⟨gr, 0, none⟩)), (3, .pointer (some ⟨gn, 0, none⟩))] a) kn ⟨0, by omega, by omega, Nat.zero_le _, by simpa [rowE] using hN, hS.only _ ⟨rfl, rfl, rfl, rfl, rfl, trivial⟩⟩ ?_)
    clear hN hS hG
    rintro m a w' ⟨u, hu, rfl, hul, hN, hS⟩
    have hG := hN
    obtain ⟨_, _, hG, _⟩ := hG
    refine reg_seq ?_
    refine seq_is hS (by decide) (runs_move rfl) (fun a1 hS => ?_)
    refine seq_is hS (by decide) (runs_f24 (by decide) rfl) (fun a1 hS => ?_)
    refine seq_is hS (by decide) (runs_loadN rfl hG) (fun a1 hS => ?_)
    by_cases hlu : u < kn
    · skip
      refine seq_is hS (by decide) (runs_lss (r := true) rfl rfl (by rw [decide_eq_true_eq]; omega)) (fun a1 hS => ?_)
      refine nil_ok ⟨_, hS.eval rfl, fun h => by simp at h, fun _ => ?_⟩
      refine qx_seq (qx_block (qx_seq (reg_seq ?_)))
      refine seq_is hS (by decide) (runs_assign rfl) (fun a1 hS => ?_)
      refine nil_ok (norm_in _ _ _ w g gr gn kn es A c hel hkn2 hgn hrn hgm hA (normUpto es kn v ++ rowE es v u) (by rw [List.length_append]; omega) v u _ _ hN (hS.only _ ⟨rfl, rfl, rfl, rfl, rfl, rfl, trivial⟩) (fun a3 w3 hN hS => ?_))
      have hcl : (cellE es v u).length ≤ es.length := List.length_filter_le _ _
      rw [List.append_assoc, ← row_snoc] at hN
      refine reg_seq ?_
      refine seq_is hS (by decide) (runs_move rfl) (fun a1 hS => ?_)
      refine seq_is hS (by decide) (runs_add (r := ((u + 1 : Nat) : Int)) rfl rfl (by simp [IntKind.wrap, IntKind.bits, IntKind.signed]; omega)) (fun a1 hS => ?_)
      refine seq_is hS (by decide) (runs_assign rfl) (fun a1 hS => ?_)
      exact nil_ok ⟨_, by omega, u + 1, by omega, rfl, by rw [row_snoc, List.length_append]; omega, hN, hS.only _ ⟨rfl, rfl, rfl, rfl, rfl, trivial⟩⟩
    · skip
      refine seq_is hS (by decide) (runs_lss (r := false) rfl rfl (by rw [decide_eq_false_iff_not]; omega)) (fun a1 hS => ?_)
      obtain rfl : u = kn := by omega
      rw [← norm_snoc] at hN
      refine nil_ok ⟨_, hS.eval rfl, fun _ => ?_, fun h => by simp at h⟩
      refine reg_seq ?_
      refine seq_is hS (by decide) (runs_move rfl) (fun a1 hS => ?_)
      refine seq_is hS (by decide) (runs_add (r := ((v + 1 : Nat) : Int)) rfl rfl (by simp [IntKind.wrap, IntKind.bits, IntKind.signed]; omega)) (fun a1 hS => ?_)
      refine seq_is hS (by decide) (runs_assign rfl) (fun a1 hS => ?_)
      exact nil_ok ⟨_, by omega, v + 1, by omega, rfl, by rw [norm_snoc, List.length_append]; omega, hN, hS.only _ ⟨rfl, rfl, rfl, rfl, trivial⟩⟩
  · skip
    refine seq_is hS (by decide) (runs_lss (r := false) rfl rfl (by rw [decide_eq_false_iff_not]; omega)) (fun a1 hS => ?_)
    obtain rfl : v = kn := by omega
    refine nil_ok ⟨_, hS.eval rfl, fun _ => ?_, fun h => by simp at h⟩
    obtain ⟨sv, hB, hG, hR, hM, hown⟩ := hN
    change _ ∧ _ at hown
    obtain ⟨A5, c5, rfl⟩ : ∃ A5 c5, sv = .slice A5 (normUpto es v v).length c5 := by
      rcases hown.2 with ⟨rfl, h0⟩ | ⟨g4, c4, cur, rfl, _⟩
      · exact ⟨none, 0, by rw [h0]⟩
      · exact ⟨_, _, rfl⟩
    refine qx_seq (reg_seq ?_)
    refine seq_is hS (by decide) (runs_loadG rfl hM) (fun a1 hS => ?_)
    refine seq_none hS (runs_store24 rfl rfl hR rfl) (fun v8 w8 a8 hp8 hS => ?_)
    obtain ⟨rfl, hw8⟩ := hp8
    have hR8 : Has w8 gr 24 [.int .i64 (v : Int), .slice A5 (normUpto es v v).length c5] := by rw [hw8]; exact has_setRow hR
    have hB8 : Below g w w8 := by rw [hw8]; exact below_rowB hB (by omega) _
    have hown8 : w8.ownsRow g 48 3 (.slice A5 (normUpto es v v).length c5) (normUpto es v v).length (cellsE (normUpto es v v)) := by rw [hw8]; exact owns_setRow hown hR (by decide) _
    exact nil_ok (qx_ret (retG1 (p := 2) (by kernel_rfl) hS rfl hR8 ⟨_, rfl, hB8, _, rfl, edgesB_own hown8 rfl⟩))
end Go.Proofs.YtapcpmalgdhakaaGreat
