/- The document's Norm, walked. Conditions: none of our own. -/
import Derived.Test.YtapcpmalgdhakaaGApp
import Derived.Test.YtapcpmalgdhakaaEngU
namespace Go.Proofs.Ytapcpmalgdhakaa
open Go.RowKit
set_option maxRecDepth 100000

theorem owns_setCell {w : World} {B g n : Nat} {v : Value} {xs : List Value} {t : TypeId} {old : List Value} (h : w.ownsRow B 45 3 v n xs) (hg : Has w g t old) (ht : t ≠ 45) (i : Nat) (u : Value) : (w.setCell ⟨g, i, none⟩ u).ownsRow B 45 3 v n xs := by
  refine ⟨h.1, ?_⟩
  rcases h.2 with h | ⟨g4, c4, cur, h0, h4, hh, hrest⟩
  · exact .inl h
  · refine .inr ⟨g4, c4, cur, h0, h4, ?_, hrest⟩
    rw [Below.heap_setCell _ _ _ _ (show g4 ≠ g from fun e => by
      subst e
      unfold Has at hg
      rw [hg] at hh
      simp only [Option.some.injEq, Obj.cells.injEq] at hh
      exact ht hh.2.1)]
    exact hh
section
variable {ty : TypeId} {L : List (Nat × Value)} {w : World}
/-- One more edge. -/
theorem push_own {B g2 : Nat} {s x : Operand} {sv : Value} {acc : List E} {e : E} (hs : vals L s = some sv) (hown : w.ownsRow B 45 3 sv acc.length (cellsE acc)) (hx : vals L x = some (.slice (some ⟨g2, 0, none⟩) 1 1)) (hX : Has w g2 45 (encE e)) (hn : acc.length ≤ 10000000) (hB : B ≤ w.heap.size) :
    Runs Try.prog (.call { callee := .builtin .append, args := #[s, x], argTypes := #[22, 22] }) ty L w (fun v w' => (∃ g3 c3, v = .slice (some ⟨g3, 0, none⟩) (acc.length + 1) c3) ∧ w'.ownsRow B 45 3 v (acc.length + 1) (cellsE (acc ++ [e])) ∧ (∀ i t cs, t ≠ 45 → Has w i t cs → Has w' i t cs) ∧ Below B w w') := by
  obtain ⟨i45, hi45, hz45, hs45, hb45⟩ := info_parts inf45
  refine (runs_appendN (news := encE e) und22 hi45 hz45 hs45 hb45 rfl (by omega) hs hown hx rfl (fun j u hj => by rw [add_zero_addr, Nat.zero_add, hX.cell]; exact hj) (by simp [encE, Value.oneCell']) (by unfold maxLen; omega) (by omega) hB (by omega)).mono ?_
  rintro v w' ⟨hown3, hgr3, hne3⟩
  refine ⟨?_, by rw [cellsE_append, cellsE_one]; exact hown3, fun i t cs ht hi => ?_, ?_⟩
  · rcases hown3.2 with ⟨rfl, h0⟩ | ⟨g3, c3, _, rfl, _⟩
    · omega
    · exact ⟨g3, c3, rfl⟩
  · have hne : some i ≠ sv.ownBlock := fun hsv => by
      rcases hown.2 with ⟨rfl, _⟩ | ⟨g0, cap, cur, rfl, _, hh, _⟩
      · simp [Value.ownBlock] at hsv
      · simp only [Value.ownBlock, Option.some.injEq] at hsv
        subst hsv
        unfold Has at hi
        rw [hi] at hh
        simp only [Option.some.injEq, Obj.cells.injEq] at hh
        exact ht hh.2.1
    unfold Has
    rw [hgr3.block i hi.lt hne]
    exact hi
  · exact below_grown (Below.refl _ _) hgr3 (fun g hg => by rcases hown.2 with ⟨rfl, _⟩ | ⟨g0, cap, _, rfl, hg0, _⟩ <;> simp [Value.ownBlock] at hg; omega) hB
/-- A slice of one edge. -/
theorem runs_oneE {x : Operand} {e : E} (hx : vals L x = some (.agg (encE e).toArray)) : Runs Try.prog (.buildSlice 22 1 #[(0, x)]) ty L w (fun v w' => ∃ g2, v = .slice (some ⟨g2, 0, none⟩) 1 1 ∧ Has w' g2 45 (encE e) ∧ Below w.heap.size w w') := by
  obtain ⟨i45, hi45, hz45, hs45, hb45⟩ := info_parts inf45
  exact (runs_buildSliceG (sz := 3) (pv := [(0, .agg (encE e).toArray)]) (by simp [hx]) und22 hi45 hz45 hs45 (by omega) (by omega) (cells := (encE e).toArray) (by kernel_rfl)).mono (by rintro v w5 ⟨rfl, rfl⟩; exact ⟨_, rfl, Has.new w 45 (encE e), (Below.refl _ _).alloc (Nat.le_refl _) _⟩)
end
theorem cell_snoc {l : List E} {i : Nat} {x : E} (h : l[i]? = some x) (v k : Nat) : cellE (l.take (i + 1)) v k = cellE (l.take i) v k ++ if x.1 = (v : Int) ∧ x.2.1 = (k : Int) then [x] else [] := by
  unfold cellE
  rw [List.take_add_one, h, Option.toList_some, List.filter_append, List.filter_cons, List.filter_nil]
  by_cases hc : x.1 = (v : Int) ∧ x.2.1 = (k : Int)
  · rw [if_pos hc, if_pos (by simp [hc.1, hc.2])]
  · rw [if_neg hc, if_neg (by simpa using hc)]
theorem row_snoc (es : List E) (v k : Nat) : rowE es v (k + 1) = rowE es v k ++ cellE es v k := by
  unfold rowE; rw [List.range_succ, List.flatMap_append, List.flatMap_singleton]
theorem norm_snoc (es : List E) (n k : Nat) : normUpto es n (k + 1) = normUpto es n k ++ rowE es k n := by
  unfold normUpto; rw [List.range_succ, List.flatMap_append, List.flatMap_singleton]
/-- What the loops keep. -/
def NSt (w : World) (g gr gn : Nat) (kn : Nat) (VS : Value) (acc : List E) (w' : World) : Prop :=
  ∃ sv, Below g w w' ∧ Has w' g 24 [.int .i64 (kn : Int), VS] ∧ Has w' gr 24 [.int .i64 0, .slice none 0 0] ∧ Has w' gn 24 [.int .i64 (kn : Int), sv] ∧ w'.ownsRow g 45 3 sv acc.length (cellsE acc)
end Go.Proofs.Ytapcpmalgdhakaa
