/- append of append: rows that stay. Conditions: none of our own. -/
import Derived.Test.YtapcpmalgdhakaaGreatGCopy
namespace Go.Proofs.YtapcpmalgdhakaaGreat
open Go.RowKit
set_option maxRecDepth 100000

/-- What stays while a row is made of two: all below B, rows of edges that are short enough or the last one, and what is no row of edges. -/
def KA (B N0 N1 : Nat) (Y : List Value) (a b : World) : Prop := Below B a b ∧ (∀ v n xs, (n ≤ N0 ∨ (n = N1 ∧ xs = Y)) → a.ownsRow B 48 3 v n xs → b.ownsRow B 48 3 v n xs) ∧ ∀ i t cs, t ≠ 48 → Has a i t cs → Has b i t cs
theorem KA.of_below {B N0 N1 : Nat} {Y : List Value} {a b : World} (h : Below a.heap.size a b) (hB : B ≤ a.heap.size) : KA B N0 N1 Y a b :=
  ⟨h.mono hB, fun _ _ _ _ ho => owns_kept ho h, fun _ _ _ _ hg => hg.below h hg.lt⟩
theorem owns_empty {w : World} {g B : Nat} (h : w.heap[g]? = some (.cells #[] 48 (0, 0))) (hB : B ≤ g) : w.ownsRow B 48 3 (.slice (some ⟨g, 0, none⟩) 0 0) 0 [] :=
  ⟨rfl, .inr ⟨g, 0, #[], rfl, hB, h, Nat.le_refl _, by unfold maxLen; omega, rfl, rfl⟩⟩
section
variable {L : List (Nat × Value)} {w : World} {ty : TypeId}
theorem none_own {B : Nat} (hB : B ≤ w.heap.size) : Runs Tryz.prog (.buildSlice 22 0 #[]) ty L w (fun v w' => (∃ g, v = .slice (some ⟨g, 0, none⟩) 0 0 ∧ w'.ownsRow B 48 3 v 0 []) ∧ Below w.heap.size w w') := by
  obtain ⟨i45, hi45, hz45, hs45, hb45⟩ := info_parts inf45
  exact (runs_buildNone und22 hi45).mono (by rintro v w3 ⟨rfl, rfl⟩; exact ⟨⟨_, rfl, owns_empty (heap_alloc_new _ _) hB⟩, (Below.refl _ _).alloc (Nat.le_refl _) _⟩)
end
end Go.Proofs.YtapcpmalgdhakaaGreat
