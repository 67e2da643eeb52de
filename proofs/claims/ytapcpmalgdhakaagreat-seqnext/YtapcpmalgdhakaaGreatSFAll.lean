/- Layer 7: what follows of a step that was done. Conditions: none of our own. -/
import Derived.Test.YtapcpmalgdhakaaGreatSDone
namespace Go.Proofs.YtapcpmalgdhakaaGreat
set_option maxRecDepth 100000

section
variable {n : Int} {es : List E} {k : Nat} {src steps at_ : Int} {x Y : Vx} {l : List E} {e : Int}
theorem may_iff : mayB n es k src steps at_ x = true ↔ jobB n es k src steps = true ∧ 0 ≤ x.id ∧ x.id < n ∧ 0 ≤ at_ ∧ at_ < steps := by
  simp [mayB, and_assoc]
end
end Go.Proofs.YtapcpmalgdhakaaGreat
/- Layer 7: what is sent. Conditions: none of our own. -/
namespace Go.Proofs.YtapcpmalgdhakaaGreat
set_option maxRecDepth 100000

section
variable {n : Int} {es : List E} {k : Nat} {src steps at_ : Int} {x Y : Vx} {l : List E} {e : Int}
theorem edges_row {w : World} {A : Option Addr} {c : Nat} {l : List E} (h : Edges w (.slice A l.length c) l) (h0 : 0 < l.length) : ∃ b o, A = some ⟨b, o, none⟩ ∧ b < w.heap.size ∧ w.rangeAt b o (cellsE l) := by
  obtain ⟨A', c', hv, _, _, h3⟩ := h
  simp only [Value.slice.injEq, true_and] at hv
  obtain ⟨rfl, rfl⟩ := hv
  exact h3 h0
end
end Go.Proofs.YtapcpmalgdhakaaGreat
