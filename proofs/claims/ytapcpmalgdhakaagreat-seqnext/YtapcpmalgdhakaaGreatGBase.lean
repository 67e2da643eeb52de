/- Slices of edges in blocks of one's own; a graph returned. Conditions: none of our own. -/
import Derived.Test.YtapcpmalgdhakaaGreatGCheck
namespace Go.Proofs.YtapcpmalgdhakaaGreat
open Go.RowKit
set_option maxRecDepth 100000
/-- A slice of edges in blocks from B on. -/
def EdgesB (B : Nat) (w : World) (v : Value) (es : List E) : Prop :=
  ∃ (A : Option Addr) (c : Nat), v = .slice A es.length c ∧ es.length ≤ c ∧ c ≤ maxLen ∧ (0 < es.length → ∃ b o, A = some ⟨b, o, none⟩ ∧ B ≤ b ∧ b < w.heap.size ∧ w.rangeAt b o (cellsE es))
theorem EdgesB.edges {B : Nat} {w : World} {v : Value} {es : List E} (h : EdgesB B w v es) : Edges w v es := by
  obtain ⟨A, c, rfl, h1, h2, h3⟩ := h
  exact ⟨A, c, rfl, h1, h2, fun h0 => by obtain ⟨b, o, rfl, _, hb, hr⟩ := h3 h0; exact ⟨b, o, rfl, hb, hr⟩⟩
theorem EdgesB.kept {B : Nat} {w w' : World} {v : Value} {es : List E} (h : EdgesB B w v es) (k : Below w.heap.size w w') : EdgesB B w' v es := by
  obtain ⟨A, c, rfl, h1, h2, h3⟩ := h
  exact ⟨A, c, rfl, h1, h2, fun h0 => by obtain ⟨b, o, rfl, hB, hb, hr⟩ := h3 h0; exact ⟨b, o, rfl, hB, Nat.lt_of_lt_of_le hb k.size, range_below hr k hb⟩⟩
theorem EdgesB.mono {B B' : Nat} {w : World} {v : Value} {es : List E} (h : EdgesB B w v es) (k : B' ≤ B) : EdgesB B' w v es := by
  obtain ⟨A, c, rfl, h1, h2, h3⟩ := h
  exact ⟨A, c, rfl, h1, h2, fun h0 => by obtain ⟨b, o, rfl, hB, hb, hr⟩ := h3 h0; exact ⟨b, o, rfl, Nat.le_trans k hB, hb, hr⟩⟩
theorem EdgesB.setRow {B : Nat} {w : World} {v : Value} {es : List E} (h : EdgesB B w v es) {g : Nat} (hg : g < B) (cs : Array Value) : EdgesB B (w.setRow g cs) v es := by
  obtain ⟨A, c, rfl, h1, h2, h3⟩ := h
  refine ⟨A, c, rfl, h1, h2, fun h0 => ?_⟩
  obtain ⟨b, o, rfl, hB, hb, hr⟩ := h3 h0
  refine ⟨b, o, rfl, hB, by simpa [World.setRow] using hb, fun j u hj => ?_⟩
  have := setRow_other w g b cs (by omega)
  have h5 := hr j u hj
  simp only [World.cell?] at h5 ⊢
  rw [this]; exact h5
theorem edgesB_nil (B : Nat) (w : World) : EdgesB B w (.slice none 0 0) [] := ⟨none, 0, rfl, Nat.le_refl _, by unfold maxLen; omega, fun h => absurd h (by simp)⟩
theorem edgesB_own {w : World} {B : Nat} {v : Value} {n : Nat} {es : List E} (h : w.ownsRow B 48 3 v n (cellsE es)) (hn : es.length = n) : EdgesB B w v es := by
  subst hn
  rcases h.2 with ⟨rfl, h0⟩ | ⟨g, cap, cur, rfl, hb, hg, h1, h2, h3, h4⟩
  · exact ⟨none, 0, by rw [h0], by omega, by unfold maxLen; omega, fun h => by omega⟩
  · obtain ⟨A, c, e, k1, k2, k3⟩ := edges_own (es := es) ⟨h.1, .inr ⟨g, cap, cur, rfl, hb, hg, h1, h2, h3, h4⟩⟩ rfl
    simp only [Value.slice.injEq, true_and] at e
    obtain ⟨rfl, rfl⟩ := e
    refine ⟨_, _, rfl, k1, k2, fun h0 => ?_⟩
    obtain ⟨b, o, e2, k5, k6⟩ := k3 h0
    simp only [Option.some.injEq, Addr.mk.injEq] at e2
    exact ⟨b, o, by simp [e2.1, e2.2.1], by omega, k5, k6⟩
theorem owns_setRow {w : World} {B g n : Nat} {v : Value} {xs : List Value} {t : TypeId} {old : List Value} (h : w.ownsRow B 48 3 v n xs) (hg : Has w g t old) (ht : t ≠ 48) (cs : Array Value) : (w.setRow g cs).ownsRow B 48 3 v n xs := by
  refine ⟨h.1, ?_⟩
  rcases h.2 with h | ⟨g4, c4, cur, h0, h4, hh, hrest⟩
  · exact .inl h
  · refine .inr ⟨g4, c4, cur, h0, h4, ?_, hrest⟩
    rw [setRow_other w g g4 cs (fun e => by
      subst e
      unfold Has at hg
      rw [hg] at hh
      simp only [Option.some.injEq, Obj.cells.injEq] at hh
      exact ht hh.2.1)]
    exact hh
section
variable {fn : Func} {R : Ending → World → Prop} {n : Nat} {L : List (Nat × Value)} {a : Act} {w : World}
theorem retG1 {p g : Nat} {k : Int} {v : Value} (hr : fn.results = #[.cell p 24]) (hS : Sees n L a) (hp : look L p = some (.pointer (some ⟨g, 0, none⟩))) (hg : Has w g 24 [.int .i64 k, v]) (hR : R (.returned (gv k v)) w) : Rets Tryz.prog fn R a w :=
  retRow (t := 0) hr hS hp hg rfl Tryz.underlying24 rfl (by rw [siz24]; rfl) hR
end
end Go.Proofs.YtapcpmalgdhakaaGreat
