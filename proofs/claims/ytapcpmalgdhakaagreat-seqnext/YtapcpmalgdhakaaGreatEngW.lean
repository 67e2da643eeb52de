/- What a store into an object of one kind keeps, in a region that draws. No condition. -/
import Derived.Test.YtapcpmalgdhakaaGreatEngV
import Derived.Test.YtapcpmalgdhakaaGreatEngS
namespace Go.Proofs.YtapcpmalgdhakaaGreat
open Go.RowKit
set_option maxRecDepth 100000

/-- All objects of other kinds are kept, and all below B; one of kind T keeps its size, and is kept once it is F. -/
structure KF (B : Nat) (T : TypeId) (F : List Value) (a b : World) : Prop where
  below : Below B a b
  other : ∀ i t cs, t ≠ T → Has a i t cs → Has b i t cs
  fin : ∀ i, Has a i T F → Has b i T F
  len : ∀ i cs, Has a i T cs → ∃ cs', cs'.length = cs.length ∧ Has b i T cs'
section
variable {B g : Nat} {T : TypeId} {F cs : List Value} {a b c : World}
theorem KF.refl (B : Nat) (T : TypeId) (F : List Value) (a : World) : KF B T F a a := ⟨Below.refl _ _, fun _ _ _ _ h => h, fun _ h => h, fun _ cs h => ⟨cs, rfl, h⟩⟩
theorem KF.trans (h : KF B T F a b) (k : KF B T F b c) : KF B T F a c :=
  ⟨h.below.trans k.below, fun i t cs ht hi => k.other i t cs ht (h.other i t cs ht hi), fun i hi => k.fin i (h.fin i hi), fun i cs hi => by
    obtain ⟨c1, l1, h1⟩ := h.len i cs hi
    obtain ⟨c2, l2, h2⟩ := k.len i c1 h1
    exact ⟨c2, l2.trans l1, h2⟩⟩
theorem KF.of (h : Below a.heap.size a b) (hB : B ≤ a.heap.size) : KF B T F a b :=
  ⟨h.mono hB, fun _ _ _ _ hi => hi.below h hi.lt, fun _ hi => hi.below h hi.lt, fun _ cs hi => ⟨cs, rfl, hi.below h hi.lt⟩⟩
theorem KF.more (h : KF B T F a b) (hB : B ≤ a.heap.size) (k : Below b.heap.size b c) : KF B T F a c := h.trans (KF.of k (Nat.le_trans hB h.below.size))
theorem KF.drew (h : KF B T F a b) : KF B T F a b.drew := ⟨h.below.drew, fun i t cs ht hi => h.other i t cs ht hi, fun i hi => h.fin i hi, fun i cs hi => h.len i cs hi⟩
theorem KF.store (hg : Has a g T cs) (hB : B ≤ g) (hl : cs.length = F.length) (h : Has b g T F) (hU : But (fun k => k = g) a b) : KF B T F a b :=
  ⟨hU.below (fun k e => by omega) (by have := hg.lt; omega), fun i t c1 ht hi => hi.but hU (fun e => by subst e; exact has_ne hi hg ht rfl), fun i hi => by
    by_cases e : i = g
    · rw [e]; exact h
    · exact hi.but hU e, fun i c1 hi => by
    by_cases e : i = g
    · subst e
      have h2 : c1 = cs := by
        unfold Has at hi hg
        rw [hi] at hg
        simpa using hg
      exact ⟨F, by rw [h2, hl], h⟩
    · exact ⟨c1, rfl, hi.but hU e⟩⟩
theorem KF.owns (h : KF B T F a b) {B' n sz : Nat} {e : TypeId} {v : Value} {xs : List Value} (ho : a.ownsRow B' e sz v n xs) (he : e ≠ T) : b.ownsRow B' e sz v n xs := by
  refine ⟨ho.1, ?_⟩
  rcases ho.2 with h0 | ⟨g4, c4, cur, h0, h4, hh, hrest⟩
  · exact .inl h0
  · refine .inr ⟨g4, c4, cur, h0, h4, ?_, hrest⟩
    have := h.other g4 e cur.toList he (by unfold Has; simpa using hh)
    unfold Has at this
    simpa using this
end
end Go.Proofs.YtapcpmalgdhakaaGreat
