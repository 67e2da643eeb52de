/- More laws for walking by facts on slots: a slice of a slice; own rows; what stays. No condition. -/
import Derived.Test.YtlldcicnakdjmaaDoorEngM
namespace Go.Proofs.YtlldcicnakdjmaaDoor
open Go.RowKit

section
variable {P : Program} {ops : Array Oper} {L : List (Nat × Value)} {w : World} {n : Nat} {ty : TypeId} {N R : Act → World → Prop} {X : Nat → Act → World → Prop} {a : Act}
theorem nil_ok {ops : Array Oper} (h : N a w) : wpList P ops (Qx N X R) [] a w := h
theorem runs_slice {t e : TypeId} {x lo hi : Operand} {g o' m c l h : Nat} {i j : Int} (hx : vals L x = some (.slice (some ⟨g, o', none⟩) m c)) (hlo : vals L lo = some (.int .i64 i)) (hhi : vals L hi = some (.int .i64 j)) (hi' : i = (l : Int)) (hj : j = (h : Int))
    (hu : P.underlying t = some (.slice e)) (hs : (P.info? e).map (·.size) = some 1) (hlh : l ≤ h) (hhc : h ≤ c) (hlc : l < c) :
    Runs P (.slice t x (some lo) (some hi) none) ty L w (Is (.slice (some ⟨g, o' + l, none⟩) (h - l) (c - l)) w) := fun o a K Q ho _ hL hK => by
  have ex := hL x (by simp [Op.operands]) _ hx
  have el := hL lo (by simp [Op.operands]) _ hlo
  have eh := hL hi (by simp [Op.operands]) _ hhi
  subst hi' hj
  obtain ⟨ie, hie⟩ : ∃ ie, P.info? e = some ie := by
    cases h : P.info? e with
    | none => rw [h] at hs; cases hs
    | some ie => exact ⟨ie, rfl⟩
  have hsz : ie.size = 1 := by rw [hie] at hs; simpa using hs
  have hadd : (⟨g, o', none⟩ : Addr).add l = ⟨g, o' + l, none⟩ := by unfold Addr.add; split <;> simp_all
  unfold Oper.wp
  have : (execOp a.eval o).run P w = .ok (.value (.slice (some ⟨g, o' + l, none⟩) (h - l) (c - l))) w := by
    have h1 : (0 : Int) ≤ (h : Int) ∧ (h : Int) ≤ (c : Int) := by omega
    have h2 : (0 : Int) ≤ (l : Int) ∧ (l : Int) ≤ (h : Int) := by omega
    have h3 : ¬ c = l := by omega
    simp [execOp, ho, ex, el, eh, Instr.sliceAt, run_underlying hu, Instr.slice, Instr.sliceBounds, Instr.sliceBound, asIntOf, hlh, hhc, sizeOf, typeInfo, hie, hsz, h3, hadd]
  rw [this]
  exact hK _ _ ⟨rfl, rfl⟩
end
theorem own_form {w : World} {base : Nat} {e : TypeId} {v : Value} {n : Nat} {xs : List Value} (h : w.ownsRow base e 1 v n xs) (hne : v ≠ .slice none 0 0) :
    ∃ g cap, v = .slice (some ⟨g, 0, none⟩) n cap ∧ base ≤ g ∧ g < w.heap.size ∧ n ≤ cap ∧ cap ≤ maxLen ∧ w.rangeAt g 0 xs := by
  rcases h.2 with ⟨h0, _⟩ | ⟨g, cap, cur, rfl, hb, hg, hn, hm, _⟩
  · exact absurd h0 hne
  · refine ⟨g, cap, rfl, hb, (Array.getElem?_eq_some_iff.1 hg).1, hn, hm, fun j u hu => ?_⟩
    have := h.cells (g := g) rfl j u hu
    rwa [show (⟨g, 0, none⟩ : Addr).add j = ⟨g, 0 + j, none⟩ from by unfold Addr.add; split <;> simp_all] at this
theorem Drawn.below {V w : World} (h : Drawn V w) (B : Nat) : Below B V w := by obtain ⟨k, rfl⟩ := h; exact ⟨rfl, rfl, rfl, Nat.le_refl _, fun _ _ => rfl⟩
theorem Drawn.size {V w : World} (h : Drawn V w) : w.heap.size = V.heap.size := by obtain ⟨k, rfl⟩ := h; rfl
theorem Drawn.heap {V w : World} (h : Drawn V w) : w.heap = V.heap := by obtain ⟨k, rfl⟩ := h; rfl
theorem Drawn.owns {V w : World} (h : Drawn V w) {base : Nat} {e : TypeId} {s n : Nat} {v : Value} {xs : List Value} (ho : V.ownsRow base e s v n xs) : w.ownsRow base e s v n xs := by obtain ⟨k, rfl⟩ := h; exact ho
theorem range_below {B : Nat} {w w' : World} {b o : Nat} {cs : List Value} (h : w.rangeAt b o cs) (k : Below B w w') (hb : b < B) : w'.rangeAt b o cs := fun j v hv => by
  rw [k.cell (p := ⟨b, o + j, none⟩) hb]; exact h j v hv
theorem below_grown {B : Nat} {a w w' : World} {r : Option Nat} (h : Below B a w) (k : w.grownBy w' r) (hr : ∀ g, r = some g → B ≤ g) (hB : B ≤ w.heap.size) : Below B a w' :=
  ⟨k.os.trans h.os, k.tape.trans h.tape, k.output.trans h.output, Nat.le_trans h.size k.size, fun i hi => (k.block i (by omega) (fun e => by have := hr i e.symm; omega)).trans (h.block i hi)⟩
theorem grown_below {w w' : World} (h : Below w.heap.size w w') (r : Option Nat) : w.grownBy w' r := ⟨h.os, h.tape, h.output, h.size, fun k hk _ => h.block k hk⟩
theorem add_zero_addr (g j : Nat) : (⟨g, 0, none⟩ : Addr).add j = ⟨g, 0 + j, none⟩ := by unfold Addr.add; split <;> simp_all
end Go.Proofs.YtlldcicnakdjmaaDoor
