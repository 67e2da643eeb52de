/- Words for memory: a block that is known whole. No condition. -/
import Derived.WalkKit
import Derived.WalkSpells
import Derived.WalkLawsBesides
import Derived.Lib.Hide
import Derived.Deep.Draws
import Derived.Deep.MidRow
import Derived.Deep.WholeRow
namespace Go.Proofs.YtbcmglggplmkfaaDoor
open Go.RowKit

/-- Block g is the row cs of element type t, and nothing of it is frozen. -/
def Has (w : World) (g : Nat) (t : TypeId) (cs : List Value) : Prop := w.heap[g]? = some (.cells cs.toArray t (0, 0))
section
variable {w w' : World} {g : Nat} {t : TypeId} {cs : List Value}
theorem Has.lt (h : Has w g t cs) : g < w.heap.size := (Array.getElem?_eq_some_iff.1 h).1
theorem Has.cell (h : Has w g t cs) (i : Nat) : w.cell? ⟨g, i, none⟩ = cs[i]? := by
  rw [cell_of_row w g i cs.toArray t (0, 0) h]; simp
theorem Has.open_ (h : Has w g t cs) (i : Nat) : w.frozen? ⟨g, i, none⟩ = false := by
  unfold Has at h
  simp only [World.frozen?, h]
  simp
theorem Has.drew (h : Has w g t cs) : Has w.drew g t cs := h
theorem Has.drewN (h : Has w g t cs) (n : Nat) : Has (w.drewN n) g t cs := h
theorem Has.alloc (h : Has w g t cs) (o : Obj) : Has (w.alloc o) g t cs := (Below.heap_alloc w o g h.lt).trans h
theorem Has.new (w : World) (t : TypeId) (cs : List Value) : Has (w.alloc (.cells cs.toArray t)) w.heap.size t cs := by
  show (w.heap.push _)[w.heap.size]? = _
  simp
theorem Has.new' (w : World) (t : TypeId) (cs : List Value) (o : Array Value) (g : Nat) (ho : o = cs.toArray) (hg : g = w.heap.size) : Has (w.alloc (.cells o t)) g t cs := by
  subst ho hg; exact Has.new w t cs
theorem Has.set_ (h : Has w g t cs) (i : Nat) (u : Value) : Has (w.setCell ⟨g, i, none⟩ u) g t (cs.set i u) := by
  unfold Has at h ⊢
  simp [World.setCell, Array.getElem?_modify, h]
theorem Has.far (h : Has w g t cs) {p : Addr} (hp : g ≠ p.block) (u : Value) : Has (w.setCell p u) g t cs := (Below.heap_setCell w p u g hp).trans h
theorem Has.below {B : Nat} (h : Has w g t cs) (hb : Below B w w') (hg : g < B) : Has w' g t cs := (hb.block g hg).trans h
theorem Has.range (h : Has w g t cs) (o n : Nat) : w.rangeAt g o ((cs.drop o).take n) := fun j v hv => by
  rw [h.cell]
  rw [List.getElem?_take] at hv
  split at hv
  · rw [List.getElem?_drop] at hv; exact hv
  · cases hv
theorem Has.there_ (h : Has w g t cs) (o n : Nat) (hn : o + n ≤ cs.length) : w.there g o n := fun j hj =>
  ⟨by rw [h.cell, List.getElem?_eq_getElem (by omega)]; rfl, h.open_ _⟩
end
theorem setCells_heap_other (b : Nat) : ∀ (vs : List Value) (o : Nat) (w : World) (g : Nat), g ≠ b → (w.setCells b o vs).heap[g]? = w.heap[g]?
  | [], _, _, _, _ => rfl
  | v :: r, o, w, g, h => by
    rw [World.setCells, setCells_heap_other b r (o + 1) _ g h]
    exact Below.heap_setCell w ⟨b, o, none⟩ v g h
theorem setCells_size (b : Nat) : ∀ (vs : List Value) (o : Nat) (w : World), (w.setCells b o vs).heap.size = w.heap.size
  | [], _, _ => rfl
  | v :: r, o, w => by
    rw [World.setCells, setCells_size b r (o + 1) _]
    simp [World.setCell]
/-- The row with vs laid over it from place o on. -/
def over : List Value → Nat → List Value → List Value
  | cs, _, [] => cs
  | cs, o, v :: r => over (cs.set o v) (o + 1) r
theorem Has.setCells {g : Nat} {t : TypeId} : ∀ (vs : List Value) (o : Nat) (w : World) (cs : List Value), Has w g t cs → Has (w.setCells g o vs) g t (over cs o vs)
  | [], _, _, _, h => h
  | v :: r, o, w, cs, h => by
    rw [World.setCells, over]
    exact Has.setCells r (o + 1) _ _ (h.set_ o v)
theorem over_eq : ∀ (vs : List Value) (o : Nat) (cs : List Value), o + vs.length ≤ cs.length → over cs o vs = cs.take o ++ vs ++ cs.drop (o + vs.length)
  | [], o, cs, _ => by simp [over]
  | v :: r, o, cs, h => by
    rw [over, over_eq r (o + 1) (cs.set o v) (by simp at h ⊢; omega)]
    simp only [List.length_cons] at h ⊢
    have h1 : (cs.set o v).take (o + 1) = cs.take o ++ [v] := by
      apply List.ext_getElem?
      intro k
      by_cases hk : k < o
      · rw [List.getElem?_take, List.getElem?_append_left (by simp; omega), List.getElem?_take]
        simp [hk, show k < o + 1 by omega, show o ≠ k by omega]
      · by_cases hk2 : k = o
        · subst hk2
          rw [List.getElem?_take, List.getElem?_append_right (by simp; omega)]
          simp [show min k cs.length = k by omega, show k < cs.length by omega]
        · rw [List.getElem?_take, List.getElem?_append_right (by simp; omega)]
          simp [show ¬ k < o + 1 by omega, show min o cs.length = o by omega]
          omega
    have h2 : (cs.set o v).drop (o + 1 + r.length) = cs.drop (o + (r.length + 1)) := by
      rw [List.drop_set_of_lt (by omega), show o + 1 + r.length = o + (r.length + 1) by omega]
    rw [h1, h2]
    simp
theorem below_setCells {B : Nat} {a : World} (b : Nat) (hb : B ≤ b) : ∀ (vs : List Value) (o : Nat) (w : World), Below B a w → Below B a (w.setCells b o vs)
  | [], _, _, h => h
  | v :: r, o, w, h => by
    rw [World.setCells]
    exact below_setCells b hb r (o + 1) _ (h.setCell (by simpa using hb) v)
theorem below_drewN' {B : Nat} {a w : World} (h : Below B a w) (n : Nat) : Below B a (w.drewN n) := ⟨h.os, h.tape, h.output, h.size, h.block⟩

def U8 (l : List Nat) : List Value := l.map fun n : Nat => Value.int .u8 (n : Int)
def U32 (l : List Nat) : List Value := l.map fun n : Nat => Value.int .u32 (n : Int)
theorem U8_get {l : List Nat} {i : Nat} (h : i < l.length) : (U8 l)[i]? = some (.int .u8 (l.getD i 0 : Nat)) := by simp [U8, h]
theorem U32_get {l : List Nat} {i : Nat} (h : i < l.length) : (U32 l)[i]? = some (.int .u32 (l.getD i 0 : Nat)) := by simp [U32, h]
@[simp] theorem U8_length (l : List Nat) : (U8 l).length = l.length := by simp [U8]
@[simp] theorem U32_length (l : List Nat) : (U32 l).length = l.length := by simp [U32]
theorem U8_append (a b : List Nat) : U8 (a ++ b) = U8 a ++ U8 b := by simp [U8]
theorem U8_set (l : List Nat) (i n : Nat) : (U8 l).set i (.int .u8 (n : Int)) = U8 (l.set i n) := by simp [U8, List.map_set]
theorem U32_set (l : List Nat) (i n : Nat) : (U32 l).set i (.int .u32 (n : Int)) = U32 (l.set i n) := by simp [U32, List.map_set]
theorem U8_one (l : List Nat) : ∀ v ∈ U8 l, v.oneCell' = true := by
  intro v hv; obtain ⟨n, _, rfl⟩ := List.mem_map.1 hv; rfl
theorem U32_one (l : List Nat) : ∀ v ∈ U32 l, v.oneCell' = true := by
  intro v hv; obtain ⟨n, _, rfl⟩ := List.mem_map.1 hv; rfl
end Go.Proofs.YtbcmglggplmkfaaDoor
