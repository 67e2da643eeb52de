/- Fields written are read again, whatever stands behind. Conditions: fields that are short. -/
import Derived.Test.YtiifdbagmbikpaaOneMath
import Derived.Test.YtiifdbagmbikpaaFew
namespace Go.Proofs.Ytiifdbagmbikpaa
open Go.RowKit

/-- A field with nothing in it but what its kind names. -/
def canon (f : Fld) : Fld := if f.kind = 0 then fn0 f.n else if f.kind = 1 then fi1 f.i else if f.kind = 2 then fs2 f.s else fh3 f.h
def fmost (f : Fld) (m : Int) : Fld := ⟨f.kind, m, f.n, f.i, f.s, f.h⟩
theorem canon_len {f : Fld} (h : f.Ok) : (canon f).h.length = 32 := by
  unfold canon
  split
  · rfl
  · split
    · rfl
    · split
      · rfl
      · exact h.hl
theorem fmost_ok {f : Fld} (h : f.Ok) (m : Int) (h1 : -9223372036854775808 ≤ m) (h2 : m ≤ 9223372036854775807) : (fmost f m).Ok := ⟨h.k1, h.k2, h1, h2, h.n2, h.i1, h.i2, h.hl, h.hb⟩
theorem get_back (f : Fld) (r : List Nat) (hf : f.Ok) (hs : f.short) (hr : ∀ c ∈ r, c < 256) : getRes (S (f.bytes ++ r)) 0 (fmost f 300) = (canon f, S r, 0) := by
  unfold getRes canon Fld.bytes fmost
  simp only
  by_cases k0 : f.kind = 0
  · simp only [if_pos k0]
    rw [num_back f.n r hf.n2 hr]
  · simp only [if_neg k0]
    by_cases k1 : f.kind = 1
    · simp only [if_pos k1]
      rw [num_back _ r (Wire.fold_lt f.i hf.i1 hf.i2) hr, Wire.unfold_fold]
    · simp only [if_neg k1]
      by_cases k2 : f.kind = 2
      · simp only [if_pos k2]
        have h1 := hs.1
        rw [List.append_assoc, text_back f.s r 300 (by omega) hr, if_neg (by omega)]
      · simp only [if_neg k2]
        have hb : ∀ c ∈ f.h ++ r, c < 256 := fun c hc => by
          rcases List.mem_append.1 hc with h | h
          · exact hf.hb c h
          · exact hr c h
        have hz : hashRes (S (f.h ++ r)) 0 = (f.h, S r, 0) := by
          unfold hashRes
          rw [if_neg (by omega), if_neg (by rw [S_size, List.length_append, hf.hl]; omega), bl_S hb, ← hf.hl, List.take_left, cut_S]
        rw [hz]
/-- The bytes of fields. -/
def encF (fs : List Fld) : List Nat := (fs.map Fld.bytes).flatten
theorem encF_append (a b : List Fld) : encF (a ++ b) = encF a ++ encF b := by simp [encF]
theorem encF_step (fs : List Fld) (k : Nat) (f : Fld) (h : fs[k]? = some f) : encF (fs.take (k + 1)) = encF (fs.take k) ++ f.bytes := by
  rw [List.take_add_one, encF_append, h]
  simp [encF]
theorem encF_drop (fs : List Fld) (k : Nat) (f : Fld) (h : fs[k]? = some f) : encF (fs.drop k) = f.bytes ++ encF (fs.drop (k + 1)) := by
  obtain ⟨hk, e⟩ := List.getElem?_eq_some_iff.1 h
  rw [List.drop_eq_getElem_cons hk, e]
  simp [encF]
theorem encF_bytes (fs : List Fld) (h : ∀ f ∈ fs, f.Ok) : ∀ c ∈ encF fs, c < 256 := fun c hc => by
  obtain ⟨l, hl, hc⟩ := List.mem_flatten.1 hc
  obtain ⟨f, hf, rfl⟩ := List.mem_map.1 hl
  exact Fld.bytes_lt (h f hf) c hc
theorem encF_le (fs : List Fld) (h : ∀ f ∈ fs, f.Ok) (hs : ∀ f ∈ fs, f.short) : (encF fs).length ≤ 310 * fs.length := by
  induction fs with
  | nil => simp [encF]
  | cons a r ih =>
    have h1 := Fld.bytes_le (h a (List.mem_cons_self ..)) (hs a (List.mem_cons_self ..)).1
    have h2 := ih (fun f hf => h f (List.mem_cons_of_mem _ hf)) (fun f hf => hs f (List.mem_cons_of_mem _ hf))
    rw [show a :: r = [a] ++ r from rfl, encF_append, List.length_append]
    simp [encF] at h2 ⊢
    omega
theorem box_new (w : World) (f : Fld) : ∃ X, (w.alloc (.cells (fn0 0).cells.toArray 32)).setRow w.heap.size f.cells.toArray = X ∧ Has X w.heap.size 32 f.cells ∧ Below w.heap.size w X ∧ X.heap.size = w.heap.size + 1 := by
  have h1 : Below w.heap.size w (w.alloc (.cells (fn0 0).cells.toArray 32)) := (Below.refl _ _).alloc (Nat.le_refl _) _
  exact ⟨_, rfl, setRow_heap _ _ _ _ 32 (0, 0) (Has.new w 32 (fn0 0).cells), ⟨h1.os, h1.tape, h1.output, by simp, fun k hk => by rw [setRow_other _ _ k _ (by omega)]; exact h1.block k hk⟩, by simp⟩
theorem flds_range {w : World} {b o i : Nat} {f : Fld} (h : ∀ j u, f.cells[j]? = some u → w.cell? ⟨b, o + i * 37 + j, none⟩ = some u) : w.rangeAt b (o + i * 37) f.cells := fun j v hv => h j v hv
theorem has_most {X : World} {p : Nat} {f : Fld} (h : Has X p 32 f.cells) (m : Int) : Has (X.setCell ⟨p, 1, none⟩ (.int .i64 m)) p 32 (fmost f m).cells := by
  have := h.set_ 1 (.int .i64 m)
  exact this
end Go.Proofs.Ytiifdbagmbikpaa
