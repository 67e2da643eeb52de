/- Plain mathematics of the sum, block by block. No condition. -/
import Derived.Test.YtooeahpkhocaeaaGreatDoorJ00
namespace Sha
theorem run_append (k : Nat) : ∀ (s : St) (l x : List Nat), 64 * k ≤ l.length → run k s (l ++ x) = run k s l := by
  induction k with
  | zero => intros; rfl
  | succ k ih =>
    intro s l x h
    simp only [run]
    rw [List.take_append_of_le_length (by omega), List.drop_append_of_le_length (by omega)]
    exact ih _ _ _ (by rw [List.length_drop]; omega)
theorem run_succ (k : Nat) : ∀ (s : St) (l : List Nat), run (k + 1) s l = compress (run k s l) ((l.drop (64 * k)).take 64) := by
  induction k with
  | zero => intro s l; simp [run]
  | succ k ih =>
    intro s l
    rw [run, ih]
    simp only [run, List.drop_drop]
    rw [show 64 + 64 * k = 64 * (k + 1) by omega]
/-- What a running sum keeps of the bytes l: the numbers behind the whole blocks, the rest in its part. -/
structure Holds (l : List Nat) (s : St) (part : List Nat) (fill : Nat) : Prop where
  now : s = run (l.length / 64) init l
  len : part.length = 64
  byt : Bytes part
  fil : fill = l.length % 64
  rest : part.take fill = l.drop (64 * (l.length / 64))
theorem Holds.ok {l : List Nat} {s : St} {part : List Nat} {fill : Nat} (h : Holds l s part fill) : s.Ok := by rw [h.now]; exact run_ok _ init_ok
theorem Holds.begin : Holds [] init (List.replicate 64 0) 0 := ⟨rfl, by simp, fun x hx => by simp at hx; omega, rfl, rfl⟩
def laid (part : List Nat) (fill : Nat) (x : List Nat) : List Nat := part.take fill ++ x ++ part.drop (fill + x.length)
theorem Bytes.append {a b : List Nat} (ha : Bytes a) (hb : Bytes b) : Bytes (a ++ b) := fun x hx => by
  rcases List.mem_append.1 hx with h | h
  · exact ha x h
  · exact hb x h
theorem Bytes.take {a : List Nat} (ha : Bytes a) (n : Nat) : Bytes (a.take n) := fun x hx => ha x (List.mem_of_mem_take hx)
theorem Bytes.drop {a : List Nat} (ha : Bytes a) (n : Nat) : Bytes (a.drop n) := fun x hx => ha x (List.mem_of_mem_drop hx)
theorem laid_length {part x : List Nat} {fill : Nat} (hp : part.length = 64) (h : fill + x.length ≤ 64) : (laid part fill x).length = 64 := by
  simp [laid, hp]; omega
theorem laid_bytes {part x : List Nat} {fill : Nat} (hp : Bytes part) (hx : Bytes x) : Bytes (laid part fill x) := ((hp.take _).append hx).append (hp.drop _)
/-- Fewer bytes than fill the block. -/
theorem Holds.more {l x part : List Nat} {s : St} {fill : Nat} (h : Holds l s part fill) (hx : Bytes x) (hl : fill + x.length < 64) : Holds (l ++ x) s (laid part fill x) (fill + x.length) := by
  have hf := h.fil
  have hd : (l ++ x).length / 64 = l.length / 64 := by rw [List.length_append]; omega
  refine ⟨?_, laid_length h.len (by omega), laid_bytes h.byt hx, by rw [List.length_append]; omega, ?_⟩
  · rw [hd, run_append _ _ _ _ (by omega)]; exact h.now
  · rw [hd, List.drop_append_of_le_length (by omega), ← h.rest]
    unfold laid
    have h1 : (part.take fill).length = fill := by rw [List.length_take, h.len]; omega
    rw [List.take_append_of_le_length (by rw [List.length_append, h1]; exact Nat.le_refl _), List.take_of_length_le (by rw [List.length_append, h1]; exact Nat.le_refl _)]
/-- As many as fill it. -/
theorem Holds.full {l x part : List Nat} {s : St} {fill : Nat} (h : Holds l s part fill) (hx : Bytes x) (hl : fill + x.length = 64) : Holds (l ++ x) (compress s (laid part fill x)) (laid part fill x) 0 := by
  have hf := h.fil
  have hd : (l ++ x).length / 64 = l.length / 64 + 1 := by rw [List.length_append]; omega
  have hb : laid part fill x = (l ++ x).drop (64 * (l.length / 64)) := by
    unfold laid
    have hz : part.drop 64 = [] := List.drop_of_length_le (by rw [h.len]; exact Nat.le_refl _)
    rw [h.rest, List.drop_append_of_le_length (by omega), hl, hz, List.append_nil]
  refine ⟨?_, laid_length h.len (by omega), laid_bytes h.byt hx, by rw [List.length_append]; omega, ?_⟩
  · rw [hd, run_succ, ← hb, List.take_of_length_le (by rw [laid_length h.len (by omega)]; exact Nat.le_refl _), run_append _ _ _ _ (by omega), ← h.now]
  · rw [hd, List.take_zero, List.drop_of_length_le (by rw [List.length_append]; omega)]
theorem ending_bytes (n : Nat) : Bytes (ending n) := by
  intro x hx
  simp [ending, be8] at hx
  omega
theorem ending_le (n : Nat) : (ending n).length ≤ 72 := by simp [ending, be8]; omega
theorem Holds.sum {l part : List Nat} {s : St} {fill : Nat} (h : Holds (l ++ ending l.length) s part fill) : out s = sha l := by
  unfold sha; rw [h.now]
theorem Holds.sumText {l : List Nat} : (sha l).length = 32 := by simp [sha, out, St.list, be4]
end Sha
