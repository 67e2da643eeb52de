/- Strings cut, as lists of bytes. No condition. -/
import Derived.Test.YtiifdbagmbikpaaInText
namespace Go.Proofs.Ytiifdbagmbikpaa
open Go.RowKit

theorem bl_sub (s : ByteArray) (a b : Nat) : bl (sub s a b) = ((bl s).drop a).take (b - a) := by
  unfold bl sub
  rw [ByteArray.data_extract, Array.toList_extract, List.extract_eq_take_drop, List.map_take, List.map_drop]
theorem bl_cut (s : ByteArray) (a : Nat) : bl (cut s a) = (bl s).drop a := by
  have := bl_sub s a s.size
  unfold sub at this
  unfold cut
  rw [this, List.take_of_length_le]
  rw [List.length_drop, bl_length]; omega
theorem cut_S (l r : List Nat) : cut (S (l ++ r)) l.length = S r := by
  unfold cut
  apply ByteArray.ext
  rw [ByteArray.data_extract]
  apply Array.ext'
  rw [Array.toList_extract, List.extract_eq_take_drop]
  simp [S, ByteArray.size]
  exact List.take_of_length_le (by simp)
theorem sub_S (l x r : List Nat) : sub (S (l ++ (x ++ r))) l.length (l.length + x.length) = S x := by
  unfold sub
  apply ByteArray.ext
  rw [ByteArray.data_extract]
  apply Array.ext'
  rw [Array.toList_extract, List.extract_eq_take_drop]
  simp [S]
theorem num_bl (n : Nat) (r : List Nat) (hr : ∀ c ∈ r, c < 256) : bl (S (Wire.num n ++ r)) = Wire.num n ++ r := bl_S (fun c hc => by
  rcases List.mem_append.1 hc with h | h
  · exact Wire.num_bytes n c h
  · exact hr c h)
/-- What was written is read again: a number. -/
theorem num_back (n : Nat) (r : List Nat) (hn : n < 18446744073709551616) (hr : ∀ c ∈ r, c < 256) : numRes (S (Wire.num n ++ r)) 0 = (n, S r, 0) := by
  unfold numRes
  rw [if_neg (by omega), num_bl n r hr, Wire.rd_num n r hn]
  simp [cut_S]
/-- A text. -/
theorem text_back (s : ByteArray) (r : List Nat) (most : Int) (hs : s.size ≤ 100000) (hr : ∀ c ∈ r, c < 256) :
    textRes (S (Wire.num s.size ++ (bl s ++ r))) 0 most = if most < (s.size : Int) then (nil, S (Wire.num s.size ++ (bl s ++ r)), 22) else (s, S r, 0) := by
  have hb : ∀ c ∈ bl s ++ r, c < 256 := fun c hc => by
    rcases List.mem_append.1 hc with h | h
    · exact bl_bytes s c h
    · exact hr c h
  unfold textRes
  rw [if_neg (by omega), num_bl _ _ hb, Wire.rd_num _ _ (by omega)]
  unfold textOf
  simp only [ne_eq, not_true_eq_false, if_false]
  by_cases h : most < (s.size : Int)
  · simp only [if_pos h, cut_zero]
  · simp only [if_neg h]
    rw [if_neg (by rw [S_size]; simp [bl_length])]
    refine Prod.ext ?_ (Prod.ext ?_ rfl)
    · have := sub_S (Wire.num s.size) (bl s) r
      rw [bl_length] at this
      show sub _ _ _ = s
      rw [this, S_bl]
    · have := cut_S (Wire.num s.size ++ bl s) r
      rw [List.length_append, bl_length, List.append_assoc] at this
      exact this
end Go.Proofs.Ytiifdbagmbikpaa
