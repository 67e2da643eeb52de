/- What is read to its end was written so. Conditions: at most 300 bytes. -/
import Derived.Test.YtiifdbagmbikpaaPut
import Derived.Test.YtiifdbagmbikpaaGet
import Derived.Test.YtiifdbagmbikpaaBytes
import Derived.Test.YtiifdbagmbikpaaDone
namespace Go.Proofs.Ytiifdbagmbikpaa
open Go.RowKit

theorem Z32_bytes : ∀ x ∈ Z32, x < 256 := fun x hx => by rw [List.eq_of_mem_replicate hx]; omega
theorem nil_size : nil.size = 0 := rfl
theorem bl_nil_of {s : ByteArray} (h : s.size = 0) : bl s = [] := List.length_eq_zero_iff.1 (by rw [bl_length, h])
theorem sub_size {s : ByteArray} {a b : Nat} (h1 : a ≤ b) (h2 : b ≤ s.size) : (sub s a b).size = b - a := by unfold sub; rw [ByteArray.size_extract]; omega
theorem text_small (s : ByteArray) (x : Nat) (most : Int) : (textRes s x most).1.size ≤ s.size := by
  unfold textRes
  split
  · simp [nil_size]
  · show (textOf s most _).1.size ≤ _
    unfold textOf
    split
    · simp [nil_size]
    · split
      · simp [nil_size]
      · split
        · simp [nil_size]
        · show (sub s _ _).size ≤ _
          unfold sub; rw [ByteArray.size_extract]; omega
theorem fn0_ok (n : Nat) (h : n < 18446744073709551616) : (fn0 n).Ok := ⟨(by show (-9223372036854775808 : Int) ≤ 0; decide), (by show (0 : Int) ≤ 9223372036854775807; decide), (by show (-9223372036854775808 : Int) ≤ 0; decide), (by show (0 : Int) ≤ 9223372036854775807; decide), h, (by show (-9223372036854775808 : Int) ≤ 0; decide), (by show (0 : Int) ≤ 9223372036854775807; decide), rfl, Z32_bytes⟩
theorem fi1_ok (i : Int) (h1 : -9223372036854775808 ≤ i) (h2 : i ≤ 9223372036854775807) : (fi1 i).Ok := ⟨(by show (-9223372036854775808 : Int) ≤ 1; decide), (by show (1 : Int) ≤ 9223372036854775807; decide), (by show (-9223372036854775808 : Int) ≤ 0; decide), (by show (0 : Int) ≤ 9223372036854775807; decide), (by show 0 < 18446744073709551616; decide), h1, h2, rfl, Z32_bytes⟩
theorem fs2_ok (s : ByteArray) : (fs2 s).Ok := ⟨(by show (-9223372036854775808 : Int) ≤ 2; decide), (by show (2 : Int) ≤ 9223372036854775807; decide), (by show (-9223372036854775808 : Int) ≤ 0; decide), (by show (0 : Int) ≤ 9223372036854775807; decide), (by show 0 < 18446744073709551616; decide), (by show (-9223372036854775808 : Int) ≤ 0; decide), (by show (0 : Int) ≤ 9223372036854775807; decide), rfl, Z32_bytes⟩
theorem fh3_ok (h : List Nat) (h1 : h.length = 32) (h2 : ∀ c ∈ h, c < 256) : (fh3 h).Ok := ⟨(by show (-9223372036854775808 : Int) ≤ 3; decide), (by show (3 : Int) ≤ 9223372036854775807; decide), (by show (-9223372036854775808 : Int) ≤ 0; decide), (by show (0 : Int) ≤ 9223372036854775807; decide), (by show 0 < 18446744073709551616; decide), (by show (-9223372036854775808 : Int) ≤ 0; decide), (by show (0 : Int) ≤ 9223372036854775807; decide), h1, h2⟩
theorem get_ok (s : ByteArray) (x : Nat) (f : Fld) : (getRes s x f).1.Ok ∧ (getRes s x f).1.s.size ≤ s.size := by
  have hn := num_in64 s x
  have hu := Wire.unfold_in _ hn
  unfold getRes
  split
  · exact ⟨fn0_ok _ hn, by show nil.size ≤ _; rw [nil_size]; omega⟩
  · split
    · exact ⟨fi1_ok _ hu.1 hu.2, by show nil.size ≤ _; rw [nil_size]; omega⟩
    · split
      · exact ⟨fs2_ok _, text_small s x f.most⟩
      · exact ⟨fh3_ok _ (hash_len s x) (hash_bytes s x), by show nil.size ≤ _; rw [nil_size]; omega⟩
theorem end_zero {s : ByteArray} {x : Nat} (h : endOf s x = 0) : x = 0 ∧ s.size = 0 := by
  unfold endOf at h
  split at h <;> omega
theorem num_whole {s : ByteArray} (h : (numRes s 0).2.2 = 0) : Wire.rd (bl s) = ((numRes s 0).1, (Wire.rd (bl s)).2.1, 0) ∧ (numRes s 0).2.1 = cut s (Wire.rd (bl s)).2.1 := by
  unfold numRes at *
  rw [if_neg (by omega)] at h ⊢
  split at h
  · rename_i h0; rw [if_pos h0]; exact ⟨by rw [← h0], rfl⟩
  · rename_i h0; exact absurd h h0
theorem num_end {s : ByteArray} (h : (numRes s 0).2.2 = 0) (hl : (numRes s 0).2.1.size = 0) : Wire.num (numRes s 0).1 = bl s := by
  obtain ⟨e1, e2⟩ := num_whole h
  obtain ⟨_, _, h3, _⟩ := Wire.rd_back (bl s) _ _ (bl_bytes s) e1
  rw [e2] at hl
  have := bl_nil_of hl
  rw [bl_cut] at this
  rw [← h3]
  exact List.take_of_length_le (List.drop_eq_nil_iff.1 this)
theorem one_back (s : ByteArray) (f : Fld) (h : endOf (getRes s 0 f).2.1 (getRes s 0 f).2.2 = 0) : S (getRes s 0 f).1.bytes = s := by
  obtain ⟨h1, h2⟩ := end_zero h
  clear h
  unfold getRes at *
  split at h1
  · rename_i k0
    rw [if_pos k0] at h2 ⊢
    show S (fn0 _).bytes = s
    unfold Fld.bytes fn0
    simp only [if_true]
    rw [num_end h1 h2, S_bl]
  · rename_i k0
    rw [if_neg k0] at h2 ⊢
    split at h1
    · rename_i k1
      rw [if_pos k1] at h2 ⊢
      show S (fi1 _).bytes = s
      unfold Fld.bytes fi1
      simp only [show ¬ ((1 : Int) = 0) by decide, if_false, if_true]
      rw [Wire.fold_unfold, num_end h1 h2, S_bl]
    · rename_i k1
      rw [if_neg k1] at h2 ⊢
      split at h1
      · rename_i k2
        rw [if_pos k2] at h2 ⊢
        show S (fs2 _).bytes = s
        unfold Fld.bytes fs2
        simp only [show ¬ ((2 : Int) = 0) by decide, show ¬ ((2 : Int) = 1) by decide, if_false, if_true]
        unfold textRes at *
        rw [if_neg (by omega)] at h1 h2 ⊢
        simp only at h1 h2 ⊢
        have hrb := fun h0 : (Wire.rd (bl s)).2.2 = 0 => Wire.rd_back (bl s) (Wire.rd (bl s)).1 (Wire.rd (bl s)).2.1 (bl_bytes s) (show Wire.rd (bl s) = (_, _, 0) by rw [← h0])
        unfold textOf at *
        split at h1
        · rename_i a; exact absurd h1 a
        · rename_i a
          rw [if_neg a] at h2 ⊢
          obtain ⟨r1, r2, r3, r4⟩ := hrb (by omega)
          rw [bl_length] at r1
          split at h1
          · simp at h1
          · rename_i a2
            rw [if_neg a2] at h2 ⊢
            split at h1
            · simp at h1
            · rename_i a3
              rw [if_neg a3] at h2 ⊢
              simp only at h2 ⊢
              generalize Wire.rd (bl s) = r at *
              have hz := bl_nil_of h2
              rw [bl_cut] at hz
              rw [sub_size (by omega) (by omega), bl_sub, show r.2.1 + r.1 - r.2.1 = r.1 by omega, ← r3, ← List.take_add, List.take_of_length_le (List.drop_eq_nil_iff.1 hz), S_bl]
      · rename_i k2
        rw [if_neg k2] at h2 ⊢
        show S (fh3 _).bytes = s
        unfold Fld.bytes fh3
        simp only [show ¬ ((3 : Int) = 0) by decide, show ¬ ((3 : Int) = 1) by decide, show ¬ ((3 : Int) = 2) by decide, if_false]
        unfold hashRes at *
        rw [if_neg (by omega)] at h1 h2 ⊢
        split at h1
        · simp at h1
        · rename_i a
          rw [if_neg a] at h2 ⊢
          simp only at h2 ⊢
          have hz := bl_nil_of h2
          rw [bl_cut] at hz
          rw [List.take_of_length_le (List.drop_eq_nil_iff.1 hz), S_bl]
end Go.Proofs.Ytiifdbagmbikpaa
