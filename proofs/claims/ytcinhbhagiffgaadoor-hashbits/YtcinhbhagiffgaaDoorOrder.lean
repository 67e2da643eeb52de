/- The order of sums, byte by byte, and of their texts. Conditions: bytes below 256, as many on either side. -/
import Derived.Test.YtcinhbhagiffgaaDoorWReads
namespace Go.Proofs.YtcinhbhagiffgaaDoor
open Go.RowKit

def ltN : List Nat → List Nat → Bool
  | _, [] => false
  | [], _ :: _ => true
  | a :: x, b :: y => decide (a < b) || (a == b && ltN x y)
theorem ofNat_lt {m n : Nat} (hm : m < 256) (hn : n < 256) : (UInt8.ofNat m < UInt8.ofNat n) ↔ m < n := by
  rw [UInt8.lt_iff_toNat_lt, UInt8.toNat_ofNat', UInt8.toNat_ofNat', Nat.mod_eq_of_lt hm, Nat.mod_eq_of_lt hn]
theorem ofNat_eq {m n : Nat} (hm : m < 256) (hn : n < 256) : (UInt8.ofNat m = UInt8.ofNat n) ↔ m = n := by
  constructor
  · intro h
    have := congrArg UInt8.toNat h
    rwa [UInt8.toNat_ofNat', UInt8.toNat_ofNat', Nat.mod_eq_of_lt hm, Nat.mod_eq_of_lt hn] at this
  · rintro rfl; rfl
theorem Bytes_cons {a : Nat} {x : List Nat} (h : Sha.Bytes (a :: x)) : a < 256 ∧ Sha.Bytes x := ⟨h a (by simp), fun y hy => h y (by simp [hy])⟩
theorem less_bytes : ∀ (x y : List Nat), Sha.Bytes x → Sha.Bytes y → Op.bytesLess (x.map UInt8.ofNat) (y.map UInt8.ofNat) = ltN x y
  | x, [], _, _ => by cases x <;> simp [Op.bytesLess, ltN]
  | [], _ :: _, _, _ => by simp [Op.bytesLess, ltN]
  | a :: x, b :: y, hx, hy => by
    obtain ⟨ha, hx'⟩ := Bytes_cons hx
    obtain ⟨hb, hy'⟩ := Bytes_cons hy
    have ih := less_bytes x y hx' hy'
    simp only [List.map_cons, Op.bytesLess, ltN, ih]
    have e1 : decide (UInt8.ofNat a < UInt8.ofNat b) = decide (a < b) := by simp only [ofNat_lt ha hb]
    have e2 : (UInt8.ofNat a == UInt8.ofNat b) = (a == b) := by rw [Bool.eq_iff_iff, beq_iff_eq, beq_iff_eq, ofNat_eq ha hb]
    rw [e1, e2]
theorem find_less : ∀ (p q : List UInt8), p.length = q.length → (match (List.range p.length).find? (fun i => p[i]! != q[i]!) with | some i => decide (p[i]! < q[i]!) | none => false) = Op.bytesLess p q
  | [], [], _ => by simp [Op.bytesLess]
  | a :: p, b :: q, h => by
    have ih := find_less p q (by simpa using h)
    simp only [List.length_cons, List.range_succ_eq_map, List.find?_cons, List.find?_map]
    by_cases e : a = b
    · subst e
      simp only [List.getElem!_cons_zero, bne_self_eq_false, Op.bytesLess]
      rw [show (((fun i => (a :: p)[i]! != (a :: q)[i]!)) ∘ Nat.succ) = (fun i => p[i]! != q[i]!) from by funext i; simp]
      rw [← ih]
      cases (List.range p.length).find? (fun i => p[i]! != q[i]!) with
      | none => simp
      | some i => simp
    · have h1 : (a != b) = true := by simpa using e
      simp [h1, Op.bytesLess, e]
theorem S_toList (x : List Nat) : (S x).toList = x.map UInt8.ofNat := by rw [ByteArray.toList_eq]; rfl
theorem S_get (x : List Nat) (i : Nat) : (S x)[i]! = (x.map UInt8.ofNat)[i]! := by
  by_cases h : i < x.length
  · rw [getElem!_pos (S x) i (by rw [S_size']; exact h), getElem!_pos (x.map UInt8.ofNat) i (by simpa using h)]
    rfl
  · rw [getElem!_neg (S x) i (by rw [S_size']; exact h), getElem!_neg (x.map UInt8.ofNat) i (by simpa using h)]
theorem cmp_lt (x y : List Nat) (hx : Sha.Bytes x) (hy : Sha.Bytes y) (h : x.length = y.length) : decide (cmpS x y < 0) = ltN x y := by
  rw [← less_bytes x y hx hy, ← find_less _ _ (by simpa using h)]
  unfold cmpS Extern.BytealgCompare.cmp
  rw [S_size', S_size', ← h, Nat.min_self, List.length_map]
  have e : (fun i : Nat => (S x)[i]! != (S y)[i]!) = (fun i : Nat => (x.map UInt8.ofNat)[i]! != (y.map UInt8.ofNat)[i]!) := by funext i; rw [S_get, S_get]
  rw [e]
  cases (List.range x.length).find? (fun i => (x.map UInt8.ofNat)[i]! != (y.map UInt8.ofNat)[i]!) with
  | none => simp
  | some i =>
    simp only [S_get]
    split <;> simp_all
theorem dig_mono {m n : Nat} (hm : m < 16) (hn : n < 16) : (dig m < dig n ↔ m < n) ∧ (dig m = dig n ↔ m = n) := by
  unfold dig
  split <;> split <;> omega
theorem ltN_hexs : ∀ (x y : List Nat), Sha.Bytes x → Sha.Bytes y → x.length = y.length → ltN (hexs x) (hexs y) = ltN x y
  | [], [], _, _, _ => rfl
  | a :: x, b :: y, hx, hy, h => by
    obtain ⟨ha, hx'⟩ := Bytes_cons hx
    obtain ⟨hb, hy'⟩ := Bytes_cons hy
    have ih := ltN_hexs x y hx' hy' (by simpa using h)
    have ex : hexs (a :: x) = dig (a / 16) :: dig (a % 16) :: hexs x := by simp [hexs]
    have ey : hexs (b :: y) = dig (b / 16) :: dig (b % 16) :: hexs y := by simp [hexs]
    rw [ex, ey]
    simp only [ltN, ih]
    have d1 := dig_mono (m := a / 16) (n := b / 16) (by omega) (by omega)
    have d2 := dig_mono (m := a % 16) (n := b % 16) (by omega) (by omega)
    have e1 : decide (dig (a / 16) < dig (b / 16)) = decide (a / 16 < b / 16) := by simp only [d1.1]
    have e2 : decide (dig (a % 16) < dig (b % 16)) = decide (a % 16 < b % 16) := by simp only [d2.1]
    have e3 : (dig (a / 16) == dig (b / 16)) = (a / 16 == b / 16) := by rw [Bool.eq_iff_iff, beq_iff_eq, beq_iff_eq, d1.2]
    have e4 : (dig (a % 16) == dig (b % 16)) = (a % 16 == b % 16) := by rw [Bool.eq_iff_iff, beq_iff_eq, beq_iff_eq, d2.2]
    rw [e1, e2, e3, e4]
    rw [Bool.eq_iff_iff]
    simp only [Bool.or_eq_true, Bool.and_eq_true, decide_eq_true_eq, beq_iff_eq]
    constructor
    · rintro (h | ⟨h1, h2 | ⟨h2, h3⟩⟩)
      · left; omega
      · left; omega
      · right; exact ⟨by omega, h3⟩
    · rintro (h | ⟨h1, h2⟩)
      · by_cases h0 : a / 16 < b / 16
        · left; exact h0
        · right; exact ⟨by omega, .inl (by omega)⟩
      · right; exact ⟨by omega, .inr ⟨by omega, h2⟩⟩
theorem hexs_inj {x y : List Nat} (hx : Sha.Bytes x) (hy : Sha.Bytes y) (lx : x.length = 32) (ly : y.length = 32) (h : hexs x = hexs y) : x = y := by
  rw [← (read_text hx lx).2.1, ← (read_text hy ly).2.1, h]
theorem eq_texts {x y : List Nat} (hx : Sha.Bytes x) (hy : Sha.Bytes y) (lx : x.length = 32) (ly : y.length = 32) : ((S (hexs x)).toList == (S (hexs y)).toList) = (x == y) := by
  rw [Bool.eq_iff_iff, beq_iff_eq, beq_iff_eq]
  constructor
  · intro h
    refine hexs_inj hx hy lx ly ?_
    have : bl (S (hexs x)) = bl (S (hexs y)) := by
      unfold bl
      rw [← ByteArray.toList_eq, ← ByteArray.toList_eq, h]
    rwa [bl_S (hexs_bytes hx), bl_S (hexs_bytes hy)] at this
  · rintro rfl; rfl
theorem ltN_irrefl : ∀ x : List Nat, ltN x x = false
  | [] => rfl
  | a :: x => by simp [ltN, ltN_irrefl x]
theorem ltN_total : ∀ x y : List Nat, x.length = y.length → (ltN x y || ltN y x || x == y) = true
  | [], [], _ => rfl
  | a :: x, b :: y, h => by
    have ih := ltN_total x y (by simpa using h)
    simp only [Bool.or_eq_true, beq_iff_eq] at ih
    simp only [ltN, Bool.or_eq_true, Bool.and_eq_true, decide_eq_true_eq, beq_iff_eq, List.cons.injEq]
    rcases Nat.lt_trichotomy a b with h1 | h1 | h1
    · exact .inl (.inl (.inl h1))
    · rcases ih with (i | i) | i
      · exact .inl (.inl (.inr ⟨h1, i⟩))
      · exact .inl (.inr (.inr ⟨h1.symm, i⟩))
      · exact .inr ⟨h1, i⟩
    · exact .inl (.inr (.inl h1))
theorem ltN_trans : ∀ x y z : List Nat, ltN x y = true → ltN y z = true → ltN x z = true
  | _, _, [], _, h => by simp [ltN] at h
  | _, [], _ :: _, h, _ => by simp [ltN] at h
  | [], _ :: _, _ :: _, _, _ => rfl
  | a :: x, b :: y, c :: z, h1, h2 => by
    simp only [ltN, Bool.or_eq_true, Bool.and_eq_true, decide_eq_true_eq, beq_iff_eq] at h1 h2 ⊢
    rcases h1 with h1 | ⟨h1, i1⟩ <;> rcases h2 with h2 | ⟨h2, i2⟩
    · left; omega
    · left; omega
    · left; omega
    · right; exact ⟨by omega, ltN_trans x y z i1 i2⟩
theorem less_lt (x y : List Nat) (hx : Sha.Bytes x) (hy : Sha.Bytes y) (lx : x.length = 32) (ly : y.length = 32) (w : World) :
    Calls Tryd.prog 19 #[.agg (U8 x).toArray, .agg (U8 y).toArray] w fun e w' => e = .returned (.bool (ltN x y)) ∧ Below w.heap.size w w' :=
  (less_any x y lx ly w).mono fun _ _ ⟨he, hw⟩ => ⟨by rw [he, cmp_lt x y hx hy (by omega)], hw⟩
end Go.Proofs.YtcinhbhagiffgaaDoor
