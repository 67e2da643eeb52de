/- Layer 6: numbers mixed, whose a vertex is, the vertices of a worker; no program. No condition. -/
import Derived.Test.YthenbmalnmaofaaRows
namespace Go.Proofs.Ythenbmalnmaofaa
namespace Part
def m1 (v : Nat) : Nat := v * 2654435761 % 4294967296
def m2 (a : Nat) : Nat := a ^^^ a / 32768
def m3 (b : Nat) : Nat := b * 2246822519 % 4294967296
def m4 (c : Nat) : Nat := c ^^^ c / 8192
/-- A number, mixed. -/
def mix (v : Nat) : Nat := m4 (m3 (m2 (m1 v)))
theorem xor_lt {a b : Nat} (ha : a < 4294967296) (hb : b < 4294967296) : a ^^^ b < 4294967296 := Nat.xor_lt_two_pow (n := 32) ha hb
theorem m1_lt (v : Nat) : m1 v < 4294967296 := Nat.mod_lt _ (by decide)
theorem m3_lt (v : Nat) : m3 v < 4294967296 := Nat.mod_lt _ (by decide)
theorem m2_lt {a : Nat} (h : a < 4294967296) : m2 a < 4294967296 := xor_lt h (Nat.lt_of_le_of_lt (Nat.div_le_self _ _) h)
theorem m4_lt {a : Nat} (h : a < 4294967296) : m4 a < 4294967296 := xor_lt h (Nat.lt_of_le_of_lt (Nat.div_le_self _ _) h)
theorem mix_lt (v : Nat) : mix v < 4294967296 := m4_lt (m3_lt _)
theorem mul_inj {c d a b : Nat} (hcd : c * d % 4294967296 = 1) (ha : a < 4294967296) (hb : b < 4294967296) (h : a * c % 4294967296 = b * c % 4294967296) : a = b := by
  have go : ∀ x : Nat, x < 4294967296 → (x * c % 4294967296) * d % 4294967296 = x := fun x hx => by
    rw [Nat.mod_mul_mod, Nat.mul_assoc, Nat.mul_mod, hcd, Nat.mul_one, Nat.mod_mod, Nat.mod_eq_of_lt hx]
  rw [← go a ha, ← go b hb, h]
theorem xor_zero {a b : Nat} (h : a ^^^ b = 0) : a = b := by
  have h1 : (a ^^^ b) ^^^ b = b := by rw [h, Nat.zero_xor]
  rwa [Nat.xor_assoc, Nat.xor_self, Nat.xor_zero] at h1
theorem shift_inj {s a b : Nat} (hs : 0 < s) (h : a ^^^ a / 2 ^ s = b ^^^ b / 2 ^ s) : a = b := by
  have h1 : (a ^^^ b) ^^^ (a ^^^ b) / 2 ^ s = 0 := by
    rw [← Nat.shiftRight_eq_div_pow, Nat.shiftRight_xor_distrib, Nat.shiftRight_eq_div_pow, Nat.shiftRight_eq_div_pow]
    have h2 : (a ^^^ a / 2 ^ s) ^^^ (b ^^^ b / 2 ^ s) = 0 := by rw [h]; exact Nat.xor_self _
    rw [← h2]
    ac_rfl
  have h3 : (a ^^^ b) = (a ^^^ b) / 2 ^ s := xor_zero h1
  have h4 : a ^^^ b = 0 := by
    rcases Nat.eq_zero_or_pos (a ^^^ b) with h0 | h0
    · exact h0
    · have := Nat.div_lt_self h0 (Nat.one_lt_two_pow (show s ≠ 0 by omega))
      omega
  exact xor_zero h4
/-- Each mixed number comes of one number alone. -/
theorem mix_inj {a b : Nat} (ha : a < 4294967296) (hb : b < 4294967296) (h : mix a = mix b) : a = b := by
  have h3 : m3 (m2 (m1 a)) = m3 (m2 (m1 b)) := shift_inj (s := 13) (by decide) h
  have h2 : m2 (m1 a) = m2 (m1 b) := mul_inj (d := 3066638151) (by decide) (m2_lt (m1_lt _)) (m2_lt (m1_lt _)) h3
  have h1 : m1 a = m1 b := shift_inj (s := 15) (by decide) h2
  exact mul_inj (d := 244002641) (by decide) ha hb h1
/-- Whose a vertex is. -/
def own (v k : Int) : Int := if v < 0 ∨ k < 1 ∨ k > 64 then -1 else ((mix (v.toNat % 4294967296) % k.toNat : Nat) : Int)
theorem own_none {v k : Int} (h : v < 0 ∨ k < 1 ∨ k > 64) : own v k = -1 := if_pos h
theorem own_some {v k : Int} (hv : ¬v < 0) (hk : ¬k < 1) (hk' : ¬k > 64) : own v k = ((mix (v.toNat % 4294967296) % k.toNat : Nat) : Int) := if_neg (by omega)
theorem own_range {v k : Int} (hv : 0 ≤ v) (hk : 1 ≤ k) (hk' : k ≤ 64) : 0 ≤ own v k ∧ own v k < k := by
  rw [own_some (by omega) (by omega) (by omega)]
  have := Nat.mod_lt (mix (v.toNat % 4294967296)) (show k.toNat > 0 by omega)
  omega
theorem own_one {v : Int} (hv : 0 ≤ v) : own v 1 = 0 := by have := own_range (k := 1) hv (by omega) (by omega); omega
/-- The vertices of a worker. -/
def ofL (n : Nat) (k w : Int) : List Nat := (List.range n).filter fun v : Nat => own (v : Int) k == w
theorem mem_ofL {n : Nat} {k w : Int} {v : Nat} : v ∈ ofL n k w ↔ v < n ∧ own (v : Int) k = w := by
  unfold ofL
  rw [List.mem_filter, List.mem_range, beq_iff_eq]
theorem ofL_rises (n : Nat) (k w : Int) : (ofL n k w).Pairwise (· < ·) := List.Pairwise.filter _ List.pairwise_lt_range
theorem ofL_len (n : Nat) (k w : Int) : (ofL n k w).length ≤ n := by
  have := List.length_filter_le (fun v : Nat => own (v : Int) k == w) (List.range n)
  rwa [List.length_range] at this
theorem ofL_zero (k w : Int) : ofL 0 k w = [] := rfl
theorem ofL_succ (n : Nat) (k w : Int) : ofL (n + 1) k w = ofL n k w ++ (if own (n : Int) k = w then [n] else []) := by
  unfold ofL
  rw [List.range_succ, List.filter_append]
  by_cases h : own (n : Int) k = w
  · simp [h]
  · simp [h]
theorem ofL_more {n m : Nat} (h : n ≤ m) (k w : Int) : ∃ r, ofL m k w = ofL n k w ++ r := by
  induction m with
  | zero => exact ⟨[], by rw [show n = 0 by omega, List.append_nil]⟩
  | succ m ih =>
    by_cases hn : n = m + 1
    · exact ⟨[], by rw [hn, List.append_nil]⟩
    · obtain ⟨r, hr⟩ := ih (by omega)
      exact ⟨r ++ (if own (m : Int) k = w then [m] else []), by rw [ofL_succ, hr, List.append_assoc]⟩
/-- The place of a vertex among its worker's. -/
theorem ofL_at {n v : Nat} {k w : Int} (hv : v < n) (hw : own (v : Int) k = w) : (ofL n k w)[(ofL v k w).length]? = some v := by
  obtain ⟨r, hr⟩ := ofL_more (show v + 1 ≤ n by omega) k w
  rw [hr, ofL_succ, if_pos hw, List.append_assoc, List.getElem?_append_right (Nat.le_refl _), Nat.sub_self]
  rfl
theorem rises_inj {l : List Nat} (h : l.Pairwise (· < ·)) {i j v : Nat} (hi : l[i]? = some v) (hj : l[j]? = some v) : i = j := by
  obtain ⟨h1, h2⟩ := List.getElem?_eq_some_iff.1 hi
  obtain ⟨h3, h4⟩ := List.getElem?_eq_some_iff.1 hj
  have go := List.pairwise_iff_getElem.1 h
  rcases Nat.lt_trichotomy i j with hlt | rfl | hlt
  · have := go i j h1 h3 hlt; omega
  · rfl
  · have := go j i h3 h1 hlt; omega
theorem ofL_place {n i v : Nat} {k w : Int} (h : (ofL n k w)[i]? = some v) : (ofL v k w).length = i := by
  have hm := mem_ofL.1 (List.mem_of_getElem? h)
  exact rises_inj (ofL_rises n k w) (ofL_at hm.1 hm.2) h
theorem ofL_one (n : Nat) : ofL n 1 0 = List.range n := by
  unfold ofL
  rw [List.filter_eq_self]
  intro v _
  rw [beq_iff_eq]
  exact own_one (by omega)
/-- May there be so many? -/
def right (n k : Int) : Bool := decide (1 ≤ n) && decide (n ≤ 64) && decide (1 ≤ k) && decide (k ≤ 64)
theorem right_iff {n k : Int} : right n k = true ↔ 1 ≤ n ∧ n ≤ 64 ∧ 1 ≤ k ∧ k ≤ 64 := by
  unfold right
  simp only [Bool.and_eq_true, decide_eq_true_eq, and_assoc]
end Part
def ivs (l : List Nat) : List Value := l.map fun v : Nat => Value.int .i64 (v : Int)
theorem ivs_len (l : List Nat) : (ivs l).length = l.length := by simp [ivs]
theorem ivs_get {l : List Nat} {i v : Nat} (h : l[i]? = some v) : (ivs l)[i]? = some (.int .i64 (v : Int)) := by simp [ivs, h]
theorem ivs_one (l : List Nat) (v : Nat) : ivs (l ++ [v]) = ivs l ++ [.int .i64 (v : Int)] := by simp [ivs]
end Go.Proofs.Ythenbmalnmaofaa
