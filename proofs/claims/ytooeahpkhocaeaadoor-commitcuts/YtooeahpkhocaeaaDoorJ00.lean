/- Plain mathematics: numbers as bytes, and read again, as the document's chapter 2 says it. No condition. -/
import Derived.WalkKit
import Derived.WalkSpells
import Derived.WalkLawsBesides
import Derived.Lib.Hide
import Derived.Deep.Draws
import Derived.Deep.MidRow
import Derived.Deep.WholeRow
namespace Wire

def num (n : Nat) : List Nat := if n < 128 then [n] else (n % 128 + 128) :: num (n / 128)
termination_by n
decreasing_by omega
theorem num_lt {n : Nat} (h : n < 128) : num n = [n] := by rw [num, if_pos h]
theorem num_ge {n : Nat} (h : ¬ n < 128) : num n = (n % 128 + 128) :: num (n / 128) := by rw [num, if_neg h]
theorem num_bytes (n : Nat) : ∀ x ∈ num n, x < 256 := by
  induction n using Nat.strongRecOn with
  | _ n ih =>
    intro x hx
    by_cases h : n < 128
    · rw [num_lt h] at hx
      rw [List.mem_singleton.1 hx]; omega
    · rw [num_ge h] at hx
      rcases List.mem_cons.1 hx with rfl | hx
      · omega
      · exact ih (n / 128) (by omega) x hx
theorem num_pos (n : Nat) : 0 < (num n).length := by
  by_cases h : n < 128
  · rw [num_lt h]; simp
  · rw [num_ge h]; simp
theorem num_le : ∀ (k n : Nat), n < 128 ^ (k + 1) → (num n).length ≤ k + 1
  | 0, n, h => by rw [num_lt (by simpa using h)]; simp
  | k + 1, n, h => by
    by_cases h1 : n < 128
    · rw [num_lt h1]; simp
    · rw [num_ge h1]
      have := num_le k (n / 128) (by rw [Nat.pow_succ] at h; exact Nat.div_lt_of_lt_mul (by rw [Nat.mul_comm]; exact h))
      simp; omega
theorem num_len10 (n : Nat) (h : n < 18446744073709551616) : (num n).length ≤ 10 := num_le 9 n (by omega)
theorem num_one (n : Nat) : (num n).length = 1 ↔ n < 128 := by
  by_cases h : n < 128
  · rw [num_lt h]; simp [h]
  · rw [num_ge h]
    have := num_pos (n / 128)
    simp [h]
    intro e
    rw [e] at this
    simp at this
/-- What is read from place k on, v having come of the k bytes ahead: the number, how many bytes it has, the error. -/
def rdFrom : Nat → Nat → List Nat → Nat × Nat × Nat
  | _, _, [] => (0, 0, 20)
  | k, v, c :: r => if (0 < k ∧ c = 0) ∨ (k = 9 ∧ 1 < c) then (0, 0, 21) else if c < 128 then (v + c % 128 * 128 ^ k, k + 1, 0) else rdFrom (k + 1) (v + c % 128 * 128 ^ k) r
def rd (l : List Nat) : Nat × Nat × Nat := rdFrom 0 0 l
theorem rdFrom_form {k v c : Nat} {r : List Nat} (h : (0 < k ∧ c = 0) ∨ (k = 9 ∧ 1 < c)) : rdFrom k v (c :: r) = (0, 0, 21) := by rw [rdFrom, if_pos h]
theorem rdFrom_last {k v c : Nat} {r : List Nat} (h : ¬ ((0 < k ∧ c = 0) ∨ (k = 9 ∧ 1 < c))) (hc : c < 128) : rdFrom k v (c :: r) = (v + c % 128 * 128 ^ k, k + 1, 0) := by rw [rdFrom, if_neg h, if_pos hc]
theorem rdFrom_more {k v c : Nat} {r : List Nat} (h : ¬ ((0 < k ∧ c = 0) ∨ (k = 9 ∧ 1 < c))) (hc : ¬ c < 128) : rdFrom k v (c :: r) = rdFrom (k + 1) (v + c % 128 * 128 ^ k) r := by rw [rdFrom, if_neg h, if_neg hc]

/-- What was written is read again. -/
theorem rdFrom_num : ∀ (d k v n : Nat) (r : List Nat), k + d = 9 → (0 < k → 0 < n) → n < 2 * 128 ^ d → rdFrom k v (num n ++ r) = (v + n * 128 ^ k, k + (num n).length, 0)
  | 0, k, v, n, r, hk, hp, hn => by
    have hn2 : n < 2 := by simpa using hn
    rw [num_lt (by omega), List.singleton_append, rdFrom_last (by omega) (by omega)]
    simp [Nat.mod_eq_of_lt (show n < 128 by omega)]
  | d + 1, k, v, n, r, hk, hp, hn => by
    by_cases h : n < 128
    · rw [num_lt h, List.singleton_append, rdFrom_last (by omega) h]
      simp [Nat.mod_eq_of_lt h]
    · rw [num_ge h, List.cons_append, rdFrom_more (by omega) (by omega), rdFrom_num d (k + 1) _ (n / 128) r (by omega) (by omega) (by
        rw [Nat.pow_succ] at hn
        exact Nat.div_lt_of_lt_mul (by omega))]
      refine Prod.ext ?_ (Prod.ext ?_ rfl)
      · show v + (n % 128 + 128) % 128 * 128 ^ k + n / 128 * 128 ^ (k + 1) = v + n * 128 ^ k
        have e : n = n % 128 + n / 128 * 128 := by omega
        rw [show (n % 128 + 128) % 128 = n % 128 by omega, Nat.pow_succ]
        conv => rhs; rw [e]
        rw [Nat.add_mul, Nat.mul_assoc, Nat.mul_comm 128 (128 ^ k)]
        omega
      · simp; omega
theorem rd_num (n : Nat) (r : List Nat) (h : n < 18446744073709551616) : rd (num n ++ r) = (n, (num n).length, 0) := by
  have := rdFrom_num 9 0 0 n r rfl (by omega) (by simpa using h)
  simpa [rd] using this
/-- What is read was written so. -/
theorem rdFrom_back : ∀ (l : List Nat) (k v x m : Nat), (∀ c ∈ l, c < 256) → k ≤ 9 → rdFrom k v l = (x, m, 0) → ∃ n j, x = v + n * 128 ^ k ∧ m = k + j ∧ j ≤ l.length ∧ l.take j = num n ∧ (0 < k → 0 < n) ∧ 0 < j ∧ n < 2 * 128 ^ (9 - k)
  | [], k, v, x, m, _, _, h => by simp [rdFrom] at h
  | c :: r, k, v, x, m, hb, hk, h => by
    by_cases hf : (0 < k ∧ c = 0) ∨ (k = 9 ∧ 1 < c)
    · rw [rdFrom_form hf] at h; simp at h
    · by_cases hc : c < 128
      · rw [rdFrom_last hf hc] at h
        simp only [Prod.mk.injEq] at h
        refine ⟨c, 1, by rw [← h.1, Nat.mod_eq_of_lt hc], h.2.1.symm, by simp, by rw [num_lt hc]; simp, by omega, by omega, ?_⟩
        by_cases h9 : k = 9
        · subst h9; simp; omega
        · have : 128 ^ 1 ≤ 128 ^ (9 - k) := Nat.pow_le_pow_right (by omega) (by omega)
          omega
      · rw [rdFrom_more hf hc] at h
        have hcb := hb c (List.mem_cons_self ..)
        have hk9 : k ≠ 9 := by omega
        obtain ⟨n, j, e1, e2, e3, e4, e5, e6, e7⟩ := rdFrom_back r (k + 1) _ x m (fun c hc => hb c (List.mem_cons_of_mem _ hc)) (by omega) h
        have hn : 0 < n := e5 (by omega)
        refine ⟨c % 128 + n * 128, j + 1, ?_, by omega, by simp; exact e3, ?_, by omega, by omega, ?_⟩
        · rw [e1, Nat.pow_succ, Nat.add_mul, Nat.mul_assoc, Nat.mul_comm 128 (128 ^ k)]; omega
        · rw [List.take_succ_cons, e4, num_ge (show ¬ c % 128 + n * 128 < 128 by omega), show (c % 128 + n * 128) % 128 + 128 = c by omega, show (c % 128 + n * 128) / 128 = n by omega]
        · have : 9 - k = 9 - (k + 1) + 1 := by omega
          rw [this, Nat.pow_succ]
          generalize 128 ^ (9 - (k + 1)) = q at *
          omega
theorem rd_back (l : List Nat) (x m : Nat) (hb : ∀ c ∈ l, c < 256) (h : rd l = (x, m, 0)) : m ≤ l.length ∧ 0 < m ∧ l.take m = num x ∧ x < 18446744073709551616 := by
  obtain ⟨n, j, e1, e2, e3, e4, _, e6, e7⟩ := rdFrom_back l 0 0 x m hb (by omega) h
  simp at e1 e2
  subst e1 e2
  exact ⟨e3, e6, e4, by simpa using e7⟩
/-- The errors. -/
theorem rdFrom_err : ∀ (l : List Nat) (k v : Nat), (rdFrom k v l).2.2 = 0 ∨ ((rdFrom k v l) = (0, 0, 20)) ∨ rdFrom k v l = (0, 0, 21)
  | [], k, v => by simp [rdFrom]
  | c :: r, k, v => by
    rw [rdFrom]
    split
    · simp
    · split
      · simp
      · exact rdFrom_err r _ _
theorem rd_err (l : List Nat) : (rd l).2.2 = 0 ∨ rd l = (0, 0, 20) ∨ rd l = (0, 0, 21) := rdFrom_err l 0 0
/-- One that may be below 0. -/
def fold (n : Int) : Nat := if 0 ≤ n then 2 * n.toNat else 2 * (-1 - n).toNat + 1
def unfold_ (n : Nat) : Int := if n % 2 = 0 then (n / 2 : Nat) else -1 - (n / 2 : Nat)
theorem fold_lt (n : Int) (h1 : -9223372036854775808 ≤ n) (h2 : n ≤ 9223372036854775807) : fold n < 18446744073709551616 := by
  unfold fold
  split <;> omega
end Wire
/- Plain mathematics: commitments as bytes, and read again. No condition. -/
namespace Go.Proofs.YtooeahpkhocaeaaDoor
open Wire
set_option maxRecDepth 100000

/-- A commitment: whose, of which step, two kinds of sums as lists of bytes. -/
structure Cm where
  w : Int
  st : Int
  root : List Nat
  bs : List (List Nat)
  deriving DecidableEq
/-- A sum is of 32 bytes. -/
def sumOk (h : List Nat) : Prop := h.length = 32 ∧ ∀ c ∈ h, c < 256
structure Cm.Ok (c : Cm) : Prop where
  root : sumOk c.root
  bs : ∀ h ∈ c.bs, sumOk h
def zero32 : List Nat := List.replicate 32 0
def noCm : Cm := ⟨0, 0, zero32, []⟩
def rightC (c : Cm) : Bool := decide (0 ≤ c.w) && decide (c.w < 64) && decide (0 ≤ c.st) && decide (c.st < 64) && decide (1 ≤ c.bs.length) && decide (c.bs.length ≤ 64)
def bytesC (c : Cm) : List Nat := 67 :: (num c.w.toNat ++ (num c.st.toNat ++ (c.root ++ (num c.bs.length ++ c.bs.flatten))))
/-- So many sums, one behind the other: they, what is left, what is wrong. -/
def rdHs : Nat → List Nat → List (List Nat) × List Nat × Nat
  | 0, l => ([], l, 0)
  | k + 1, l => if l.length < 32 then ([], [], 20) else (l.take 32 :: (rdHs k (l.drop 32)).1, (rdHs k (l.drop 32)).2)
/-- What stands behind the numbers and the root. -/
def getC4 (a b : Nat) (root : List Nat) (n : Nat) (l : List Nat) : Cm × Nat :=
  if 63 < a ∨ 63 < b ∨ n < 1 ∨ 64 < n then (noCm, 120)
  else if (rdHs n l).2.2 ≠ 0 then (noCm, (rdHs n l).2.2)
  else if (rdHs n l).2.1 ≠ [] then (noCm, 22)
  else (⟨a, b, root, (rdHs n l).1⟩, 0)
def getC3 (a b : Nat) (root l : List Nat) : Cm × Nat := if (rd l).2.2 ≠ 0 then (noCm, (rd l).2.2) else getC4 a b root (rd l).1 (l.drop (rd l).2.1)
def getC2 (a b : Nat) (l : List Nat) : Cm × Nat := if l.length < 32 then (noCm, 20) else getC3 a b (l.take 32) (l.drop 32)
def getC1 (a : Nat) (l : List Nat) : Cm × Nat := if (rd l).2.2 ≠ 0 then (noCm, (rd l).2.2) else getC2 a (rd l).1 (l.drop (rd l).2.1)
def getC0 (l : List Nat) : Cm × Nat := if (rd l).2.2 ≠ 0 then (noCm, (rd l).2.2) else getC1 (rd l).1 (l.drop (rd l).2.1)
/-- What bytes are: a commitment, and what is wrong. -/
def getC : List Nat → Cm × Nat
  | [] => (noCm, 120)
  | c :: l => if c = 67 then getC0 l else (noCm, 120)
theorem getC_67 (l : List Nat) : getC (67 :: l) = getC0 l := by simp [getC]
theorem rightC_iff (c : Cm) : rightC c = true ↔ 0 ≤ c.w ∧ c.w < 64 ∧ 0 ≤ c.st ∧ c.st < 64 ∧ 1 ≤ c.bs.length ∧ c.bs.length ≤ 64 := by
  simp [rightC, and_assoc]
theorem rdHs_flat : ∀ (bs : List (List Nat)) (r : List Nat), (∀ h ∈ bs, h.length = 32) → rdHs bs.length (bs.flatten ++ r) = (bs, r, 0)
  | [], r, _ => by simp [rdHs]
  | h :: bs, r, hb => by
    have h1 := hb h (by simp)
    have ih := rdHs_flat bs r (fun x hx => hb x (by simp [hx]))
    simp only [List.length_cons, List.flatten_cons, List.append_assoc, rdHs]
    rw [if_neg (by rw [List.length_append]; omega), List.take_left' h1, List.drop_left' h1, ih]
theorem rdHs_back : ∀ (k : Nat) (l : List Nat), (rdHs k l).2.2 = 0 → (rdHs k l).1.length = k ∧ l = (rdHs k l).1.flatten ++ (rdHs k l).2.1 ∧ ∀ h ∈ (rdHs k l).1, h.length = 32
  | 0, l, _ => by simp [rdHs]
  | k + 1, l, h => by
    by_cases h0 : l.length < 32
    · simp [rdHs, h0] at h
    · simp only [rdHs, h0, if_false] at h ⊢
      obtain ⟨i1, i2, i3⟩ := rdHs_back k (l.drop 32) h
      refine ⟨by simp [i1], ?_, fun x hx => ?_⟩
      · rw [List.flatten_cons, List.append_assoc, ← i2, List.take_append_drop]
      · rcases List.mem_cons.1 hx with rfl | hx
        · rw [List.length_take]; omega
        · exact i3 x hx
theorem num_drop (n : Nat) (r : List Nat) (h : n < 18446744073709551616) : (rd (num n ++ r)).1 = n ∧ (rd (num n ++ r)).2.2 = 0 ∧ (num n ++ r).drop (rd (num n ++ r)).2.1 = r := by
  rw [rd_num n r h]; exact ⟨rfl, rfl, by simp⟩
/-- Bytes of a commitment, and more behind them. -/
theorem getC_more {c : Cm} (hr : rightC c = true) (ho : c.Ok) (r : List Nat) : getC (bytesC c ++ r) = if r = [] then (c, 0) else (noCm, 22) := by
  obtain ⟨h1, h2, h3, h4, h5, h6⟩ := (rightC_iff c).1 hr
  have hroot := ho.root.1
  obtain ⟨a1, a2, a3⟩ := num_drop c.w.toNat (num c.st.toNat ++ (c.root ++ (num c.bs.length ++ (c.bs.flatten ++ r)))) (by omega)
  obtain ⟨b1, b2, b3⟩ := num_drop c.st.toNat (c.root ++ (num c.bs.length ++ (c.bs.flatten ++ r))) (by omega)
  obtain ⟨d1, d2, d3⟩ := num_drop c.bs.length (c.bs.flatten ++ r) (by omega)
  have hf := rdHs_flat c.bs r (fun h hh => (ho.bs h hh).1)
  have e : bytesC c ++ r = 67 :: (num c.w.toNat ++ (num c.st.toNat ++ (c.root ++ (num c.bs.length ++ (c.bs.flatten ++ r))))) := by simp [bytesC]
  rw [e, getC_67]
  unfold getC0
  rw [if_neg (by rw [a2]; simp), a1, a3]
  unfold getC1
  rw [if_neg (by rw [b2]; simp), b1, b3]
  unfold getC2
  rw [if_neg (by rw [List.length_append]; omega), List.take_left' hroot, List.drop_left' hroot]
  unfold getC3
  rw [if_neg (by rw [d2]; simp), d1, d3]
  unfold getC4
  rw [if_neg (by omega), hf]
  simp only [ne_eq, not_true_eq_false, if_false]
  by_cases hn : r = []
  · rw [if_neg (by simp [hn]), if_pos hn]
    obtain ⟨w, st, root, bs⟩ := c
    simp only [Prod.mk.injEq, and_true, Cm.mk.injEq]
    exact ⟨Int.toNat_of_nonneg h1, Int.toNat_of_nonneg h3⟩
  · rw [if_pos hn, if_neg hn]
theorem getC_bytes {c : Cm} (hr : rightC c = true) (ho : c.Ok) : getC (bytesC c) = (c, 0) := by
  have h := getC_more hr ho []
  rwa [List.append_nil, if_pos rfl] at h
/-- What is got may be, is of sums, and has just these bytes. -/
theorem getC_back {l : List Nat} (hb : ∀ c ∈ l, c < 256) (h : (getC l).2 = 0) : rightC (getC l).1 = true ∧ (getC l).1.Ok ∧ bytesC (getC l).1 = l := by
  match l, hb, h with
  | [], _, h => simp [getC] at h
  | x :: l, hb, h =>
    by_cases hx : x = 67
    · subst hx
      have hb1 : ∀ c ∈ l, c < 256 := fun c hc => hb c (List.mem_cons_of_mem _ hc)
      rw [getC_67] at h ⊢
      unfold getC0 at h ⊢
      by_cases e1 : (rd l).2.2 = 0
      · rw [if_neg (by simp [e1])] at h ⊢
        obtain ⟨_, _, k1, _⟩ := rd_back l (rd l).1 (rd l).2.1 hb1 (by rw [← e1])
        have hl1 : l = num (rd l).1 ++ l.drop (rd l).2.1 := by rw [← k1, List.take_append_drop]
        generalize (rd l).1 = a at *
        generalize l.drop (rd l).2.1 = l1 at *
        subst hl1
        have hb2 : ∀ c ∈ l1, c < 256 := fun c hc => hb1 c (List.mem_append_right _ hc)
        unfold getC1 at h ⊢
        by_cases e2 : (rd l1).2.2 = 0
        · rw [if_neg (by simp [e2])] at h ⊢
          obtain ⟨_, _, k2, _⟩ := rd_back l1 (rd l1).1 (rd l1).2.1 hb2 (by rw [← e2])
          have hl2 : l1 = num (rd l1).1 ++ l1.drop (rd l1).2.1 := by rw [← k2, List.take_append_drop]
          generalize (rd l1).1 = b at *
          generalize l1.drop (rd l1).2.1 = l2 at *
          subst hl2
          have hb3 : ∀ c ∈ l2, c < 256 := fun c hc => hb2 c (List.mem_append_right _ hc)
          unfold getC2 at h ⊢
          by_cases e3 : l2.length < 32
          · rw [if_pos e3] at h; simp at h
          · rw [if_neg e3] at h ⊢
            have hl3 : l2 = l2.take 32 ++ l2.drop 32 := (List.take_append_drop _ _).symm
            have hrl : (l2.take 32).length = 32 := by rw [List.length_take]; omega
            have hrb : ∀ c ∈ l2.take 32, c < 256 := fun c hc => hb3 c (List.mem_of_mem_take hc)
            have hb4 : ∀ c ∈ l2.drop 32, c < 256 := fun c hc => hb3 c (List.mem_of_mem_drop hc)
            generalize l2.take 32 = rt at *
            generalize l2.drop 32 = l3 at *
            subst hl3
            unfold getC3 at h ⊢
            by_cases e4 : (rd l3).2.2 = 0
            · rw [if_neg (by simp [e4])] at h ⊢
              obtain ⟨_, _, k4, _⟩ := rd_back l3 (rd l3).1 (rd l3).2.1 hb4 (by rw [← e4])
              have hl4 : l3 = num (rd l3).1 ++ l3.drop (rd l3).2.1 := by rw [← k4, List.take_append_drop]
              generalize (rd l3).1 = n at *
              generalize l3.drop (rd l3).2.1 = l4 at *
              subst hl4
              have hb5 : ∀ c ∈ l4, c < 256 := fun c hc => hb4 c (List.mem_append_right _ hc)
              unfold getC4 at h ⊢
              by_cases e5 : 63 < a ∨ 63 < b ∨ n < 1 ∨ 64 < n
              · rw [if_pos e5] at h; simp at h
              · rw [if_neg e5] at h ⊢
                by_cases e6 : (rdHs n l4).2.2 = 0
                · rw [if_neg (by simp [e6])] at h ⊢
                  by_cases e7 : (rdHs n l4).2.1 = []
                  · rw [if_neg (by simp [e7])]
                    obtain ⟨i1, i2, i3⟩ := rdHs_back n l4 e6
                    rw [e7, List.append_nil] at i2
                    refine ⟨(rightC_iff _).2 ⟨by simp, by simp; omega, by simp, by simp; omega, by simp only [i1]; omega, by simp only [i1]; omega⟩, ⟨⟨hrl, hrb⟩, fun x hx => ⟨i3 x hx, fun c hc => hb5 c (by rw [i2]; exact List.mem_flatten.2 ⟨x, hx, hc⟩)⟩⟩, ?_⟩
                    simp only [bytesC, Int.toNat_natCast, i1]
                    rw [← i2]
                  · rw [if_pos e7] at h; simp at h
                · rw [if_pos e6] at h; exact absurd h e6
            · rw [if_pos e4] at h; exact absurd h e4
        · rw [if_pos e2] at h; exact absurd h e2
      · rw [if_pos e1] at h; exact absurd h e1
    · simp [getC, hx] at h
theorem bytesC_inj {c d : Cm} (h1 : rightC c = true) (o1 : c.Ok) (h2 : rightC d = true) (o2 : d.Ok) (h : bytesC c = bytesC d) : c = d := by
  have a := getC_bytes h1 o1; have b := getC_bytes h2 o2
  rw [h, b] at a
  exact (congrArg Prod.fst a).symm
theorem bytesC_lt {c : Cm} (ho : c.Ok) : ∀ x ∈ bytesC c, x < 256 := fun x hx => by
  simp only [bytesC, List.mem_cons, List.mem_append, List.mem_flatten] at hx
  rcases hx with rfl | hx | hx | hx | hx | ⟨h, hh, hx⟩
  · omega
  · exact num_bytes _ x hx
  · exact num_bytes _ x hx
  · exact ho.root.2 x hx
  · exact num_bytes _ x hx
  · exact (ho.bs h hh).2 x hx
/-- Cut anywhere, there is no commitment. -/
theorem getC_cut {c : Cm} (hr : rightC c = true) (ho : c.Ok) {k : Nat} (hk : k < (bytesC c).length) : (getC ((bytesC c).take k)).2 ≠ 0 := fun h => by
  obtain ⟨b1, b2, b3⟩ := getC_back (fun x hx => bytesC_lt ho x (List.mem_of_mem_take hx)) h
  have hs : bytesC c = bytesC (getC ((bytesC c).take k)).1 ++ (bytesC c).drop k := by rw [b3, List.take_append_drop]
  have hm := getC_more b1 b2 ((bytesC c).drop k)
  have hne : (bytesC c).drop k ≠ [] := fun e => by have := congrArg List.length e; rw [List.length_drop] at this; simp at this; omega
  rw [← hs, getC_bytes hr ho, if_neg hne] at hm
  simp at hm
end Go.Proofs.YtooeahpkhocaeaaDoor
/- Words for memory: a block that is known whole. No condition. -/
namespace Go.Proofs.YtooeahpkhocaeaaDoor
open Go.RowKit

/-- Block g is the row cs of element type t, and nothing of it is frozen. -/
def Has (w : World) (g : Nat) (t : TypeId) (cs : List Value) : Prop := w.heap[g]? = some (.cells cs.toArray t (0, 0))
section
variable {w w' : World} {g : Nat} {t : TypeId} {cs : List Value}
theorem Has.lt (h : Has w g t cs) : g < w.heap.size := (Array.getElem?_eq_some_iff.1 h).1
theorem Has.cell (h : Has w g t cs) (i : Nat) : w.cell? ⟨g, i, none⟩ = cs[i]? := by
  rw [cell_of_row w g i cs.toArray t (0, 0) h]; simp
theorem Has.open_ (h : Has w g t cs) (i : Nat) : w.frozen? ⟨g, i, none⟩ = false := by
  unfold Has at h
  simp only [World.frozen?, h]
  simp
theorem Has.drew (h : Has w g t cs) : Has w.drew g t cs := h
theorem Has.drewN (h : Has w g t cs) (n : Nat) : Has (w.drewN n) g t cs := h
theorem Has.alloc (h : Has w g t cs) (o : Obj) : Has (w.alloc o) g t cs := (Below.heap_alloc w o g h.lt).trans h
theorem Has.new (w : World) (t : TypeId) (cs : List Value) : Has (w.alloc (.cells cs.toArray t)) w.heap.size t cs := by
  show (w.heap.push _)[w.heap.size]? = _
  simp
theorem Has.new' (w : World) (t : TypeId) (cs : List Value) (o : Array Value) (g : Nat) (ho : o = cs.toArray) (hg : g = w.heap.size) : Has (w.alloc (.cells o t)) g t cs := by
  subst ho hg; exact Has.new w t cs
theorem Has.set_ (h : Has w g t cs) (i : Nat) (u : Value) : Has (w.setCell ⟨g, i, none⟩ u) g t (cs.set i u) := by
  unfold Has at h ⊢
  simp [World.setCell, Array.getElem?_modify, h]
theorem Has.far (h : Has w g t cs) {p : Addr} (hp : g ≠ p.block) (u : Value) : Has (w.setCell p u) g t cs := (Below.heap_setCell w p u g hp).trans h
theorem Has.below {B : Nat} (h : Has w g t cs) (hb : Below B w w') (hg : g < B) : Has w' g t cs := (hb.block g hg).trans h
theorem Has.range (h : Has w g t cs) (o n : Nat) : w.rangeAt g o ((cs.drop o).take n) := fun j v hv => by
  rw [h.cell]
  rw [List.getElem?_take] at hv
  split at hv
  · rw [List.getElem?_drop] at hv; exact hv
  · cases hv
theorem Has.there_ (h : Has w g t cs) (o n : Nat) (hn : o + n ≤ cs.length) : w.there g o n := fun j hj =>
  ⟨by rw [h.cell, List.getElem?_eq_getElem (by omega)]; rfl, h.open_ _⟩
end
theorem setCells_heap_other (b : Nat) : ∀ (vs : List Value) (o : Nat) (w : World) (g : Nat), g ≠ b → (w.setCells b o vs).heap[g]? = w.heap[g]?
  | [], _, _, _, _ => rfl
  | v :: r, o, w, g, h => by
    rw [World.setCells, setCells_heap_other b r (o + 1) _ g h]
    exact Below.heap_setCell w ⟨b, o, none⟩ v g h
theorem setCells_size (b : Nat) : ∀ (vs : List Value) (o : Nat) (w : World), (w.setCells b o vs).heap.size = w.heap.size
  | [], _, _ => rfl
  | v :: r, o, w => by
    rw [World.setCells, setCells_size b r (o + 1) _]
    simp [World.setCell]
/-- The row with vs laid over it from place o on. -/
def over : List Value → Nat → List Value → List Value
  | cs, _, [] => cs
  | cs, o, v :: r => over (cs.set o v) (o + 1) r
theorem Has.setCells {g : Nat} {t : TypeId} : ∀ (vs : List Value) (o : Nat) (w : World) (cs : List Value), Has w g t cs → Has (w.setCells g o vs) g t (over cs o vs)
  | [], _, _, _, h => h
  | v :: r, o, w, cs, h => by
    rw [World.setCells, over]
    exact Has.setCells r (o + 1) _ _ (h.set_ o v)
theorem over_eq : ∀ (vs : List Value) (o : Nat) (cs : List Value), o + vs.length ≤ cs.length → over cs o vs = cs.take o ++ vs ++ cs.drop (o + vs.length)
  | [], o, cs, _ => by simp [over]
  | v :: r, o, cs, h => by
    rw [over, over_eq r (o + 1) (cs.set o v) (by simp at h ⊢; omega)]
    simp only [List.length_cons] at h ⊢
    have h1 : (cs.set o v).take (o + 1) = cs.take o ++ [v] := by
      apply List.ext_getElem?
      intro k
      by_cases hk : k < o
      · rw [List.getElem?_take, List.getElem?_append_left (by simp; omega), List.getElem?_take]
        simp [hk, show k < o + 1 by omega, show o ≠ k by omega]
      · by_cases hk2 : k = o
        · subst hk2
          rw [List.getElem?_take, List.getElem?_append_right (by simp; omega)]
          simp [show min k cs.length = k by omega, show k < cs.length by omega]
        · rw [List.getElem?_take, List.getElem?_append_right (by simp; omega)]
          simp [show ¬ k < o + 1 by omega, show min o cs.length = o by omega]
          omega
    have h2 : (cs.set o v).drop (o + 1 + r.length) = cs.drop (o + (r.length + 1)) := by
      rw [List.drop_set_of_lt (by omega), show o + 1 + r.length = o + (r.length + 1) by omega]
    rw [h1, h2]
    simp
theorem below_drewN' {B : Nat} {a w : World} (h : Below B a w) (n : Nat) : Below B a (w.drewN n) := ⟨h.os, h.tape, h.output, h.size, h.block⟩

def U8 (l : List Nat) : List Value := l.map fun n : Nat => Value.int .u8 (n : Int)
def U32 (l : List Nat) : List Value := l.map fun n : Nat => Value.int .u32 (n : Int)
theorem U8_get {l : List Nat} {i : Nat} (h : i < l.length) : (U8 l)[i]? = some (.int .u8 (l.getD i 0 : Nat)) := by simp [U8, h]
theorem U32_get {l : List Nat} {i : Nat} (h : i < l.length) : (U32 l)[i]? = some (.int .u32 (l.getD i 0 : Nat)) := by simp [U32, h]
@[simp] theorem U8_length (l : List Nat) : (U8 l).length = l.length := by simp [U8]
@[simp] theorem U32_length (l : List Nat) : (U32 l).length = l.length := by simp [U32]
theorem U8_append (a b : List Nat) : U8 (a ++ b) = U8 a ++ U8 b := by simp [U8]
theorem U8_set (l : List Nat) (i n : Nat) : (U8 l).set i (.int .u8 (n : Int)) = U8 (l.set i n) := by simp [U8, List.map_set]
theorem U32_set (l : List Nat) (i n : Nat) : (U32 l).set i (.int .u32 (n : Int)) = U32 (l.set i n) := by simp [U32, List.map_set]
theorem U8_one (l : List Nat) : ∀ v ∈ U8 l, v.oneCell' = true := by
  intro v hv; obtain ⟨n, _, rfl⟩ := List.mem_map.1 hv; rfl
theorem U32_one (l : List Nat) : ∀ v ∈ U32 l, v.oneCell' = true := by
  intro v hv; obtain ⟨n, _, rfl⟩ := List.mem_map.1 hv; rfl
end Go.Proofs.YtooeahpkhocaeaaDoor
