/- Plain mathematics: numbers as bytes, and read again, as the document's chapter 2 says it. No condition. -/
namespace Wire

def num (n : Nat) : List Nat := if n < 128 then [n] else (n % 128 + 128) :: num (n / 128)
termination_by n
decreasing_by omega
theorem num_lt {n : Nat} (h : n < 128) : num n = [n] := by rw [num, if_pos h]
theorem num_ge {n : Nat} (h : ¬ n < 128) : num n = (n % 128 + 128) :: num (n / 128) := by rw [num, if_neg h]
theorem num_bytes (n : Nat) : ∀ x ∈ num n, x < 256 := by
  induction n using Nat.strongRecOn with
  | _ n ih =>
    intro x hx
    by_cases h : n < 128
    · rw [num_lt h] at hx
      rw [List.mem_singleton.1 hx]; omega
    · rw [num_ge h] at hx
      rcases List.mem_cons.1 hx with rfl | hx
      · omega
      · exact ih (n / 128) (by omega) x hx
theorem num_pos (n : Nat) : 0 < (num n).length := by
  by_cases h : n < 128
  · rw [num_lt h]; simp
  · rw [num_ge h]; simp
theorem num_le : ∀ (k n : Nat), n < 128 ^ (k + 1) → (num n).length ≤ k + 1
  | 0, n, h => by rw [num_lt (by simpa using h)]; simp
  | k + 1, n, h => by
    by_cases h1 : n < 128
    · rw [num_lt h1]; simp
    · rw [num_ge h1]
      have := num_le k (n / 128) (by rw [Nat.pow_succ] at h; exact Nat.div_lt_of_lt_mul (by rw [Nat.mul_comm]; exact h))
      simp; omega
theorem num_len10 (n : Nat) (h : n < 18446744073709551616) : (num n).length ≤ 10 := num_le 9 n (by omega)
theorem num_mono : ∀ (a b : Nat), a ≤ b → (num a).length ≤ (num b).length := by
  intro a
  induction a using Nat.strongRecOn with
  | _ a ih =>
    intro b hab
    by_cases h : a < 128
    · rw [num_lt h]; exact num_pos b
    · rw [num_ge h, num_ge (show ¬ b < 128 by omega)]
      have := ih (a / 128) (by omega) (b / 128) (Nat.div_le_div_right hab)
      simp; exact this
theorem num_one (n : Nat) : (num n).length = 1 ↔ n < 128 := by
  by_cases h : n < 128
  · rw [num_lt h]; simp [h]
  · rw [num_ge h]
    have := num_pos (n / 128)
    simp [h]
    intro e
    rw [e] at this
    simp at this
/-- One below 0 has as many bytes as its opposite less one. -/
theorem num_two (n : Nat) : (num (2 * n)).length = (num (2 * n + 1)).length := by
  by_cases h : 2 * n < 128
  · rw [num_lt h, num_lt (by omega)]; rfl
  · rw [num_ge h, num_ge (n := 2 * n + 1) (by omega), show (2 * n + 1) / 128 = 2 * n / 128 by omega]; rfl
theorem num_inj : ∀ (a b : Nat), num a = num b → a = b := by
  intro a
  induction a using Nat.strongRecOn with
  | _ a ih =>
    intro b h
    have hl := congrArg List.length h
    by_cases ha : a < 128
    · have hb : b < 128 := (num_one b).1 (by rw [← hl]; exact (num_one a).2 ha)
      rw [num_lt ha, num_lt hb] at h
      simpa using h
    · have hb : ¬ b < 128 := fun hb => ha ((num_one a).1 (by rw [hl]; exact (num_one b).2 hb))
      rw [num_ge ha, num_ge hb] at h
      injection h with h1 h2
      have := ih (a / 128) (by omega) (b / 128) h2
      omega

/-- What is read from place k on, v having come of the k bytes ahead: the number, how many bytes it has, the error. -/
def rdFrom : Nat → Nat → List Nat → Nat × Nat × Nat
  | _, _, [] => (0, 0, 20)
  | k, v, c :: r => if (0 < k ∧ c = 0) ∨ (k = 9 ∧ 1 < c) then (0, 0, 21) else if c < 128 then (v + c % 128 * 128 ^ k, k + 1, 0) else rdFrom (k + 1) (v + c % 128 * 128 ^ k) r
def rd (l : List Nat) : Nat × Nat × Nat := rdFrom 0 0 l
theorem rdFrom_form {k v c : Nat} {r : List Nat} (h : (0 < k ∧ c = 0) ∨ (k = 9 ∧ 1 < c)) : rdFrom k v (c :: r) = (0, 0, 21) := by rw [rdFrom, if_pos h]
theorem rdFrom_last {k v c : Nat} {r : List Nat} (h : ¬ ((0 < k ∧ c = 0) ∨ (k = 9 ∧ 1 < c))) (hc : c < 128) : rdFrom k v (c :: r) = (v + c % 128 * 128 ^ k, k + 1, 0) := by rw [rdFrom, if_neg h, if_pos hc]
theorem rdFrom_more {k v c : Nat} {r : List Nat} (h : ¬ ((0 < k ∧ c = 0) ∨ (k = 9 ∧ 1 < c))) (hc : ¬ c < 128) : rdFrom k v (c :: r) = rdFrom (k + 1) (v + c % 128 * 128 ^ k) r := by rw [rdFrom, if_neg h, if_neg hc]

/-- What was written is read again. -/
theorem rdFrom_num : ∀ (d k v n : Nat) (r : List Nat), k + d = 9 → (0 < k → 0 < n) → n < 2 * 128 ^ d → rdFrom k v (num n ++ r) = (v + n * 128 ^ k, k + (num n).length, 0)
  | 0, k, v, n, r, hk, hp, hn => by
    have hn2 : n < 2 := by simpa using hn
    rw [num_lt (by omega), List.singleton_append, rdFrom_last (by omega) (by omega)]
    simp [Nat.mod_eq_of_lt (show n < 128 by omega)]
  | d + 1, k, v, n, r, hk, hp, hn => by
    by_cases h : n < 128
    · rw [num_lt h, List.singleton_append, rdFrom_last (by omega) h]
      simp [Nat.mod_eq_of_lt h]
    · rw [num_ge h, List.cons_append, rdFrom_more (by omega) (by omega), rdFrom_num d (k + 1) _ (n / 128) r (by omega) (by omega) (by
        rw [Nat.pow_succ] at hn
        exact Nat.div_lt_of_lt_mul (by omega))]
      refine Prod.ext ?_ (Prod.ext ?_ rfl)
      · show v + (n % 128 + 128) % 128 * 128 ^ k + n / 128 * 128 ^ (k + 1) = v + n * 128 ^ k
        have e : n = n % 128 + n / 128 * 128 := by omega
        rw [show (n % 128 + 128) % 128 = n % 128 by omega, Nat.pow_succ]
        conv => rhs; rw [e]
        rw [Nat.add_mul, Nat.mul_assoc, Nat.mul_comm 128 (128 ^ k)]
        omega
      · simp; omega
theorem rd_num (n : Nat) (r : List Nat) (h : n < 18446744073709551616) : rd (num n ++ r) = (n, (num n).length, 0) := by
  have := rdFrom_num 9 0 0 n r rfl (by omega) (by simpa using h)
  simpa [rd] using this
/-- Cut somewhere they end too early. -/
theorem rdFrom_cut : ∀ (d k v n j : Nat), k + d = 9 → (0 < k → 0 < n) → n < 2 * 128 ^ d → j < (num n).length → rdFrom k v ((num n).take j) = (0, 0, 20)
  | d, k, v, n, 0, hk, hp, hn, hj => by simp [rdFrom]
  | 0, k, v, n, j + 1, hk, hp, hn, hj => by
    rw [num_lt (by simp at hn; omega)] at hj
    simp at hj
  | d + 1, k, v, n, j + 1, hk, hp, hn, hj => by
    by_cases h : n < 128
    · rw [num_lt h] at hj
      simp at hj
    · rw [num_ge h] at hj ⊢
      rw [List.take_succ_cons, rdFrom_more (by omega) (by omega), rdFrom_cut d (k + 1) _ (n / 128) j (by omega) (by omega) (by
        rw [Nat.pow_succ] at hn
        exact Nat.div_lt_of_lt_mul (by omega)) (by simpa using hj)]
theorem rd_cut (n j : Nat) (h : n < 18446744073709551616) (hj : j < (num n).length) : rd ((num n).take j) = (0, 0, 20) := rdFrom_cut 9 0 0 n j rfl (by omega) (by simpa using h) hj
/-- What is read was written so. -/
theorem rdFrom_back : ∀ (l : List Nat) (k v x m : Nat), (∀ c ∈ l, c < 256) → k ≤ 9 → rdFrom k v l = (x, m, 0) → ∃ n j, x = v + n * 128 ^ k ∧ m = k + j ∧ j ≤ l.length ∧ l.take j = num n ∧ (0 < k → 0 < n) ∧ 0 < j ∧ n < 2 * 128 ^ (9 - k)
  | [], k, v, x, m, _, _, h => by simp [rdFrom] at h
  | c :: r, k, v, x, m, hb, hk, h => by
    by_cases hf : (0 < k ∧ c = 0) ∨ (k = 9 ∧ 1 < c)
    · rw [rdFrom_form hf] at h; simp at h
    · by_cases hc : c < 128
      · rw [rdFrom_last hf hc] at h
        simp only [Prod.mk.injEq] at h
        refine ⟨c, 1, by rw [← h.1, Nat.mod_eq_of_lt hc], h.2.1.symm, by simp, by rw [num_lt hc]; simp, by omega, by omega, ?_⟩
        by_cases h9 : k = 9
        · subst h9; simp; omega
        · have : 128 ^ 1 ≤ 128 ^ (9 - k) := Nat.pow_le_pow_right (by omega) (by omega)
          omega
      · rw [rdFrom_more hf hc] at h
        have hcb := hb c (List.mem_cons_self ..)
        have hk9 : k ≠ 9 := by omega
        obtain ⟨n, j, e1, e2, e3, e4, e5, e6, e7⟩ := rdFrom_back r (k + 1) _ x m (fun c hc => hb c (List.mem_cons_of_mem _ hc)) (by omega) h
        have hn : 0 < n := e5 (by omega)
        refine ⟨c % 128 + n * 128, j + 1, ?_, by omega, by simp; exact e3, ?_, by omega, by omega, ?_⟩
        · rw [e1, Nat.pow_succ, Nat.add_mul, Nat.mul_assoc, Nat.mul_comm 128 (128 ^ k)]; omega
        · rw [List.take_succ_cons, e4, num_ge (show ¬ c % 128 + n * 128 < 128 by omega), show (c % 128 + n * 128) % 128 + 128 = c by omega, show (c % 128 + n * 128) / 128 = n by omega]
        · have : 9 - k = 9 - (k + 1) + 1 := by omega
          rw [this, Nat.pow_succ]
          generalize 128 ^ (9 - (k + 1)) = q at *
          omega
theorem rd_back (l : List Nat) (x m : Nat) (hb : ∀ c ∈ l, c < 256) (h : rd l = (x, m, 0)) : m ≤ l.length ∧ 0 < m ∧ l.take m = num x ∧ x < 18446744073709551616 := by
  obtain ⟨n, j, e1, e2, e3, e4, _, e6, e7⟩ := rdFrom_back l 0 0 x m hb (by omega) h
  simp at e1 e2
  subst e1 e2
  exact ⟨e3, e6, e4, by simpa using e7⟩
/-- The errors. -/
theorem rdFrom_err : ∀ (l : List Nat) (k v : Nat), (rdFrom k v l).2.2 = 0 ∨ ((rdFrom k v l) = (0, 0, 20)) ∨ rdFrom k v l = (0, 0, 21)
  | [], k, v => by simp [rdFrom]
  | c :: r, k, v => by
    rw [rdFrom]
    split
    · simp
    · split
      · simp
      · exact rdFrom_err r _ _
theorem rd_err (l : List Nat) : (rd l).2.2 = 0 ∨ rd l = (0, 0, 20) ∨ rd l = (0, 0, 21) := rdFrom_err l 0 0
/-- One that may be below 0. -/
def fold (n : Int) : Nat := if 0 ≤ n then 2 * n.toNat else 2 * (-1 - n).toNat + 1
def unfold_ (n : Nat) : Int := if n % 2 = 0 then (n / 2 : Nat) else -1 - (n / 2 : Nat)
theorem unfold_fold (n : Int) : unfold_ (fold n) = n := by
  unfold unfold_ fold
  by_cases h : 0 ≤ n
  · rw [if_pos h, if_pos (by omega)]; omega
  · rw [if_neg h, if_neg (by omega)]; omega
theorem fold_unfold (n : Nat) : fold (unfold_ n) = n := by
  unfold unfold_ fold
  by_cases h : n % 2 = 0
  · rw [if_pos h, if_pos (by omega)]; omega
  · rw [if_neg h, if_neg (by omega)]; omega
theorem fold_lt (n : Int) (h1 : -9223372036854775808 ≤ n) (h2 : n ≤ 9223372036854775807) : fold n < 18446744073709551616 := by
  unfold fold
  split <;> omega
theorem unfold_in (n : Nat) (h : n < 18446744073709551616) : -9223372036854775808 ≤ unfold_ n ∧ unfold_ n ≤ 9223372036854775807 := by
  unfold unfold_
  split <;> omega
theorem fold_inj (a b : Int) (h : fold a = fold b) : a = b := by rw [← unfold_fold a, h, unfold_fold]
end Wire
