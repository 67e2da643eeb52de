/- Plain mathematics: all workers' vertices together are all, each once, in order. No condition. -/
import Derived.Test.YtbcmglggplmkfaaDoorYOwn
namespace Go.Proofs.YtbcmglggplmkfaaDoor
set_option maxRecDepth 100000

/-- How many vertices belong to the first j of k workers. -/
def cntX (k : Int) (j : Nat) (l : List Vx) : Nat := (l.filter (fun x => decide (0 ≤ Part.own x.id k) && decide (Part.own x.id k < (j : Int)))).length
def oddX (l : List Vx) : Nat := (l.filter (fun x => decide (x.id < 0))).length
theorem cntX_zero (k : Int) (l : List Vx) : cntX k 0 l = 0 := by
  unfold cntX
  rw [List.length_eq_zero_iff, List.filter_eq_nil_iff]
  intro x _ h
  simp at h; omega
theorem cntX_step (k : Int) (j : Nat) (l : List Vx) : cntX k (j + 1) l = cntX k j l + (ownX k (j : Int) l).length := by
  unfold cntX ownX
  induction l with
  | nil => rfl
  | cons x r ih =>
    by_cases h1 : 0 ≤ Part.own x.id k ∧ Part.own x.id k < (j : Int)
    · rw [List.filter_cons_of_pos (by simp; omega), List.filter_cons_of_pos (by simp; omega), List.filter_cons_of_neg (by simp; omega)]
      simp only [List.length_cons]; omega
    · by_cases h2 : Part.own x.id k = (j : Int)
      · rw [List.filter_cons_of_pos (by simp; omega), List.filter_cons_of_neg (by simp; omega), List.filter_cons_of_pos (by simp; omega)]
        simp only [List.length_cons]; omega
      · rw [List.filter_cons_of_neg (by simp; omega), List.filter_cons_of_neg (by simp; omega), List.filter_cons_of_neg (by simp; omega)]
        exact ih
theorem cntX_all {k : Nat} (hk : 1 ≤ k) (hk' : k ≤ 64) (l : List Vx) : cntX (k : Int) k l + oddX l = l.length := by
  unfold cntX oddX
  induction l with
  | nil => rfl
  | cons x r ih =>
    by_cases h : x.id < 0
    · have := Part.own_none (v := x.id) (k := (k : Int)) (.inl h)
      rw [List.filter_cons_of_neg (by simp; omega), List.filter_cons_of_pos (by simp; omega)]
      simp only [List.length_cons]; omega
    · have := Part.own_range (v := x.id) (k := (k : Int)) (by omega) (by omega) (by omega)
      rw [List.filter_cons_of_pos (by simp; omega), List.filter_cons_of_neg (by simp; omega)]
      simp only [List.length_cons]; omega
theorem oddX_step {l : List Vx} {i : Nat} {x : Vx} (h : l[i]? = some x) : oddX (l.take (i + 1)) = oddX (l.take i) + (if x.id < 0 then 1 else 0) := by
  unfold oddX
  rw [filt_snoc _ h, List.length_append]
  by_cases hx : x.id < 0
  · simp [hx]
  · simp [hx]
/-- What is still to be found, of h from a on, lies in what is still to be seen, of l from i on. -/
def SubX (h l : List Vx) (a i : Nat) : Prop := (h.drop a).Sublist (l.drop i)
theorem SubX.zero (k j : Int) (l : List Vx) : SubX (ownX k j l) l 0 0 := by unfold SubX ownX; simp
theorem SubX.same {h l : List Vx} {a i : Nat} {x : Vx} (s : SubX h l a i) (hx : l[i]? = some x) (ha : h[a]? = some x) : SubX h l (a + 1) (i + 1) := by
  unfold SubX at s ⊢
  obtain ⟨hi, rfl⟩ := List.getElem?_eq_some_iff.1 hx
  obtain ⟨hai, e⟩ := List.getElem?_eq_some_iff.1 ha
  rw [List.drop_eq_getElem_cons hi, List.drop_eq_getElem_cons hai, e] at s
  exact List.cons_sublist_cons.1 s
theorem SubX.other {h l : List Vx} {a i : Nat} {x y : Vx} (s : SubX h l a i) (hx : l[i]? = some x) (ha : h[a]? = some y) (hne : x ≠ y) : SubX h l a (i + 1) := by
  unfold SubX at s ⊢
  obtain ⟨hi, rfl⟩ := List.getElem?_eq_some_iff.1 hx
  obtain ⟨hai, e⟩ := List.getElem?_eq_some_iff.1 ha
  rw [List.drop_eq_getElem_cons hi] at s
  rw [List.drop_eq_getElem_cons hai, e] at s ⊢
  cases s with
  | cons _ s => exact s
  | cons_cons _ s => exact absurd rfl hne
theorem SubX.done {h l : List Vx} {a i : Nat} (s : SubX h l a i) (hi : ¬ (i < l.length ∧ a < h.length)) (hil : i ≤ l.length) : ¬ a < h.length := fun ha => by
  have : i = l.length := by omega
  unfold SubX at s
  rw [this, List.drop_length, List.sublist_nil] at s
  have := congrArg List.length s
  rw [List.length_drop] at this
  simp at this; omega
end Go.Proofs.YtbcmglggplmkfaaDoor
