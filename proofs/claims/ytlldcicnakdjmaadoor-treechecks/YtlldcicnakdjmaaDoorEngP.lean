/- Words on a region that draws its order: what must have come up ahead of what. No condition. -/
import Derived.Test.YtlldcicnakdjmaaDoorRows
import Derived.Test.YtlldcicnakdjmaaDoorMem
import Derived.OrdersHeld
namespace Go.Proofs.YtlldcicnakdjmaaDoor
open Go.RowKit

section
variable {P : Program} {md : Region.Mode} {ops : Array Oper}
/-- All that i waits for, and what that waits for, is marked. -/
def marks (md : Region.Mode) (ops : Array Oper) : Nat → (Nat → Bool) → (Nat → Bool)
  | 0, L => L
  | i + 1, L => marks md ops i (if L i then fun j => L j || (match ops[i]? with | some o => o.after.any (fun e => Region.binds md e && e.on == j) | none => false) else L)
/-- What is listed is listed with all that it waits for. -/
def Closed (md : Region.Mode) (ops : Array Oper) (L : Nat → Bool) : Prop := ∀ i o, ops[i]? = some o → L i = true → ∀ e ∈ o.after, Region.binds md e = true → L e.on = true
theorem marks_sub {L : Nat → Bool} (hL : Closed md ops L) : ∀ (n : Nat) (M : Nat → Bool), (∀ j, M j = true → L j = true) → ∀ j, marks md ops n M j = true → L j = true
  | 0, M, h, j, hj => h j hj
  | n + 1, M, h, j, hj => by
    refine marks_sub hL n _ (fun k hk => ?_) j hj
    by_cases hM : M n = true
    · rw [if_pos hM] at hk
      simp only [Bool.or_eq_true] at hk
      rcases hk with hk | hk
      · exact h k hk
      · cases ho : ops[n]? with
        | none => rw [ho] at hk; simp at hk
        | some o =>
          rw [ho] at hk
          simp only [Array.any_eq_true] at hk
          obtain ⟨i, hi, he⟩ := hk
          simp only [Bool.and_eq_true, beq_iff_eq] at he
          have := hL n o ho (h n hM) o.after[i] (Array.getElem_mem hi) he.1
          rwa [he.2] at this
    · rw [if_neg hM] at hk
      exact h k hk
theorem getD_true {l : Array Bool} {j : Nat} (h : l.getD j false = true) : l.getD j true = true := by
  by_cases hj : j < l.size
  · simpa [hj] using h
  · simp [hj] at h
theorem countP_one (p q : Nat → Bool) (i : Nat) (hp : p i = true) (hq : q i = false) (hne : ∀ j, i ≠ j → q j = p j) : ∀ n, (List.range n).countP q + (if i < n then 1 else 0) = (List.range n).countP p
  | 0 => by simp
  | n + 1 => by
    have ih := countP_one p q i hp hq hne n
    rw [List.range_succ, List.countP_append, List.countP_append, List.countP_singleton, List.countP_singleton]
    by_cases hin : i = n
    · subst hin
      rw [if_neg (by omega)] at ih
      simp only [hp, hq, show i < i + 1 by omega, if_true]
      simp
      simpa using ih
    · rw [hne n hin]
      by_cases hl : i < n
      · rw [if_pos hl] at ih
        rw [if_pos (show i < n + 1 by omega)]
        omega
      · rw [if_neg hl] at ih
        rw [if_neg (show ¬ i < n + 1 by omega)]
        omega
theorem countP_set (m : Nat) (listed : Array Bool) (i : Nat) (hi : i < m) (h0 : listed.getD i true = false) (hget : ∀ (j : Nat) (b : Bool), (listed.setIfInBounds i true).getD j b = if i = j then true else listed.getD j b) :
    (List.range m).countP (fun j => !(listed.setIfInBounds i true).getD j true) + 1 = (List.range m).countP (fun j => !listed.getD j true) := by
  have := countP_one (fun j => !listed.getD j true) (fun j => !(listed.setIfInBounds i true).getD j true) i (by simp only [h0]; rfl) (by simp only [hget, if_true]; rfl) (fun j hj => by simp only [hget, if_neg hj]) m
  rwa [if_pos hi] at this
theorem arr_extB {x y : Array Bool} (hs : x.size = y.size) (h : ∀ d, d < x.size → x.getD d true = y.getD d true) : x = y := by
  apply Array.ext hs
  intro i h1 h2
  have := h i h1
  simpa [h1, h2] using this
end
end Go.Proofs.YtlldcicnakdjmaaDoor
