/- Layer 7: what follows of a step that was done. Conditions: none of our own. -/
import Derived.Test.YtapcpmalgdhakaaSDone
namespace Go.Proofs.Ytapcpmalgdhakaa
set_option maxRecDepth 100000

section
variable {n : Int} {es : List E} {k : Nat} {src steps at_ : Int} {x Y : Vx} {l : List E} {e : Int}
theorem may_iff : mayB n es k src steps at_ x = true ↔ jobB n es k src steps = true ∧ 0 ≤ x.id ∧ x.id < n ∧ 0 ≤ at_ ∧ at_ < steps := by
  simp [mayB, and_assoc]
theorem step_err (h : stepL n es k src steps at_ x = (Y, l, e)) (he : e ≠ 0) : Y = noVx ∧ l = [] := by
  unfold stepL at h
  split at h
  · simp only [Prod.mk.injEq] at h; exact ⟨h.1.symm, h.2.1.symm⟩
  · split at h
    · simp only [Prod.mk.injEq] at h; exact ⟨h.1.symm, h.2.1.symm⟩
    · split at h
      · simp only [Prod.mk.injEq] at h; exact absurd h.2.2.symm he
      · dsimp only at h
        split at h
        · simp only [Prod.mk.injEq] at h; exact ⟨h.1.symm, h.2.1.symm⟩
        · simp only [Prod.mk.injEq] at h; exact absurd h.2.2.symm he
theorem step_ok (h : stepL n es k src steps at_ x = (Y, l, e)) (he : e = 0) : (jobB n es k src steps = true ∧ 0 ≤ x.id ∧ x.id < n ∧ 0 ≤ at_ ∧ at_ < steps) ∧
    ((x.act = false ∧ x.has = false ∧ Y = x ∧ l = []) ∨ ((x.act = true ∨ x.has = true) ∧ Y = ⟨x.id, (turnL n es k src steps at_ x).1.1, (turnL n es k src steps at_ x).1.2, false, 0⟩ ∧ l = (turnL n es k src steps at_ x).2)) := by
  subst he
  unfold stepL at h
  split at h
  · simp at h
  · rename_i hm
    refine ⟨may_iff.1 (by simpa using hm), ?_⟩
    split at h
    · simp at h
    · split at h
      · rename_i hq
        simp only [Prod.mk.injEq] at h
        simp only [Bool.and_eq_true, Bool.not_eq_true'] at hq
        exact .inl ⟨hq.1, hq.2, h.1.symm, h.2.1.symm⟩
      · rename_i hq
        dsimp only at h
        split at h
        · simp at h
        · simp only [Prod.mk.injEq] at h
          refine .inr ⟨?_, h.1.symm, h.2.1.symm⟩
          cases ha : x.act with
          | true => exact .inl rfl
          | false =>
            cases hh : x.has with
            | true => exact .inr rfl
            | false => rw [ha, hh] at hq; simp at hq
theorem best_gt {fi ca : Bool} {inn val : Int} {l : List E} : (bestL fi ca (decide (inn > val)) inn val l).1 ≥ val := by
  unfold bestL
  split
  · exact Int.le_refl _
  · split
    · rename_i h; simp at h; simp; omega
    · exact Int.le_refl _
theorem best_lt {fi ca : Bool} {inn val : Int} {l : List E} : (bestL fi ca (decide (inn < val)) inn val l).1 ≤ val := by
  unfold bestL
  split
  · exact Int.le_refl _
  · split
    · rename_i h; simp at h; simp; omega
    · exact Int.le_refl _
theorem step_max (h : stepL n es 1 src steps at_ x = (Y, l, e)) (he : e = 0) : Y.val ≥ x.val := by
  rcases (step_ok h he).2 with ⟨_, _, rfl, _⟩ | ⟨_, rfl, _⟩
  · exact Int.le_refl _
  · simp only [turnL, runL, if_true]; exact best_gt
theorem step_label (h : stepL n es 2 src steps at_ x = (Y, l, e)) (he : e = 0) : Y.val ≤ x.val := by
  rcases (step_ok h he).2 with ⟨_, _, rfl, _⟩ | ⟨_, rfl, _⟩
  · exact Int.le_refl _
  · simp only [turnL, runL, Nat.reduceEqDiff, if_false, if_true]; exact best_lt
theorem near_low {fi so ca : Bool} {inn val : Int} {len : Int → Int} {l : List E} : (nearL fi so ca inn val len l).1 ≤ val ∨ val < 0 := by
  unfold nearL
  split
  · exact .inl (Int.le_refl _)
  · split
    · rename_i h; simp at h; simp; omega
    · exact .inl (Int.le_refl _)
theorem step_near (hk : k = 3 ∨ k = 4) (h : stepL n es k src steps at_ x = (Y, l, e)) (he : e = 0) : Y.val ≤ x.val ∨ x.val < 0 := by
  rcases (step_ok h he).2 with ⟨_, _, rfl, _⟩ | ⟨_, rfl, _⟩
  · exact .inl (Int.le_refl _)
  · rcases hk with rfl | rfl <;> (simp only [turnL, runL, Nat.reduceEqDiff, if_false, if_true]; exact near_low)
theorem step_rank (h : stepL n es 6 src steps at_ x = (Y, l, e)) (he : e = 0) (hw : x.act = true ∨ x.has = true) : Y.act = decide (at_ < steps - 1) ∧ (Y.act = false → l = []) ∧ (¬ at_ > 0 → Y.val = x.val) := by
  obtain ⟨⟨_, _, _, ha, hb⟩, h2⟩ := step_ok h he
  rcases h2 with ⟨h3, h4, _⟩ | ⟨_, rfl, rfl⟩
  · rcases hw with hw | hw <;> simp_all
  · simp only [turnL, runL, Nat.reduceEqDiff, if_false, if_true]
    refine ⟨?_, ?_, ?_⟩
    · rw [Bool.eq_iff_iff]; simp; omega
    · intro h5; simp at h5; simp [rankL, h5]
    · intro h5; simp [rankL, rankV, show at_ = 0 by omega]
end
end Go.Proofs.Ytapcpmalgdhakaa
