/- Layer 9: what the algorithms come to, by the values at the end. No condition. -/
import Derived.Test.YtapcpmalgdhakaaVAwake
import Derived.Test.YtapcpmalgdhakaaNAll
namespace Go.Proofs.Ytapcpmalgdhakaa
open Go.RowKit
set_option maxRecDepth 100000

section
theorem reach_facts {n : Int} {es : List E} {src : Int} {XL : List Int} {XN : Nat} (h12 : n ≤ 12) (hW : wholeL n es 4 src 20 = (XL, XN, 0)) : ∃ f : Nat → Int, 1 ≤ n ∧ XL.length = n.toNat ∧ (∀ v, v < n.toNat → XL[v]? = some (f v)) ∧ (∀ v, v < n.toNat → -1125899906842624 ≤ f v ∧ f v ≤ 1125899906842624) ∧ (∀ e ∈ es, ∃ (a b : Nat) (c : Int), e = ((a : Int), ((b : Int), c)) ∧ a < n.toNat ∧ b < n.toNat ∧ 0 ≤ c ∧ c ≤ 1048576 ∧ (0 ≤ f a → 0 ≤ f b ∧ f b ≤ f a + 1)) ∧ (∀ v, v < n.toNat → f v ≤ 0 ∨ ∃ e ∈ es, e.2.1 = (v : Int) ∧ f e.1.toNat = f v - 1) ∧ (∀ v, v < n.toNat → f v = 0 → (v : Int) = src) ∧ 0 ≤ src ∧ src < n ∧ f src.toNat = 0 := by
  obtain ⟨T, hT, hX⟩ := whole_few (n := n) (es := es) (k := 4) (src := src) (steps := 20) (.inr (.inr (.inr rfl))) (by omega) (by rw [hW])
  rw [hW] at hX
  replace hX : XL = _ := hX
  have hn := job_n hT.ok.1
  refine ⟨fun v => (vxL n es 4 src 20 T v).val, hn.1, by rw [hX]; exact values_length hT.ok, fun v hv => by rw [hX]; exact values_get hT.ok hv, fun v hv => great_no (val_small hT.ok (.inr (.inr (.inr rfl))) T (Nat.le_refl _) v hv), ?_⟩
  have hed : ∀ e ∈ es, ∃ (a b : Nat) (c : Int), e = ((a : Int), ((b : Int), c)) ∧ a < n.toNat ∧ b < n.toNat ∧ 0 ≤ c ∧ c ≤ 1048576 := fun e he => by
    have hok := job_edge hT.ok.1 he
    exact ⟨e.1.toNat, e.2.1.toNat, e.2.2, by rw [Int.toNat_of_nonneg hok.1, Int.toNat_of_nonneg hok.2.2.1], by omega, by omega, hok.2.2.2.2.1, hok.2.2.2.2.2⟩
  refine ⟨fun e he => ?_, fun v hv => ?_, fun v hv h0 => bfs_zero hT hv h0, near_source hT (.inr rfl)⟩
  · obtain ⟨a, b, c, rfl, h1, h2, h3, h4⟩ := hed e he
    exact ⟨a, b, c, rfl, h1, h2, h3, h4, fun ha => near_along hT (.inr rfl) he ha⟩
  · by_cases hf : (vxL n es 4 src 20 T v).val ≤ 0
    · exact .inl hf
    · obtain ⟨e, he, h1, h2, h3⟩ := near_behind hT (.inr rfl) hv (by omega) (fun hs => by have := (near_source hT (.inr rfl)).2.2; rw [show src.toNat = v by omega] at this; omega)
      refine .inr ⟨e, he, h1, ?_⟩
      have h4 : (vxL n es 4 src 20 T v).val = (vxL n es 4 src 20 T e.1.toNat).val + 1 := h3
      show (vxL n es 4 src 20 T e.1.toNat).val = (vxL n es 4 src 20 T v).val - 1
      omega
theorem label_facts {n : Int} {es : List E} {XL : List Int} {XN : Nat} (h12 : n ≤ 12) (hW : wholeL n es 2 0 20 = (XL, XN, 0)) : ∃ f : Nat → Int, 1 ≤ n ∧ XL.length = n.toNat ∧ (∀ v, v < n.toNat → XL[v]? = some (f v)) ∧ (∀ v, v < n.toNat → -1125899906842624 ≤ f v ∧ f v ≤ 1125899906842624) ∧ (∀ e ∈ es, ∃ (a b : Nat) (c : Int), e = ((a : Int), ((b : Int), c)) ∧ a < n.toNat ∧ b < n.toNat ∧ 0 ≤ c ∧ c ≤ 1048576 ∧ f b ≤ f a) ∧ (∀ v, v < n.toNat → f v = (v : Int) ∨ ∃ e ∈ es, e.2.1 = (v : Int) ∧ f e.1.toNat = f v) ∧ (∀ v, v < n.toNat → 0 ≤ f v ∧ f v ≤ (v : Int) ∧ f (f v).toNat = f v) := by
  obtain ⟨T, hT, hX⟩ := whole_few (n := n) (es := es) (k := 2) (src := 0) (steps := 20) (.inr (.inl rfl)) (by omega) (by rw [hW])
  rw [hW] at hX
  replace hX : XL = _ := hX
  have hn := job_n hT.ok.1
  refine ⟨fun v => (vxL n es 2 0 20 T v).val, hn.1, by rw [hX]; exact values_length hT.ok, fun v hv => by rw [hX]; exact values_get hT.ok hv, fun v hv => great_no (val_small hT.ok (.inr (.inl rfl)) T (Nat.le_refl _) v hv), ?_⟩
  have hed : ∀ e ∈ es, ∃ (a b : Nat) (c : Int), e = ((a : Int), ((b : Int), c)) ∧ a < n.toNat ∧ b < n.toNat ∧ 0 ≤ c ∧ c ≤ 1048576 := fun e he => by
    have hok := job_edge hT.ok.1 he
    exact ⟨e.1.toNat, e.2.1.toNat, e.2.2, by rw [Int.toNat_of_nonneg hok.1, Int.toNat_of_nonneg hok.2.2.1], by omega, by omega, hok.2.2.2.2.1, hok.2.2.2.2.2⟩
  refine ⟨fun e he => ?_, fun v hv => label_behind hT hv, fun v hv => label_own hT hv⟩
  obtain ⟨a, b, c, rfl, h1, h2, h3, h4⟩ := hed e he
  exact ⟨a, b, c, rfl, h1, h2, h3, h4, label_along hT he⟩
theorem max_facts {n : Int} {es : List E} {XL : List Int} {XN : Nat} (h12 : n ≤ 12) (hW : wholeL n es 1 0 20 = (XL, XN, 0)) : ∃ f : Nat → Int, 1 ≤ n ∧ XL.length = n.toNat ∧ (∀ v, v < n.toNat → XL[v]? = some (f v)) ∧ (∀ v, v < n.toNat → -1125899906842624 ≤ f v ∧ f v ≤ 1125899906842624) ∧ (∀ e ∈ es, ∃ (a b : Nat) (c : Int), e = ((a : Int), ((b : Int), c)) ∧ a < n.toNat ∧ b < n.toNat ∧ 0 ≤ c ∧ c ≤ 1048576 ∧ f a ≤ f b) ∧ (∀ v, v < n.toNat → (∃ u, u < n.toNat ∧ f v = firstV 1 0 (u : Int)) ∧ firstV 1 0 (v : Int) ≤ f v) := by
  obtain ⟨T, hT, hX⟩ := whole_few (n := n) (es := es) (k := 1) (src := 0) (steps := 20) (.inl rfl) (by omega) (by rw [hW])
  rw [hW] at hX
  replace hX : XL = _ := hX
  have hn := job_n hT.ok.1
  refine ⟨fun v => (vxL n es 1 0 20 T v).val, hn.1, by rw [hX]; exact values_length hT.ok, fun v hv => by rw [hX]; exact values_get hT.ok hv, fun v hv => great_no (val_small hT.ok (.inl rfl) T (Nat.le_refl _) v hv), ?_⟩
  have hed : ∀ e ∈ es, ∃ (a b : Nat) (c : Int), e = ((a : Int), ((b : Int), c)) ∧ a < n.toNat ∧ b < n.toNat ∧ 0 ≤ c ∧ c ≤ 1048576 := fun e he => by
    have hok := job_edge hT.ok.1 he
    exact ⟨e.1.toNat, e.2.1.toNat, e.2.2, by rw [Int.toNat_of_nonneg hok.1, Int.toNat_of_nonneg hok.2.2.1], by omega, by omega, hok.2.2.2.2.1, hok.2.2.2.2.2⟩
  refine ⟨fun e he => ?_, fun v hv => max_of hT hv⟩
  obtain ⟨a, b, c, rfl, h1, h2, h3, h4⟩ := hed e he
  exact ⟨a, b, c, rfl, h1, h2, h3, h4, max_along hT he⟩
theorem paths_facts {n : Int} {es : List E} {src : Int} {XL : List Int} {XN : Nat} (h12 : n ≤ 12) (hW : wholeL n es 3 src 20 = (XL, XN, 0)) : ∃ f : Nat → Int, 1 ≤ n ∧ XL.length = n.toNat ∧ (∀ v, v < n.toNat → XL[v]? = some (f v)) ∧ (∀ v, v < n.toNat → -1125899906842624 ≤ f v ∧ f v ≤ 1125899906842624) ∧ (∀ e ∈ es, ∃ (a b : Nat) (c : Int), e = ((a : Int), ((b : Int), c)) ∧ a < n.toNat ∧ b < n.toNat ∧ 0 ≤ c ∧ c ≤ 1048576 ∧ (0 ≤ f a → 0 ≤ f b ∧ f b ≤ f a + c)) ∧ (∀ v, v < n.toNat → (f v < 0 ∨ (v : Int) = src) ∨ ∃ e ∈ es, e.2.1 = (v : Int) ∧ 0 ≤ f e.1.toNat ∧ f e.1.toNat + e.2.2 = f v) ∧ 0 ≤ src ∧ src < n ∧ f src.toNat = 0 := by
  obtain ⟨T, hT, hX⟩ := whole_few (n := n) (es := es) (k := 3) (src := src) (steps := 20) (.inr (.inr (.inl rfl))) (by omega) (by rw [hW])
  rw [hW] at hX
  replace hX : XL = _ := hX
  have hn := job_n hT.ok.1
  refine ⟨fun v => (vxL n es 3 src 20 T v).val, hn.1, by rw [hX]; exact values_length hT.ok, fun v hv => by rw [hX]; exact values_get hT.ok hv, fun v hv => great_no (val_small hT.ok (.inr (.inr (.inl rfl))) T (Nat.le_refl _) v hv), ?_⟩
  have hed : ∀ e ∈ es, ∃ (a b : Nat) (c : Int), e = ((a : Int), ((b : Int), c)) ∧ a < n.toNat ∧ b < n.toNat ∧ 0 ≤ c ∧ c ≤ 1048576 := fun e he => by
    have hok := job_edge hT.ok.1 he
    exact ⟨e.1.toNat, e.2.1.toNat, e.2.2, by rw [Int.toNat_of_nonneg hok.1, Int.toNat_of_nonneg hok.2.2.1], by omega, by omega, hok.2.2.2.2.1, hok.2.2.2.2.2⟩
  refine ⟨fun e he => ?_, fun v hv => ?_, near_source hT (.inl rfl)⟩
  · obtain ⟨a, b, c, rfl, h1, h2, h3, h4⟩ := hed e he
    exact ⟨a, b, c, rfl, h1, h2, h3, h4, fun ha => near_along hT (.inl rfl) he ha⟩
  · by_cases hs : (v : Int) = src
    · exact .inl (.inr hs)
    · by_cases hf : (vxL n es 3 src 20 T v).val < 0
      · exact .inl (.inl hf)
      · obtain ⟨e, he, h1, h2, h3⟩ := near_behind hT (.inl rfl) hv (by omega) hs
        exact .inr ⟨e, he, h1, h2, h3.symm⟩
end
end Go.Proofs.Ytapcpmalgdhakaa
