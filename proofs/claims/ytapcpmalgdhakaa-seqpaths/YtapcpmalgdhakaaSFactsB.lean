/- Layer 7: what is sent. Conditions: none of our own. -/
import Derived.Test.YtapcpmalgdhakaaSFacts
namespace Go.Proofs.Ytapcpmalgdhakaa
set_option maxRecDepth 100000

theorem ne_of_is {l m : List UInt8} {b : Bool} (h : (l == m) = b) : (l != m) = !b := by simp [bne, h]
theorem best_form (fi ca b : Bool) (inn val : Int) (l : List E) : (bestL fi ca b inn val l).2 = [] ∨ ∃ f : Int → Int, (bestL fi ca b inn val l).2 = sendTo l f ∧ ∀ a c, f a = f c := by
  unfold bestL
  split
  · exact .inr ⟨fun _ => val, rfl, fun _ _ => rfl⟩
  · split
    · exact .inr ⟨fun _ => inn, rfl, fun _ _ => rfl⟩
    · exact .inl rfl
theorem near_form (fi so ca : Bool) (inn val : Int) (len : Int → Int) (l : List E) : (nearL fi so ca inn val len l).2 = [] ∨ ∃ f : Int → Int, (nearL fi so ca inn val len l).2 = sendTo l f ∧ ((∀ a c, len a = len c) → ∀ a c, f a = f c) := by
  unfold nearL
  split
  · cases so
    · exact .inl rfl
    · exact .inr ⟨len, rfl, fun h => h⟩
  · split
    · exact .inr ⟨fun x => inn + len x, rfl, fun h a c => by simp only [h a c]⟩
    · exact .inl rfl
theorem deg_form (fi ca : Bool) (inn val : Int) (l : List E) : (degL fi ca inn val l).2 = [] ∨ ∃ f : Int → Int, (degL fi ca inn val l).2 = sendTo l f ∧ ∀ a c, f a = f c := by
  unfold degL
  split
  · exact .inr ⟨fun _ => 1, rfl, fun _ _ => rfl⟩
  · split <;> exact .inl rfl
theorem walk_form (fi ca : Bool) (inn val : Int) (l : List E) : (walkL fi ca inn val l).2 = [] ∨ ∃ f : Int → Int, (walkL fi ca inn val l).2 = sendTo l f ∧ ∀ a c, f a = f c := by
  unfold walkL
  split
  · exact .inr ⟨fun _ => 1, rfl, fun _ _ => rfl⟩
  · split
    · exact .inr ⟨fun _ => inn, rfl, fun _ _ => rfl⟩
    · exact .inl rfl
theorem rank_form (fi la : Bool) (inn val : Int) (l : List E) : (rankL fi la inn val l).2 = [] ∨ ∃ f : Int → Int, (rankL fi la inn val l).2 = sendTo l f ∧ ∀ a c, f a = f c := by
  unfold rankL
  dsimp only
  split
  · exact .inr ⟨_, rfl, fun _ _ => rfl⟩
  · exact .inl rfl
theorem run_form (k : Nat) (fi la so ca : Bool) (inn val : Int) (l : List E) : ((runL k fi la so ca inn val l).2 = [] ∨ ∃ f : Int → Int, (runL k fi la so ca inn val l).2 = sendTo l f ∧ (k ≠ 3 → ∀ a c, f a = f c)) ∧ (k ≠ 6 → (runL k fi la so ca inn val l).1.2 = false) := by
  unfold runL
  split
  · refine ⟨?_, fun _ => rfl⟩
    rcases best_form fi ca (decide (inn > val)) inn val l with h | ⟨f, h1, h2⟩
    · exact .inl h
    · exact .inr ⟨f, h1, fun _ => h2⟩
  · split
    · refine ⟨?_, fun _ => rfl⟩
      rcases best_form fi ca (decide (inn < val)) inn val l with h | ⟨f, h1, h2⟩
      · exact .inl h
      · exact .inr ⟨f, h1, fun _ => h2⟩
    · split
      · rename_i h3
        refine ⟨?_, fun _ => rfl⟩
        rcases near_form fi so ca inn val (fun x => x) l with h | ⟨f, h1, _⟩
        · exact .inl h
        · exact .inr ⟨f, h1, fun h => absurd h3 h⟩
      · split
        · refine ⟨?_, fun _ => rfl⟩
          rcases near_form fi so ca inn val (fun _ => 1) l with h | ⟨f, h1, h2⟩
          · exact .inl h
          · exact .inr ⟨f, h1, fun _ => h2 (fun _ _ => rfl)⟩
        · split
          · refine ⟨?_, fun _ => rfl⟩
            rcases deg_form fi ca inn val l with h | ⟨f, h1, h2⟩
            · exact .inl h
            · exact .inr ⟨f, h1, fun _ => h2⟩
          · split
            · refine ⟨?_, fun _ => rfl⟩
              rcases walk_form fi ca inn val l with h | ⟨f, h1, h2⟩
              · exact .inl h
              · exact .inr ⟨f, h1, fun _ => h2⟩
            · split
              · rename_i h6
                refine ⟨?_, fun h => absurd h6 h⟩
                rcases rank_form fi la inn val l with h | ⟨f, h1, h2⟩
                · exact .inl h
                · exact .inr ⟨f, h1, fun _ => h2⟩
              · exact ⟨.inl rfl, fun _ => rfl⟩
section
variable {n : Int} {es : List E} {k : Nat} {src steps at_ : Int} {x Y : Vx} {l : List E} {e : Int}
theorem step_form (h : stepL n es k src steps at_ x = (Y, l, e)) (he : e = 0) : checkZ n es = 0 ∧ (l = [] ∨ ∃ f : Int → Int, l = sendTo (outL n es x.id) f ∧ (k ≠ 3 → ∀ a c, f a = f c)) := by
  obtain ⟨h1, h2⟩ := step_ok h he
  refine ⟨(job_iff.1 h1.1).1, ?_⟩
  rcases h2 with ⟨_, _, _, h3⟩ | ⟨_, _, h3⟩
  · exact .inl h3
  · rw [h3]
    exact (run_form k (at_ == 0) (at_ == steps - 1) (x.id == src) x.has (if x.has then x.inn else 0) x.val (outL n es x.id)).1
theorem step_count (h : stepL n es k src steps at_ x = (Y, l, e)) (he : e = 0) (hl : l ≠ []) : l.length = (es.filter (fun e => e.1 == x.id)).length := by
  obtain ⟨hc, h1⟩ := step_form h he
  rcases h1 with h1 | ⟨f, rfl, _⟩
  · exact absurd h1 hl
  · rw [sendTo_length]
    obtain ⟨m, rfl, _, _, _⟩ := norm_small hc
    unfold outL
    rw [Int.toNat_natCast]
    exact ((norm_perm hc).filter _).length_eq
theorem step_same (h : stepL n es k src steps at_ x = (Y, l, e)) (he : e = 0) (hk : k ≠ 3) {m m' : E} (h1 : m ∈ l) (h2 : m' ∈ l) : m.2.2 = m'.2.2 := by
  rcases (step_form h he).2 with h3 | ⟨f, rfl, h4⟩
  · rw [h3] at h1; cases h1
  · simp only [sendTo, List.mem_map] at h1 h2
    obtain ⟨a, _, rfl⟩ := h1
    obtain ⟨b, _, rfl⟩ := h2
    exact h4 hk _ _
theorem step_along (h : stepL n es k src steps at_ x = (Y, l, e)) (he : e = 0) {m : E} (h1 : m ∈ l) : m.1 = x.id ∧ es.any (fun e => e.1 == x.id && e.2.1 == m.2.1) = true := by
  obtain ⟨hc, h2⟩ := step_form h he
  rcases h2 with h3 | ⟨f, rfl, _⟩
  · rw [h3] at h1; cases h1
  · simp only [sendTo, List.mem_map] at h1
    obtain ⟨a, ha, rfl⟩ := h1
    obtain ⟨b1, b2⟩ := outL_mem hc ha
    exact ⟨b2, List.any_eq_true.2 ⟨a, b1, by simp [b2]⟩⟩
theorem out_sorted (hc : checkZ n es = 0) (q : Int) : (outL n es q).Pairwise (fun a b => a.2.1 < b.2.1) := by
  obtain ⟨m, rfl, _, _, _⟩ := norm_small hc
  have h1 : (outL m es q).Pairwise ltE := (norm_sorted ((twice_iff es).1 (check_zero hc).2) _ _).filter _
  refine h1.imp_of_mem fun {a b} ha hb hlt => ?_
  have h2 := (outL_mem hc ha).2
  have h3 := (outL_mem hc hb).2
  unfold ltE at hlt
  omega
theorem step_rise (h : stepL n es k src steps at_ x = (Y, l, e)) (he : e = 0) {i : Nat} {m m' : E} (h1 : l[i]? = some m) (h2 : l[i + 1]? = some m') : m.2.1 < m'.2.1 := by
  obtain ⟨hc, h3⟩ := step_form h he
  rcases h3 with h3 | ⟨f, rfl, _⟩
  · rw [h3] at h1; cases h1
  · simp only [sendTo, List.getElem?_map, Option.map_eq_some_iff] at h1 h2
    obtain ⟨a, ha, rfl⟩ := h1
    obtain ⟨b, hb, rfl⟩ := h2
    obtain ⟨h5, rfl⟩ := List.getElem?_eq_some_iff.1 ha
    obtain ⟨h6, rfl⟩ := List.getElem?_eq_some_iff.1 hb
    exact List.pairwise_iff_getElem.1 (out_sorted hc x.id) i (i + 1) h5 h6 (by omega)
theorem step_done (h : stepL n es k src steps at_ x = (Y, l, e)) (he : e = 0) (hw : x.act = true ∨ x.has = true) : Y.id = x.id ∧ Y.has = false ∧ Y.inn = 0 ∧ (Y.act = false ∨ k = 6) := by
  rcases (step_ok h he).2 with ⟨h1, h2, _⟩ | ⟨_, rfl, _⟩
  · rcases hw with hw | hw <;> simp_all
  · refine ⟨rfl, rfl, rfl, ?_⟩
    by_cases h6 : k = 6
    · exact .inr h6
    · exact .inl ((run_form k (at_ == 0) (at_ == steps - 1) (x.id == src) x.has (if x.has then x.inn else 0) x.val (outL n es x.id)).2 h6)
theorem step_still (h : stepL n es k src steps at_ x = (Y, l, e)) (he : e = 0) (ha : x.act = false) (hh : x.has = false) : Y = x ∧ l = [] := by
  rcases (step_ok h he).2 with ⟨_, _, h1, h2⟩ | ⟨h1, _⟩
  · exact ⟨h1, h2⟩
  · rcases h1 with h1 | h1 <;> simp_all
theorem edges_row {w : World} {A : Option Addr} {c : Nat} {l : List E} (h : Edges w (.slice A l.length c) l) (h0 : 0 < l.length) : ∃ b o, A = some ⟨b, o, none⟩ ∧ b < w.heap.size ∧ w.rangeAt b o (cellsE l) := by
  obtain ⟨A', c', hv, _, _, h3⟩ := h
  simp only [Value.slice.injEq, true_and] at hv
  obtain ⟨rfl, rfl⟩ := hv
  exact h3 h0
end
end Go.Proofs.Ytapcpmalgdhakaa
