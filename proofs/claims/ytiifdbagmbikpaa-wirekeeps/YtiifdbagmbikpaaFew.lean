/- The contract of Few: whether fields are few and short. Conditions: a slice of fields. -/
import Derived.Test.YtiifdbagmbikpaaFld
namespace Go.Proofs.Ytiifdbagmbikpaa
open Go.RowKit

def Fld.short (f : Fld) : Prop := f.s.size ≤ 300 ∧ 0 ≤ f.kind ∧ f.kind ≤ 3
def Short (fs : List Fld) : Prop := (∀ f ∈ fs, f.short) ∧ fs.length ≤ 40
def FewPost (fs : List Fld) (e : Ending) : Prop := ∃ r : Bool, e = .returned (.bool r) ∧ (r = true ↔ Short fs)
set_option maxRecDepth 100000 in
theorem few_any (lv : Value) (fs : List Fld) (w : World) (hl : Flds w lv fs) :
    Calls Try.prog 13 #[lv] w fun e w' => FewPost fs e ∧ w = w' := by
  obtain ⟨A, c, rfl, hc1, hc2, hok, hcell⟩ := hl
  have HCell := Lib.hid hcell
  unfold maxLen at hc2
  clear hcell hok
  go_enter Try.func13, Try.ntmps13
  go_wp2_with fail
  go_loop [3] (fun i => ∃ k : Nat, k ≤ fs.length ∧ i = .int .i64 (k : Int) ∧ ∀ f ∈ fs.take k, f.short) (fun i => fs.length - (intOf i).toNat)
  case atStart => exact ⟨0, by omega, rfl, by simp⟩
  case round =>
    obtain ⟨k, hk, hi, hall⟩ := hrel
    subst hi
    have HAll := Lib.hid hall
    clear hall
    by_cases hlt : k < fs.length
    · obtain ⟨b, o, rfl, hb, hcl⟩ := HCell.out (by omega)
      obtain ⟨f, hf⟩ : ∃ f, fs[k]? = some f := ⟨_, List.getElem?_eq_getElem hlt⟩
      have c0 : w.cell? ⟨b, o + k * 37, none⟩ = some (.int .i64 f.kind) := by simpa using hcl k f hf 0 _ rfl
      have c4 : w.cell? ⟨b, o + k * 37 + 4, none⟩ = some (.string f.s) := hcl k f hf 4 _ rfl
      have HF := Lib.hid hf
      have HNo : Hid (¬ f.short → ¬ Short fs) := fun h hs => h (hs.1 f (List.mem_of_getElem? hf))
      clear hcl hf
      by_cases h1 : 300 < f.s.size
      · have t1 : decide ((f.s.size : Int) > 300) = true := by simp; omega
        go_wp2
        go_ret
        exact ⟨⟨false, rfl, by simp; exact HNo.out (fun h => by have := h.1; omega)⟩, rfl⟩
      · have t1 : decide ((f.s.size : Int) > 300) = false := by simp; omega
        by_cases h2 : f.kind < 0
        · have t2 : decide (f.kind < 0) = true := by simp; omega
          go_wp2
          go_ret
          exact ⟨⟨false, rfl, by simp; exact HNo.out (fun h => by have := h.2.1; omega)⟩, rfl⟩
        · have t2 : decide (f.kind < 0) = false := by simp; omega
          by_cases h3 : 3 < f.kind
          · have t3 : decide (f.kind > 3) = true := by simp; omega
            go_wp2
            go_ret
            exact ⟨⟨false, rfl, by simp; exact HNo.out (fun h => by have := h.2.2; omega)⟩, rfl⟩
          · have t3 : decide (f.kind > 3) = false := by simp; omega
            go_wp2
            go_round
            case rel =>
              refine ⟨k + 1, by omega, by go_num, fun g hg => ?_⟩
              rw [List.take_add_one, HF.out] at hg
              rcases List.mem_append.1 hg with hg | hg
              · exact HAll.out g hg
              · simp at hg
                subst hg
                exact ⟨by omega, by omega, by omega⟩
            case measure => simp [intOf]; omega
    · obtain rfl : k = fs.length := by omega
      go_wp2
      go_ret
      refine ⟨⟨decide ((fs.length : Int) ≤ 40), rfl, ?_⟩, rfl⟩
      have := HAll.out
      rw [List.take_length] at this
      simp only [decide_eq_true_eq]
      exact ⟨fun h => ⟨this, by omega⟩, fun h => by have := h.2; omega⟩
theorem few_yes (lv : Value) (fs : List Fld) (w : World) (hl : Flds w lv fs) (hs : Short fs) : Calls Try.prog 13 #[lv] w fun e w' => e = .returned (.bool true) ∧ w = w' :=
  (few_any lv fs w hl).mono fun _ _ ⟨⟨r, he, hr⟩, hw⟩ => ⟨by rw [he, hr.2 hs], hw⟩
theorem few_no (lv : Value) (fs : List Fld) (w : World) (hl : Flds w lv fs) (hs : ¬ Short fs) : Calls Try.prog 13 #[lv] w fun e w' => e = .returned (.bool false) ∧ w = w' :=
  (few_any lv fs w hl).mono fun _ _ ⟨⟨r, he, hr⟩, hw⟩ => ⟨by
    cases r
    · exact he
    · exact absurd (hr.1 rfl) hs, hw⟩
theorem Flds.below {w w' : World} {lv : Value} {fs : List Fld} (h : Flds w lv fs) (hb : Below w.heap.size w w') : Flds w' lv fs := by
  obtain ⟨A, c, e, h1, h2, h3, h4⟩ := h
  refine ⟨A, c, e, h1, h2, h3, fun h0 => ?_⟩
  obtain ⟨b, o, e2, hl, hc⟩ := h4 h0
  exact ⟨b, o, e2, Nat.lt_of_lt_of_le hl hb.size, fun i f hf j u hu => by rw [hb.cell (p := ⟨b, o + i * 37 + j, none⟩) hl]; exact hc i f hf j u hu⟩
end Go.Proofs.Ytiifdbagmbikpaa
