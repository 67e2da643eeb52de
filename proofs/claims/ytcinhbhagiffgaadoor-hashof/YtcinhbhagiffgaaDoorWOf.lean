/- The walks of HashOf and HashBits, given the contract of the document's own Of. Conditions: that contract; the table of constants lies as it was laid. -/
import Derived.Test.YtcinhbhagiffgaaDoorWNone
namespace Go.Proofs.YtcinhbhagiffgaaDoor
open Go.RowKit

/-- The contract of the document's own Of. -/
def RefOf : Prop := ∀ (s : ByteArray) (w : World), s.size ≤ 1000 → Calls Tryd.prog 14 #[.string s] w fun e w' => e = .returned (.string (S (Sha.sha (bl s)))) ∧ Below w.heap.size w w'

set_option maxRecDepth 100000 in
set_option maxHeartbeats 1000000 in
theorem of_walk (href : RefOf) (s : ByteArray) (w : World) (hk : Kept w) :
    Calls Tryd.prog 3 #[.string s] w fun e w' => e = .returned (.bool true) ∧ Below w.heap.size w w' := by
  have HRef := Lib.hid href
  have HK := Lib.hid hk
  clear hk href
  by_cases h200 : 200 < s.size
  · have t1 : decide ((s.size : Int) > 200) = true := by simp; omega
    go_enter Tryd.func3, Tryd.ntmps3
    go_wp2_with fail
    refine (awake_any _ HK.out).mono ?_
    rintro e w1 ⟨rfl, hb1⟩
    have HB1 := Lib.hid hb1
    clear hb1
    go_wp2
    go_ret
    exact ⟨rfl, HB1.out⟩
  · have t1 : decide ((s.size : Int) > 200) = false := by simp; omega
    go_enter Tryd.func3, Tryd.ntmps3
    go_wp2_with fail
    refine (awake_any _ HK.out).mono ?_
    rintro e w1 ⟨rfl, hb1⟩
    have HB1 := Lib.hid hb1
    clear hb1
    obtain ⟨W1, cc, hcv, hz1, hB1, hS1⟩ := conv_str w1 s (by unfold maxLen; omega)
    have HZ1 := Lib.hid hz1
    have HC1 := Lib.hid hB1
    have HS1 := Lib.hid hS1
    clear hz1 hB1 hS1
    go_wp2_with fail
    have hb2 : Below w.heap.size w (W1.alloc (.cells #[.slice (some ⟨w1.heap.size, 0, none⟩) s.size cc] 27)) :=
      (HB1.out.trans (HC1.out.mono HB1.out.size)).alloc (by have := HC1.out.size; have := HB1.out.size; omega) _
    refine (of_any [bl s] _ _ (parts_one HS1.out) (fun l hl => by rw [List.mem_singleton.1 hl]; exact bl_bytes s) (HK.out.below hb2 HK.out.pos) (by simp [bl_length]; omega)).mono ?_
    rintro e w3 ⟨rfl, hb3⟩
    rw [show [bl s].flatten = bl s from by simp]
    have HB3 := Lib.hid (hb2.trans (hb3.mono hb2.size))
    clear hb3 hb2 HB1 HC1 HS1 hcv
    go_wp2_with fail
    refine (str_any (Sha.sha (bl s)) Sha.Holds.sumText _).mono ?_
    rintro e w4 ⟨rfl, hb4⟩
    have HB4 := Lib.hid (HB3.out.trans (hb4.mono HB3.out.size))
    clear hb4 HB3
    go_wp2_with fail
    refine (HRef.out s w4 (by omega)).mono ?_
    rintro e w5 ⟨rfl, hb5⟩
    have HB5 := Lib.hid (HB4.out.trans (hb5.mono HB4.out.size))
    clear hb5 HB4
    generalize S (Sha.sha (bl s)) = X at *
    go_wp2
    go_ret
    exact ⟨rfl, HB5.out⟩
end Go.Proofs.YtcinhbhagiffgaaDoor
