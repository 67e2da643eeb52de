/- The contracts of the document's own Int, Text and Put. Conditions: a field; a text of at most 300 bytes. -/
import Derived.Test.YthkbnbnfjnliaaaDoorJ35
namespace Go.Proofs.YthkbnbnfjnliaaaDoor
open Go.RowKit
set_option maxRecDepth 100000

theorem refInt_any (n : Int) (w : World) (h1 : -9223372036854775808 ≤ n) (h2 : n ≤ 9223372036854775807) :
    Calls Tryd.prog 45 #[.int .i64 n] w fun e w' => e = .returned (.string (S (Wire.num (Wire.fold n)))) ∧ Below w.heap.size w w' := by
  have hlt := Wire.fold_lt n h1 h2
  by_cases h : 0 ≤ n
  · have he : 2 * n = ((Wire.fold n : Nat) : Int) := by unfold Wire.fold; rw [if_pos h]; omega
    have HC := Lib.hid (refNum_any (Wire.fold n) w hlt)
    generalize Wire.fold n = y at *
    go_enter Tryd.func45, Tryd.ntmps45
    go_wp2_with fail
    refine HC.out.mono ?_
    rintro e w1 ⟨rfl, hb⟩
    go_wp2
    go_ret
    exact ⟨rfl, hb⟩
  · have he : 2 * (-1 - n) + 1 = ((Wire.fold n : Nat) : Int) := by unfold Wire.fold; rw [if_neg h]; omega
    have HC := Lib.hid (refNum_any (Wire.fold n) w hlt)
    generalize Wire.fold n = y at *
    go_enter Tryd.func45, Tryd.ntmps45
    go_wp2_with fail
    refine HC.out.mono ?_
    rintro e w1 ⟨rfl, hb⟩
    go_wp2
    go_ret
    exact ⟨rfl, hb⟩
end Go.Proofs.YthkbnbnfjnliaaaDoor
