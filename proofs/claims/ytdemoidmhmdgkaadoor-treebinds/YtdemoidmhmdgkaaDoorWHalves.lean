/- The walk of TreeHalves. Conditions: the table of constants lies as it was laid. -/
import Derived.Test.YtdemoidmhmdgkaaDoorTAwake
namespace Go.Proofs.YtdemoidmhmdgkaaDoor
open Go.RowKit
set_option maxRecDepth 100000

theorem goes12 : Goes Tryd.prog 12 := goes_of Tryd.func12 (by kernel_rfl) rfl
theorem awake_call (w : World) (hk : Kept w) : Calls Tryd.prog 11 ([] : List Value).toArray w fun e w' => ∃ v, e = .returned v ∧ v = .bool true ∧ Below w.heap.size w w' := bool_call (awake_any w hk)
theorem half_call (n : Int) (w : World) (hn : n ≤ 4294967296) : Calls Tryd.prog 33 [Value.int .i64 n].toArray w fun e w' => ∃ v, e = .returned v ∧ Is (.int .i64 ((halfZ n : Nat) : Int)) w v w' := (half_any n w hn).mono (by rintro e w' ⟨rfl, rfl⟩; exact ⟨_, rfl, rfl, rfl⟩)
end Go.Proofs.YtdemoidmhmdgkaaDoor
