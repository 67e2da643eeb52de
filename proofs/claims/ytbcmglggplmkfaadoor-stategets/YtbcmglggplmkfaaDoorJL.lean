/- What the card's listed table gives the walks: its 64 cells. No condition. -/
import Derived.Test.YtbcmglggplmkfaaDoorJC
import Derived.ProofKit
import Derived.LaidMore
import Derived.OpenShut
import Derived.ShutString
import Derived.Stop.Joined
import Derived.Test.YtbcmglggplmkfaaDoorJD
import Derived.Test.YtbcmglggplmkfaaDoorJE
import Derived.ChangeOld
import Derived.Below
namespace Go.Proofs.YtbcmglggplmkfaaDoor
open Go.ChangeShapes Go.WideShapes Go.ChangeAt Go.RowKit

def laidK : List (String × DataW Unit) := [("modillion/hash.constants", Rows.laid_modillion_hash_constants)]
theorem ownK : ownKnob Tryd.prog.godebug = none := by kernel_rfl
theorem gK : Tryd.prog.globalNamed "modillion/hash.constants" = some 0 := by kernel_rfl
theorem tK : (Tryd.prog.globals[0]?).map (·.type) = some 125 := by kernel_rfl
theorem c60 : Tryd.prog.cellsOf 91 = 1 := by kernel_rfl
theorem und60 : Tryd.prog.underlying 91 = some (.int .u32) := by kernel_rfl

theorem datum_is : (Rows.laid_modillion_hash_constants : DataW Unit) = .agg (Sha.K.map fun n : Nat => .lit (.int .u32 (n : Int))) := by rfl

/-- The door's ownK heap meets the condition. -/
theorem door_met (os : Os) (args : Array Value) : laidMetH Tryd.prog laidK ((World.doorLaid Tryd.prog 400 os).forCall (fun _ _ => 0) ⟨#[], args, []⟩).memory :=
  laidMetH_of_parts3 (fuel := 8) (laidMet_of_run' 8 (by kernel_rfl) (by kernel_rfl)) (by kernel_rfl) (by kernel_rfl)

/-- What the condition gives the walks: the table's cells. -/
theorem kept_of_laid {W : World} (h : laidMetH Tryd.prog laidK W) : Kept W := by
  rw [MakeChecks.laidMetH_plain _ _ _ (by kernel_rfl)] at h
  obtain ⟨ps, ⟨g0, t0, cs0, f0, p0, q0, hg0, ht0, hv0, hd0, _, _⟩, _, _⟩ := h
  obtain rfl := Option.some.inj (gK.symm.trans hg0)
  obtain rfl := Option.some.inj (tK.symm.trans ht0)
  obtain ⟨xs, m, _, hx, hlen, hn, hel⟩ := DataW.trod_array und69 hd0
  rw [datum_is] at hx
  simp only [Prod.mk.injEq, DataW.agg.injEq] at hx
  intro i hi
  have h1 := hel i hi
  rw [c60] at h1
  have hxi : xs[i]? = some (xs[i]'(by omega)) := List.getElem?_eq_getElem _
  rw [hxi] at h1
  obtain ⟨n, e1, e2, _⟩ := DataW.trod_int und60 h1
  have hK : i < Sha.K.length := hi
  have h2 : (xs.map (·.1))[i]? = some (.lit (.int .u32 (Sha.K.getD i 0 : Nat))) := by
    rw [← hx.1, List.getElem?_map, List.getElem?_eq_getElem hK, List.getD_eq_getElem?_getD, List.getElem?_eq_getElem hK]
    rfl
  rw [List.getElem?_map, hxi, e2] at h2
  have hnK : n = (Sha.K.getD i 0 : Nat) := by simpa using h2
  rw [World.var?_cell hg0 hv0 i]
  have h3 : cs0.toList[i]? = some (.int .u32 n) := by
    have := congrArg (fun l => l[0]?) e1
    simp only [List.getElem?_take, List.getElem?_drop, Nat.mul_one, Nat.add_zero] at this
    simpa using this
  rw [← hnK]
  simpa using h3
end Go.Proofs.YtbcmglggplmkfaaDoor
/- How an argument that is a sum comes in: 32 bytes. No condition. -/
namespace Go.Proofs.YtbcmglggplmkfaaDoor
open Go.ChangeShapes Go.WideShapes Go.ChangeAt Go.RowKit

theorem laidOut : laidOutB Tryd.prog = true := by kernel_rfl
theorem c5 : Tryd.prog.cellsOf 5 = 1 := by kernel_rfl
theorem und4 : Tryd.prog.underlying 4 = some .bool := by kernel_rfl

end Go.Proofs.YtbcmglggplmkfaaDoor
