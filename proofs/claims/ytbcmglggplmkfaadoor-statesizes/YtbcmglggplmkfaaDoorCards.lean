/-
  DERIVED. GIVEN WITH THE SEED: THE CARDS: each row of YtbcmglggplmkfaaDoorRows.lean that lists a variable, with what it lists TIED to the program's text (the seventh form; the later family's looks); each row that meets fmt, with fmt's text TOLD by the authors' own Lean function (tested against real Go, not proved from fmt's source: count such statements apart). THE CARD IS WHAT COUNTS. Prove the row's statement (the work); the ties are given (YtbcmglggplmkfaaDoorTie.lean); close each card by the builder's one call (the guide's Derived/Test/ToyasCard.lean, 'card_holds'). Laid BY PROGRAM, IN A SANDBOX (cutbox-door.mjs). By AI agents, Wed Nov 11 2026. No macro, syntax, notation, axiom, sorry.
-/
import Derived.Test.YtbcmglggplmkfaaDoorRows
import GoSem.ClaimSeven
namespace Go.Proofs.YtbcmglggplmkfaaDoor
namespace Rows

/-- THE TIED CARD OF 'modillionlaw10.StatePuts'. -/
def statePutsCard : Claim7 := { stood := { row := statePutsRow, standIns := [], harness := (true, "c4ab02a2bebbadcc41068b21e5434371a5e06e590a5ca936d894e98d07f906b4"), looks := false }, kinds := [], alts := [], laidByText := true, laidKinds := [.data], laidTests := true, laidLooks := .later }
def StatePutsCardSaid : Prop := Claim7.holds Tryd.pinned (.plain (OpenSpec.ofChange statePutsSpec)) statePutsCard

/-- THE TIED CARD OF 'modillionlaw10.StateGets'. -/
def stateGetsCard : Claim7 := { stood := { row := stateGetsRow, standIns := [], harness := (true, "c4ab02a2bebbadcc41068b21e5434371a5e06e590a5ca936d894e98d07f906b4"), looks := false }, kinds := [], alts := [], laidByText := true, laidKinds := [.data], laidTests := true, laidLooks := .later }
def StateGetsCardSaid : Prop := Claim7.holds Tryd.pinned (.plain (OpenSpec.ofChange stateGetsSpec)) stateGetsCard

/-- THE TIED CARD OF 'modillionlaw10.StateApart'. -/
def stateApartCard : Claim7 := { stood := { row := stateApartRow, standIns := [], harness := (true, "c4ab02a2bebbadcc41068b21e5434371a5e06e590a5ca936d894e98d07f906b4"), looks := false }, kinds := [], alts := [], laidByText := true, laidKinds := [.data], laidTests := true, laidLooks := .later }
def StateApartCardSaid : Prop := Claim7.holds Tryd.pinned (.plain (OpenSpec.ofChange stateApartSpec)) stateApartCard

/-- THE TIED CARD OF 'modillionlaw10.StateSplits'. -/
def stateSplitsCard : Claim7 := { stood := { row := stateSplitsRow, standIns := [], harness := (true, "c4ab02a2bebbadcc41068b21e5434371a5e06e590a5ca936d894e98d07f906b4"), looks := false }, kinds := [], alts := [], laidByText := true, laidKinds := [.data], laidTests := true, laidLooks := .later }
def StateSplitsCardSaid : Prop := Claim7.holds Tryd.pinned (.plain (OpenSpec.ofChange stateSplitsSpec)) stateSplitsCard

/-- THE TIED CARD OF 'modillionlaw10.StateSizes'. -/
def stateSizesCard : Claim7 := { stood := { row := stateSizesRow, standIns := [], harness := (true, "c4ab02a2bebbadcc41068b21e5434371a5e06e590a5ca936d894e98d07f906b4"), looks := false }, kinds := [], alts := [], laidByText := true, laidKinds := [.data], laidTests := true, laidLooks := .later }
def StateSizesCardSaid : Prop := Claim7.holds Tryd.pinned (.plain (OpenSpec.ofChange stateSizesSpec)) stateSizesCard

/-- THE TIED CARD OF 'modillionlaw10.StateRoots'. -/
def stateRootsCard : Claim7 := { stood := { row := stateRootsRow, standIns := [], harness := (true, "c4ab02a2bebbadcc41068b21e5434371a5e06e590a5ca936d894e98d07f906b4"), looks := false }, kinds := [], alts := [], laidByText := true, laidKinds := [.data], laidTests := true, laidLooks := .later }
def StateRootsCardSaid : Prop := Claim7.holds Tryd.pinned (.plain (OpenSpec.ofChange stateRootsSpec)) stateRootsCard

/-- THE SECOND FORM's CARD OF 'modillionlaw10.StatePuts'. -/
def statePutsUptoCard : Claim7 := { stood := { row := statePutsUptoRow, standIns := [], harness := (true, "c4ab02a2bebbadcc41068b21e5434371a5e06e590a5ca936d894e98d07f906b4"), looks := false }, kinds := [], alts := [], laidByText := true, laidKinds := [.data], laidTests := true, laidLooks := .later }
def StatePutsUptoCardSaid : Prop := Claim7.holds Tryd.pinned (.plain (OpenSpec.upto statePutsSpec)) statePutsUptoCard

/-- THE SECOND FORM's CARD OF 'modillionlaw10.StateGets'. -/
def stateGetsUptoCard : Claim7 := { stood := { row := stateGetsUptoRow, standIns := [], harness := (true, "c4ab02a2bebbadcc41068b21e5434371a5e06e590a5ca936d894e98d07f906b4"), looks := false }, kinds := [], alts := [], laidByText := true, laidKinds := [.data], laidTests := true, laidLooks := .later }
def StateGetsUptoCardSaid : Prop := Claim7.holds Tryd.pinned (.plain (OpenSpec.upto stateGetsSpec)) stateGetsUptoCard

/-- THE SECOND FORM's CARD OF 'modillionlaw10.StateApart'. -/
def stateApartUptoCard : Claim7 := { stood := { row := stateApartUptoRow, standIns := [], harness := (true, "c4ab02a2bebbadcc41068b21e5434371a5e06e590a5ca936d894e98d07f906b4"), looks := false }, kinds := [], alts := [], laidByText := true, laidKinds := [.data], laidTests := true, laidLooks := .later }
def StateApartUptoCardSaid : Prop := Claim7.holds Tryd.pinned (.plain (OpenSpec.upto stateApartSpec)) stateApartUptoCard

/-- THE SECOND FORM's CARD OF 'modillionlaw10.StateSplits'. -/
def stateSplitsUptoCard : Claim7 := { stood := { row := stateSplitsUptoRow, standIns := [], harness := (true, "c4ab02a2bebbadcc41068b21e5434371a5e06e590a5ca936d894e98d07f906b4"), looks := false }, kinds := [], alts := [], laidByText := true, laidKinds := [.data], laidTests := true, laidLooks := .later }
def StateSplitsUptoCardSaid : Prop := Claim7.holds Tryd.pinned (.plain (OpenSpec.upto stateSplitsSpec)) stateSplitsUptoCard

/-- THE SECOND FORM's CARD OF 'modillionlaw10.StateSizes'. -/
def stateSizesUptoCard : Claim7 := { stood := { row := stateSizesUptoRow, standIns := [], harness := (true, "c4ab02a2bebbadcc41068b21e5434371a5e06e590a5ca936d894e98d07f906b4"), looks := false }, kinds := [], alts := [], laidByText := true, laidKinds := [.data], laidTests := true, laidLooks := .later }
def StateSizesUptoCardSaid : Prop := Claim7.holds Tryd.pinned (.plain (OpenSpec.upto stateSizesSpec)) stateSizesUptoCard

/-- THE SECOND FORM's CARD OF 'modillionlaw10.StateRoots'. -/
def stateRootsUptoCard : Claim7 := { stood := { row := stateRootsUptoRow, standIns := [], harness := (true, "c4ab02a2bebbadcc41068b21e5434371a5e06e590a5ca936d894e98d07f906b4"), looks := false }, kinds := [], alts := [], laidByText := true, laidKinds := [.data], laidTests := true, laidLooks := .later }
def StateRootsUptoCardSaid : Prop := Claim7.holds Tryd.pinned (.plain (OpenSpec.upto stateRootsSpec)) stateRootsUptoCard
end Rows
end Go.Proofs.YtbcmglggplmkfaaDoor
