/-
  DERIVED. GIVEN WITH THE SEED: THE CARDS: each row of YtooeahpkhocaeaaDoorRows.lean that lists a variable, with what it lists TIED to the program's text (the seventh form; the later family's looks); each row that meets fmt, with fmt's text TOLD by the authors' own Lean function (tested against real Go, not proved from fmt's source: count such statements apart). THE CARD IS WHAT COUNTS. Prove the row's statement (the work); the ties are given (YtooeahpkhocaeaaDoorTie.lean); close each card by the builder's one call (the guide's Derived/Test/ToyasCard.lean, 'card_holds'). Laid BY PROGRAM, IN A SANDBOX (cutbox-door.mjs). By AI agents, Wed Nov 11 2026. No macro, syntax, notation, axiom, sorry.
-/
import Derived.Test.YtooeahpkhocaeaaDoorRows
import GoSem.ClaimSeven
namespace Go.Proofs.YtooeahpkhocaeaaDoor
namespace Rows

/-- THE TIED CARD OF 'modillionlaw12.CommitPuts'. -/
def commitPutsCard : Claim7 := { stood := { row := commitPutsRow, standIns := [], harness := (true, "7d258626222f1dfcae4ee018db9df8587b8b3f846b020cb500580ca78a81c186"), looks := false }, kinds := [], alts := [], laidByText := true, laidKinds := [.data], laidTests := true, laidLooks := .later }
def CommitPutsCardSaid : Prop := Claim7.holds Tryd.pinned (.plain (OpenSpec.ofChange commitPutsSpec)) commitPutsCard

/-- THE TIED CARD OF 'modillionlaw12.CommitGets'. -/
def commitGetsCard : Claim7 := { stood := { row := commitGetsRow, standIns := [], harness := (true, "7d258626222f1dfcae4ee018db9df8587b8b3f846b020cb500580ca78a81c186"), looks := false }, kinds := [], alts := [], laidByText := true, laidKinds := [.data], laidTests := true, laidLooks := .later }
def CommitGetsCardSaid : Prop := Claim7.holds Tryd.pinned (.plain (OpenSpec.ofChange commitGetsSpec)) commitGetsCard

/-- THE TIED CARD OF 'modillionlaw12.CommitApart'. -/
def commitApartCard : Claim7 := { stood := { row := commitApartRow, standIns := [], harness := (true, "7d258626222f1dfcae4ee018db9df8587b8b3f846b020cb500580ca78a81c186"), looks := false }, kinds := [], alts := [], laidByText := true, laidKinds := [.data], laidTests := true, laidLooks := .later }
def CommitApartCardSaid : Prop := Claim7.holds Tryd.pinned (.plain (OpenSpec.ofChange commitApartSpec)) commitApartCard

/-- THE TIED CARD OF 'modillionlaw12.CommitKept'. -/
def commitKeptCard : Claim7 := { stood := { row := commitKeptRow, standIns := [], harness := (true, "7d258626222f1dfcae4ee018db9df8587b8b3f846b020cb500580ca78a81c186"), looks := false }, kinds := [], alts := [], laidByText := true, laidKinds := [.data], laidTests := true, laidLooks := .later }
def CommitKeptCardSaid : Prop := Claim7.holds Tryd.pinned (.plain (OpenSpec.ofChange commitKeptSpec)) commitKeptCard

/-- THE TIED CARD OF 'modillionlaw12.CommitCuts'. -/
def commitCutsCard : Claim7 := { stood := { row := commitCutsRow, standIns := [], harness := (true, "7d258626222f1dfcae4ee018db9df8587b8b3f846b020cb500580ca78a81c186"), looks := false }, kinds := [], alts := [], laidByText := true, laidKinds := [.data], laidTests := true, laidLooks := .later }
def CommitCutsCardSaid : Prop := Claim7.holds Tryd.pinned (.plain (OpenSpec.ofChange commitCutsSpec)) commitCutsCard

/-- THE SECOND FORM's CARD OF 'modillionlaw12.CommitPuts'. -/
def commitPutsUptoCard : Claim7 := { stood := { row := commitPutsUptoRow, standIns := [], harness := (true, "7d258626222f1dfcae4ee018db9df8587b8b3f846b020cb500580ca78a81c186"), looks := false }, kinds := [], alts := [], laidByText := true, laidKinds := [.data], laidTests := true, laidLooks := .later }
def CommitPutsUptoCardSaid : Prop := Claim7.holds Tryd.pinned (.plain (OpenSpec.upto commitPutsSpec)) commitPutsUptoCard

/-- THE SECOND FORM's CARD OF 'modillionlaw12.CommitGets'. -/
def commitGetsUptoCard : Claim7 := { stood := { row := commitGetsUptoRow, standIns := [], harness := (true, "7d258626222f1dfcae4ee018db9df8587b8b3f846b020cb500580ca78a81c186"), looks := false }, kinds := [], alts := [], laidByText := true, laidKinds := [.data], laidTests := true, laidLooks := .later }
def CommitGetsUptoCardSaid : Prop := Claim7.holds Tryd.pinned (.plain (OpenSpec.upto commitGetsSpec)) commitGetsUptoCard

/-- THE SECOND FORM's CARD OF 'modillionlaw12.CommitApart'. -/
def commitApartUptoCard : Claim7 := { stood := { row := commitApartUptoRow, standIns := [], harness := (true, "7d258626222f1dfcae4ee018db9df8587b8b3f846b020cb500580ca78a81c186"), looks := false }, kinds := [], alts := [], laidByText := true, laidKinds := [.data], laidTests := true, laidLooks := .later }
def CommitApartUptoCardSaid : Prop := Claim7.holds Tryd.pinned (.plain (OpenSpec.upto commitApartSpec)) commitApartUptoCard

/-- THE SECOND FORM's CARD OF 'modillionlaw12.CommitKept'. -/
def commitKeptUptoCard : Claim7 := { stood := { row := commitKeptUptoRow, standIns := [], harness := (true, "7d258626222f1dfcae4ee018db9df8587b8b3f846b020cb500580ca78a81c186"), looks := false }, kinds := [], alts := [], laidByText := true, laidKinds := [.data], laidTests := true, laidLooks := .later }
def CommitKeptUptoCardSaid : Prop := Claim7.holds Tryd.pinned (.plain (OpenSpec.upto commitKeptSpec)) commitKeptUptoCard

/-- THE SECOND FORM's CARD OF 'modillionlaw12.CommitCuts'. -/
def commitCutsUptoCard : Claim7 := { stood := { row := commitCutsUptoRow, standIns := [], harness := (true, "7d258626222f1dfcae4ee018db9df8587b8b3f846b020cb500580ca78a81c186"), looks := false }, kinds := [], alts := [], laidByText := true, laidKinds := [.data], laidTests := true, laidLooks := .later }
def CommitCutsUptoCardSaid : Prop := Claim7.holds Tryd.pinned (.plain (OpenSpec.upto commitCutsSpec)) commitCutsUptoCard
end Rows
end Go.Proofs.YtooeahpkhocaeaaDoor
