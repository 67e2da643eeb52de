/-
  DERIVED. GIVEN WITH THE SEED: THE CARDS: each row of YtooeahpkhocaeaaGreatDoorRows.lean that lists a variable, with what it lists TIED to the program's text (the seventh form; the later family's looks); each row that meets fmt, with fmt's text TOLD by the authors' own Lean function (tested against real Go, not proved from fmt's source: count such statements apart). THE CARD IS WHAT COUNTS. Prove the row's statement (the work); the ties are given (YtooeahpkhocaeaaGreatDoorTie.lean); close each card by the builder's one call (the guide's Derived/Test/ToyasCard.lean, 'card_holds'). Laid BY PROGRAM, IN A SANDBOX (cutbox-door.mjs). By AI agents, Wed Nov 11 2026. No macro, syntax, notation, axiom, sorry.
-/
import Derived.Test.YtooeahpkhocaeaaGreatDoorRows
import GoSem.ClaimSeven
namespace Go.Proofs.YtooeahpkhocaeaaGreatDoor
namespace Rows

/-- THE TIED CARD OF 'modillionlaw12.CommitMakes'. -/
def commitMakesCard : Claim7 := { stood := { row := commitMakesRow, standIns := [], harness := (true, "29d7e899a7f632407a2f835e3a8c66664686793b6357777a7805086a736afeae"), looks := false }, kinds := [], alts := [], laidByText := true, laidKinds := [.data], laidTests := true, laidLooks := .later }
def CommitMakesCardSaid : Prop := Claim7.holds Tryz.pinned (.plain (OpenSpec.ofChange commitMakesSpec)) commitMakesCard

/-- THE SECOND FORM's CARD OF 'modillionlaw12.CommitMakes'. -/
def commitMakesUptoCard : Claim7 := { stood := { row := commitMakesUptoRow, standIns := [], harness := (true, "29d7e899a7f632407a2f835e3a8c66664686793b6357777a7805086a736afeae"), looks := false }, kinds := [], alts := [], laidByText := true, laidKinds := [.data], laidTests := true, laidLooks := .later }
def CommitMakesUptoCardSaid : Prop := Claim7.holds Tryz.pinned (.plain (OpenSpec.upto commitMakesSpec)) commitMakesUptoCard
end Rows
end Go.Proofs.YtooeahpkhocaeaaGreatDoor
