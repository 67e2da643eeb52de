/-
  DERIVED. GIVEN WITH THE SEED: THE CARDS: each row of YtdemoidmhmdgkaaDoorRows.lean that lists a variable, with what it lists TIED to the program's text (the seventh form; the later family's looks); each row that meets fmt, with fmt's text TOLD by the authors' own Lean function (tested against real Go, not proved from fmt's source: count such statements apart). THE CARD IS WHAT COUNTS. Prove the row's statement (the work); the ties are given (YtdemoidmhmdgkaaDoorTie.lean); close each card by the builder's one call (the guide's Derived/Test/ToyasCard.lean, 'card_holds'). Laid BY PROGRAM, IN A SANDBOX (cutbox-door.mjs). By AI agents, Wed Nov 11 2026. No macro, syntax, notation, axiom, sorry.
-/
import Derived.Test.YtdemoidmhmdgkaaDoorRows
import GoSem.ClaimSeven
namespace Go.Proofs.YtdemoidmhmdgkaaDoor
namespace Rows

/-- THE TIED CARD OF 'modillionlaw03.TreeApart'. -/
def treeApartCard : Claim7 := { stood := { row := treeApartRow, standIns := [], harness := (true, "b2c8fed213ee980e0ab63a2a039ee5d5ab1114ebd624bcbb9a4a0b4d82752de7"), looks := false }, kinds := [], alts := [], laidByText := true, laidKinds := [.data], laidTests := true, laidLooks := .later }
def TreeApartCardSaid : Prop := Claim7.holds Tryd.pinned (.plain (OpenSpec.ofChange treeApartSpec)) treeApartCard

/-- THE TIED CARD OF 'modillionlaw03.TreeBinds'. -/
def treeBindsCard : Claim7 := { stood := { row := treeBindsRow, standIns := [], harness := (true, "b2c8fed213ee980e0ab63a2a039ee5d5ab1114ebd624bcbb9a4a0b4d82752de7"), looks := false }, kinds := [], alts := [], laidByText := true, laidKinds := [.data], laidTests := true, laidLooks := .later }
def TreeBindsCardSaid : Prop := Claim7.holds Tryd.pinned (.plain (OpenSpec.ofChange treeBindsSpec)) treeBindsCard

/-- THE TIED CARD OF 'modillionlaw04.ManyProves'. -/
def manyProvesCard : Claim7 := { stood := { row := manyProvesRow, standIns := [], harness := (true, "b2c8fed213ee980e0ab63a2a039ee5d5ab1114ebd624bcbb9a4a0b4d82752de7"), looks := false }, kinds := [], alts := [], laidByText := true, laidKinds := [.data], laidTests := true, laidLooks := .later }
def ManyProvesCardSaid : Prop := Claim7.holds Tryd.pinned (.plain (OpenSpec.ofChange manyProvesSpec)) manyProvesCard

/-- THE TIED CARD OF 'modillionlaw04.ManyChecks'. -/
def manyChecksCard : Claim7 := { stood := { row := manyChecksRow, standIns := [], harness := (true, "b2c8fed213ee980e0ab63a2a039ee5d5ab1114ebd624bcbb9a4a0b4d82752de7"), looks := false }, kinds := [], alts := [], laidByText := true, laidKinds := [.data], laidTests := true, laidLooks := .later }
def ManyChecksCardSaid : Prop := Claim7.holds Tryd.pinned (.plain (OpenSpec.ofChange manyChecksSpec)) manyChecksCard

/-- THE TIED CARD OF 'modillionlaw04.ManyOne'. -/
def manyOneCard : Claim7 := { stood := { row := manyOneRow, standIns := [], harness := (true, "b2c8fed213ee980e0ab63a2a039ee5d5ab1114ebd624bcbb9a4a0b4d82752de7"), looks := false }, kinds := [], alts := [], laidByText := true, laidKinds := [.data], laidTests := true, laidLooks := .later }
def ManyOneCardSaid : Prop := Claim7.holds Tryd.pinned (.plain (OpenSpec.ofChange manyOneSpec)) manyOneCard

/-- THE TIED CARD OF 'modillionlaw04.ManyAll'. -/
def manyAllCard : Claim7 := { stood := { row := manyAllRow, standIns := [], harness := (true, "b2c8fed213ee980e0ab63a2a039ee5d5ab1114ebd624bcbb9a4a0b4d82752de7"), looks := false }, kinds := [], alts := [], laidByText := true, laidKinds := [.data], laidTests := true, laidLooks := .later }
def ManyAllCardSaid : Prop := Claim7.holds Tryd.pinned (.plain (OpenSpec.ofChange manyAllSpec)) manyAllCard

/-- THE TIED CARD OF 'modillionlaw04.ManyFewer'. -/
def manyFewerCard : Claim7 := { stood := { row := manyFewerRow, standIns := [], harness := (true, "b2c8fed213ee980e0ab63a2a039ee5d5ab1114ebd624bcbb9a4a0b4d82752de7"), looks := false }, kinds := [], alts := [], laidByText := true, laidKinds := [.data], laidTests := true, laidLooks := .later }
def ManyFewerCardSaid : Prop := Claim7.holds Tryd.pinned (.plain (OpenSpec.ofChange manyFewerSpec)) manyFewerCard

/-- THE TIED CARD OF 'modillionlaw04.ManyTurned'. -/
def manyTurnedCard : Claim7 := { stood := { row := manyTurnedRow, standIns := [], harness := (true, "b2c8fed213ee980e0ab63a2a039ee5d5ab1114ebd624bcbb9a4a0b4d82752de7"), looks := false }, kinds := [], alts := [], laidByText := true, laidKinds := [.data], laidTests := true, laidLooks := .later }
def ManyTurnedCardSaid : Prop := Claim7.holds Tryd.pinned (.plain (OpenSpec.ofChange manyTurnedSpec)) manyTurnedCard

/-- THE SECOND FORM's CARD OF 'modillionlaw03.TreeApart'. -/
def treeApartUptoCard : Claim7 := { stood := { row := treeApartUptoRow, standIns := [], harness := (true, "b2c8fed213ee980e0ab63a2a039ee5d5ab1114ebd624bcbb9a4a0b4d82752de7"), looks := false }, kinds := [], alts := [], laidByText := true, laidKinds := [.data], laidTests := true, laidLooks := .later }
def TreeApartUptoCardSaid : Prop := Claim7.holds Tryd.pinned (.plain (OpenSpec.upto treeApartSpec)) treeApartUptoCard

/-- THE SECOND FORM's CARD OF 'modillionlaw03.TreeBinds'. -/
def treeBindsUptoCard : Claim7 := { stood := { row := treeBindsUptoRow, standIns := [], harness := (true, "b2c8fed213ee980e0ab63a2a039ee5d5ab1114ebd624bcbb9a4a0b4d82752de7"), looks := false }, kinds := [], alts := [], laidByText := true, laidKinds := [.data], laidTests := true, laidLooks := .later }
def TreeBindsUptoCardSaid : Prop := Claim7.holds Tryd.pinned (.plain (OpenSpec.upto treeBindsSpec)) treeBindsUptoCard

/-- THE SECOND FORM's CARD OF 'modillionlaw04.ManyProves'. -/
def manyProvesUptoCard : Claim7 := { stood := { row := manyProvesUptoRow, standIns := [], harness := (true, "b2c8fed213ee980e0ab63a2a039ee5d5ab1114ebd624bcbb9a4a0b4d82752de7"), looks := false }, kinds := [], alts := [], laidByText := true, laidKinds := [.data], laidTests := true, laidLooks := .later }
def ManyProvesUptoCardSaid : Prop := Claim7.holds Tryd.pinned (.plain (OpenSpec.upto manyProvesSpec)) manyProvesUptoCard

/-- THE SECOND FORM's CARD OF 'modillionlaw04.ManyChecks'. -/
def manyChecksUptoCard : Claim7 := { stood := { row := manyChecksUptoRow, standIns := [], harness := (true, "b2c8fed213ee980e0ab63a2a039ee5d5ab1114ebd624bcbb9a4a0b4d82752de7"), looks := false }, kinds := [], alts := [], laidByText := true, laidKinds := [.data], laidTests := true, laidLooks := .later }
def ManyChecksUptoCardSaid : Prop := Claim7.holds Tryd.pinned (.plain (OpenSpec.upto manyChecksSpec)) manyChecksUptoCard

/-- THE SECOND FORM's CARD OF 'modillionlaw04.ManyOne'. -/
def manyOneUptoCard : Claim7 := { stood := { row := manyOneUptoRow, standIns := [], harness := (true, "b2c8fed213ee980e0ab63a2a039ee5d5ab1114ebd624bcbb9a4a0b4d82752de7"), looks := false }, kinds := [], alts := [], laidByText := true, laidKinds := [.data], laidTests := true, laidLooks := .later }
def ManyOneUptoCardSaid : Prop := Claim7.holds Tryd.pinned (.plain (OpenSpec.upto manyOneSpec)) manyOneUptoCard

/-- THE SECOND FORM's CARD OF 'modillionlaw04.ManyAll'. -/
def manyAllUptoCard : Claim7 := { stood := { row := manyAllUptoRow, standIns := [], harness := (true, "b2c8fed213ee980e0ab63a2a039ee5d5ab1114ebd624bcbb9a4a0b4d82752de7"), looks := false }, kinds := [], alts := [], laidByText := true, laidKinds := [.data], laidTests := true, laidLooks := .later }
def ManyAllUptoCardSaid : Prop := Claim7.holds Tryd.pinned (.plain (OpenSpec.upto manyAllSpec)) manyAllUptoCard

/-- THE SECOND FORM's CARD OF 'modillionlaw04.ManyFewer'. -/
def manyFewerUptoCard : Claim7 := { stood := { row := manyFewerUptoRow, standIns := [], harness := (true, "b2c8fed213ee980e0ab63a2a039ee5d5ab1114ebd624bcbb9a4a0b4d82752de7"), looks := false }, kinds := [], alts := [], laidByText := true, laidKinds := [.data], laidTests := true, laidLooks := .later }
def ManyFewerUptoCardSaid : Prop := Claim7.holds Tryd.pinned (.plain (OpenSpec.upto manyFewerSpec)) manyFewerUptoCard

/-- THE SECOND FORM's CARD OF 'modillionlaw04.ManyTurned'. -/
def manyTurnedUptoCard : Claim7 := { stood := { row := manyTurnedUptoRow, standIns := [], harness := (true, "b2c8fed213ee980e0ab63a2a039ee5d5ab1114ebd624bcbb9a4a0b4d82752de7"), looks := false }, kinds := [], alts := [], laidByText := true, laidKinds := [.data], laidTests := true, laidLooks := .later }
def ManyTurnedUptoCardSaid : Prop := Claim7.holds Tryd.pinned (.plain (OpenSpec.upto manyTurnedSpec)) manyTurnedUptoCard
end Rows
end Go.Proofs.YtdemoidmhmdgkaaDoor
