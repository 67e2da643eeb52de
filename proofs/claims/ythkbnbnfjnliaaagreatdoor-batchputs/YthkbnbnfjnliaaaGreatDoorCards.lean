/-
  DERIVED. GIVEN WITH THE SEED: THE CARDS: each row of YthkbnbnfjnliaaaGreatDoorRows.lean that lists a variable, with what it lists TIED to the program's text (the seventh form; the later family's looks); each row that meets fmt, with fmt's text TOLD by the authors' own Lean function (tested against real Go, not proved from fmt's source: count such statements apart). THE CARD IS WHAT COUNTS. Prove the row's statement (the work); the ties are given (YthkbnbnfjnliaaaGreatDoorTie.lean); close each card by the builder's one call (the guide's Derived/Test/ToyasCard.lean, 'card_holds'). Laid BY PROGRAM, IN A SANDBOX (cutbox-door.mjs). By AI agents, Wed Nov 11 2026. No macro, syntax, notation, axiom, sorry.
-/
import Derived.Test.YthkbnbnfjnliaaaGreatDoorRows
import GoSem.ClaimSeven
namespace Go.Proofs.YthkbnbnfjnliaaaGreatDoor
namespace Rows

/-- THE TIED CARD OF 'modillionlaw11.BatchPuts'. -/
def batchPutsCard : Claim7 := { stood := { row := batchPutsRow, standIns := [], harness := (true, "5d28b6093205e39f22f52be0157c273b67881b089ee4dde7e7079bf3dfb6c1e5"), looks := false }, kinds := [], alts := [], laidByText := true, laidKinds := [.data], laidTests := true, laidLooks := .later }
def BatchPutsCardSaid : Prop := Claim7.holds Tryz.pinned (.plain (OpenSpec.ofChange batchPutsSpec)) batchPutsCard

/-- THE TIED CARD OF 'modillionlaw11.BatchGets'. -/
def batchGetsCard : Claim7 := { stood := { row := batchGetsRow, standIns := [], harness := (true, "5d28b6093205e39f22f52be0157c273b67881b089ee4dde7e7079bf3dfb6c1e5"), looks := false }, kinds := [], alts := [], laidByText := true, laidKinds := [.data], laidTests := true, laidLooks := .later }
def BatchGetsCardSaid : Prop := Claim7.holds Tryz.pinned (.plain (OpenSpec.ofChange batchGetsSpec)) batchGetsCard

/-- THE TIED CARD OF 'modillionlaw11.BatchTurned'. -/
def batchTurnedCard : Claim7 := { stood := { row := batchTurnedRow, standIns := [], harness := (true, "5d28b6093205e39f22f52be0157c273b67881b089ee4dde7e7079bf3dfb6c1e5"), looks := false }, kinds := [], alts := [], laidByText := true, laidKinds := [.data], laidTests := true, laidLooks := .later }
def BatchTurnedCardSaid : Prop := Claim7.holds Tryz.pinned (.plain (OpenSpec.ofChange batchTurnedSpec)) batchTurnedCard

/-- THE TIED CARD OF 'modillionlaw11.BatchApart'. -/
def batchApartCard : Claim7 := { stood := { row := batchApartRow, standIns := [], harness := (true, "5d28b6093205e39f22f52be0157c273b67881b089ee4dde7e7079bf3dfb6c1e5"), looks := false }, kinds := [], alts := [], laidByText := true, laidKinds := [.data], laidTests := true, laidLooks := .later }
def BatchApartCardSaid : Prop := Claim7.holds Tryz.pinned (.plain (OpenSpec.ofChange batchApartSpec)) batchApartCard

/-- THE TIED CARD OF 'modillionlaw11.BatchRows'. -/
def batchRowsCard : Claim7 := { stood := { row := batchRowsRow, standIns := [], harness := (true, "5d28b6093205e39f22f52be0157c273b67881b089ee4dde7e7079bf3dfb6c1e5"), looks := false }, kinds := [], alts := [], laidByText := true, laidKinds := [.data], laidTests := true, laidLooks := .later }
def BatchRowsCardSaid : Prop := Claim7.holds Tryz.pinned (.plain (OpenSpec.ofChange batchRowsSpec)) batchRowsCard

/-- THE TIED CARD OF 'modillionlaw11.BatchLess'. -/
def batchLessCard : Claim7 := { stood := { row := batchLessRow, standIns := [], harness := (true, "5d28b6093205e39f22f52be0157c273b67881b089ee4dde7e7079bf3dfb6c1e5"), looks := false }, kinds := [], alts := [], laidByText := true, laidKinds := [.data], laidTests := true, laidLooks := .later }
def BatchLessCardSaid : Prop := Claim7.holds Tryz.pinned (.plain (OpenSpec.ofChange batchLessSpec)) batchLessCard

/-- THE SECOND FORM's CARD OF 'modillionlaw11.BatchPuts'. -/
def batchPutsUptoCard : Claim7 := { stood := { row := batchPutsUptoRow, standIns := [], harness := (true, "5d28b6093205e39f22f52be0157c273b67881b089ee4dde7e7079bf3dfb6c1e5"), looks := false }, kinds := [], alts := [], laidByText := true, laidKinds := [.data], laidTests := true, laidLooks := .later }
def BatchPutsUptoCardSaid : Prop := Claim7.holds Tryz.pinned (.plain (OpenSpec.upto batchPutsSpec)) batchPutsUptoCard

/-- THE SECOND FORM's CARD OF 'modillionlaw11.BatchGets'. -/
def batchGetsUptoCard : Claim7 := { stood := { row := batchGetsUptoRow, standIns := [], harness := (true, "5d28b6093205e39f22f52be0157c273b67881b089ee4dde7e7079bf3dfb6c1e5"), looks := false }, kinds := [], alts := [], laidByText := true, laidKinds := [.data], laidTests := true, laidLooks := .later }
def BatchGetsUptoCardSaid : Prop := Claim7.holds Tryz.pinned (.plain (OpenSpec.upto batchGetsSpec)) batchGetsUptoCard

/-- THE SECOND FORM's CARD OF 'modillionlaw11.BatchTurned'. -/
def batchTurnedUptoCard : Claim7 := { stood := { row := batchTurnedUptoRow, standIns := [], harness := (true, "5d28b6093205e39f22f52be0157c273b67881b089ee4dde7e7079bf3dfb6c1e5"), looks := false }, kinds := [], alts := [], laidByText := true, laidKinds := [.data], laidTests := true, laidLooks := .later }
def BatchTurnedUptoCardSaid : Prop := Claim7.holds Tryz.pinned (.plain (OpenSpec.upto batchTurnedSpec)) batchTurnedUptoCard

/-- THE SECOND FORM's CARD OF 'modillionlaw11.BatchApart'. -/
def batchApartUptoCard : Claim7 := { stood := { row := batchApartUptoRow, standIns := [], harness := (true, "5d28b6093205e39f22f52be0157c273b67881b089ee4dde7e7079bf3dfb6c1e5"), looks := false }, kinds := [], alts := [], laidByText := true, laidKinds := [.data], laidTests := true, laidLooks := .later }
def BatchApartUptoCardSaid : Prop := Claim7.holds Tryz.pinned (.plain (OpenSpec.upto batchApartSpec)) batchApartUptoCard

/-- THE SECOND FORM's CARD OF 'modillionlaw11.BatchRows'. -/
def batchRowsUptoCard : Claim7 := { stood := { row := batchRowsUptoRow, standIns := [], harness := (true, "5d28b6093205e39f22f52be0157c273b67881b089ee4dde7e7079bf3dfb6c1e5"), looks := false }, kinds := [], alts := [], laidByText := true, laidKinds := [.data], laidTests := true, laidLooks := .later }
def BatchRowsUptoCardSaid : Prop := Claim7.holds Tryz.pinned (.plain (OpenSpec.upto batchRowsSpec)) batchRowsUptoCard

/-- THE SECOND FORM's CARD OF 'modillionlaw11.BatchLess'. -/
def batchLessUptoCard : Claim7 := { stood := { row := batchLessUptoRow, standIns := [], harness := (true, "5d28b6093205e39f22f52be0157c273b67881b089ee4dde7e7079bf3dfb6c1e5"), looks := false }, kinds := [], alts := [], laidByText := true, laidKinds := [.data], laidTests := true, laidLooks := .later }
def BatchLessUptoCardSaid : Prop := Claim7.holds Tryz.pinned (.plain (OpenSpec.upto batchLessSpec)) batchLessUptoCard
end Rows
end Go.Proofs.YthkbnbnfjnliaaaGreatDoor
