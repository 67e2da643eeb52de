/-
  NARROWER THAN 'FOR EVERY INPUT', by the rows' own cells (each row's printed sentence says how): StatePuts: laid · StateGets: laid · StateApart: laid · StateSplits: laid · StateSizes: laid · StateRoots: laid.
  DERIVED. THE GIVEN ROWS OF THIS SEAT. 6 by the template 'for every input the law returns true; each argument reads behind the call as it read before'; 0 by the template 'total and deterministic' (their statements: YtbcmglggplmkfaaDoorTotals.lean).
  GIVEN WITH THE SEED: the statements are not yours to turn. If you find one false, say at which input.
  Laid BY PROGRAM, IN A SANDBOX (cutbox-rows.mjs): the forced cells as the released guide's own fill.sh prints them over the translation 8f8f9e488a2952e4… (all of the seat's roots in one cut). By AI agents, Wed Nov 11 2026. No macro, syntax, notation, axiom, sorry.
-/
import Derived.Test.YtbcmglggplmkfaaDoorChecked
import GoSem.Claim
import GoSem.ClaimJoined
import GoSem.ClaimMapViews
import Derived.JoinedTies
import Derived.KernelRfl
namespace Go.Proofs.YtbcmglggplmkfaaDoor
/- THE CELL 'sum', in the pinned program and in every row, IS THE sha256 OF THE DUMP (.gsa) THAT YtbcmglggplmkfaaDoorProg.lean LOADS. Nothing in Lean hashes anything: it is a label: what it is worth is what the hold of that sum in a sandbox is worth. -/
noncomputable def Tryd.pinned : Pinned := { name := "ytbcmglggplmkfaadoor", sum := "8f8f9e488a2952e4182314f8904884c402d255f015dc0caa62da295ce0574ada", checked := Tryd.checked }
namespace Rows
def none {H : Type} : Left H := { results := [], args := [] }

/- WHAT THE LISTED PACKAGE-LEVEL VARIABLES READ AS WHEN THE CALL BEGINS. Each datum BY PROGRAM (the guide's laid-datum.mjs) off the statement by which the dump's own 'gosem.cut.vars' lays the variable. In a bare row this is a premise. The card (YtbcmglggplmkfaaDoorCards.lean) ties it to the program's text. -/
def laid_modillion_hash_constants {H : Type} : DataW H := .agg [.lit (.int .u32 1116352408), .lit (.int .u32 1899447441), .lit (.int .u32 3049323471), .lit (.int .u32 3921009573), .lit (.int .u32 961987163), .lit (.int .u32 1508970993), .lit (.int .u32 2453635748), .lit (.int .u32 2870763221), .lit (.int .u32 3624381080), .lit (.int .u32 310598401), .lit (.int .u32 607225278), .lit (.int .u32 1426881987), .lit (.int .u32 1925078388), .lit (.int .u32 2162078206), .lit (.int .u32 2614888103), .lit (.int .u32 3248222580), .lit (.int .u32 3835390401), .lit (.int .u32 4022224774), .lit (.int .u32 264347078), .lit (.int .u32 604807628), .lit (.int .u32 770255983), .lit (.int .u32 1249150122), .lit (.int .u32 1555081692), .lit (.int .u32 1996064986), .lit (.int .u32 2554220882), .lit (.int .u32 2821834349), .lit (.int .u32 2952996808), .lit (.int .u32 3210313671), .lit (.int .u32 3336571891), .lit (.int .u32 3584528711), .lit (.int .u32 113926993), .lit (.int .u32 338241895), .lit (.int .u32 666307205), .lit (.int .u32 773529912), .lit (.int .u32 1294757372), .lit (.int .u32 1396182291), .lit (.int .u32 1695183700), .lit (.int .u32 1986661051), .lit (.int .u32 2177026350), .lit (.int .u32 2456956037), .lit (.int .u32 2730485921), .lit (.int .u32 2820302411), .lit (.int .u32 3259730800), .lit (.int .u32 3345764771), .lit (.int .u32 3516065817), .lit (.int .u32 3600352804), .lit (.int .u32 4094571909), .lit (.int .u32 275423344), .lit (.int .u32 430227734), .lit (.int .u32 506948616), .lit (.int .u32 659060556), .lit (.int .u32 883997877), .lit (.int .u32 958139571), .lit (.int .u32 1322822218), .lit (.int .u32 1537002063), .lit (.int .u32 1747873779), .lit (.int .u32 1955562222), .lit (.int .u32 2024104815), .lit (.int .u32 2227730452), .lit (.int .u32 2361852424), .lit (.int .u32 2428436474), .lit (.int .u32 2756734187), .lit (.int .u32 3204031479), .lit (.int .u32 3329325298)]

/-- 'modillionlaw10.StatePuts': WHATEVER THE INPUT: true; the input reads as it did. -/
def statePutsSpec : ChangeSpec := { name := "statePuts", fn := fun _ => fun
  | [d] => { results := [.lit (.bool true)], args := [d] }
  | _ => none }
def statePutsRow : OpenClaim := { program := "ytbcmglggplmkfaadoor", sum := "8f8f9e488a2952e4182314f8904884c402d255f015dc0caa62da295ce0574ada", func := "modillion/modillionlaw10.StatePuts", spec := "statePuts", unfollowed := true, recurses := true, named := ["modillion/hash.constants"], apart := false, laid := [("modillion/hash.constants", laid_modillion_hash_constants)] }
def StatePutsSaid : Prop := statePutsRow.holds Tryd.pinned (OpenSpec.ofChange statePutsSpec)

/-- ITS FALSE NEIGHBOUR: 'it returns false'. Refute it at one input. -/
def statePutsWrong : ChangeSpec := { name := "statePuts", fn := fun _ => fun
  | [d] => { results := [.lit (.bool false)], args := [d] }
  | _ => none }
def StatePutsWrongFalsely : Prop := statePutsRow.holds Tryd.pinned (OpenSpec.ofChange statePutsWrong)

/-- 'modillionlaw10.StateGets': WHATEVER THE INPUT: true; the input reads as it did. -/
def stateGetsSpec : ChangeSpec := { name := "stateGets", fn := fun _ => fun
  | [d] => { results := [.lit (.bool true)], args := [d] }
  | _ => none }
def stateGetsRow : OpenClaim := { program := "ytbcmglggplmkfaadoor", sum := "8f8f9e488a2952e4182314f8904884c402d255f015dc0caa62da295ce0574ada", func := "modillion/modillionlaw10.StateGets", spec := "stateGets", unfollowed := true, recurses := true, named := ["modillion/hash.constants"], apart := false, laid := [("modillion/hash.constants", laid_modillion_hash_constants)] }
def StateGetsSaid : Prop := stateGetsRow.holds Tryd.pinned (OpenSpec.ofChange stateGetsSpec)

/-- ITS FALSE NEIGHBOUR: 'it returns false'. Refute it at one input. -/
def stateGetsWrong : ChangeSpec := { name := "stateGets", fn := fun _ => fun
  | [d] => { results := [.lit (.bool false)], args := [d] }
  | _ => none }
def StateGetsWrongFalsely : Prop := stateGetsRow.holds Tryd.pinned (OpenSpec.ofChange stateGetsWrong)

/-- 'modillionlaw10.StateApart': WHATEVER THE INPUT: true; the input reads as it did. -/
def stateApartSpec : ChangeSpec := { name := "stateApart", fn := fun _ => fun
  | [d1, d2] => { results := [.lit (.bool true)], args := [d1, d2] }
  | _ => none }
def stateApartRow : OpenClaim := { program := "ytbcmglggplmkfaadoor", sum := "8f8f9e488a2952e4182314f8904884c402d255f015dc0caa62da295ce0574ada", func := "modillion/modillionlaw10.StateApart", spec := "stateApart", unfollowed := true, recurses := true, named := ["modillion/hash.constants"], apart := false, laid := [("modillion/hash.constants", laid_modillion_hash_constants)] }
def StateApartSaid : Prop := stateApartRow.holds Tryd.pinned (OpenSpec.ofChange stateApartSpec)

/-- ITS FALSE NEIGHBOUR: 'it returns false'. Refute it at one input. -/
def stateApartWrong : ChangeSpec := { name := "stateApart", fn := fun _ => fun
  | [d1, d2] => { results := [.lit (.bool false)], args := [d1, d2] }
  | _ => none }
def StateApartWrongFalsely : Prop := stateApartRow.holds Tryd.pinned (OpenSpec.ofChange stateApartWrong)

/-- 'modillionlaw10.StateSplits': WHATEVER THE INPUT: true; the input reads as it did. -/
def stateSplitsSpec : ChangeSpec := { name := "stateSplits", fn := fun _ => fun
  | [d1, d2] => { results := [.lit (.bool true)], args := [d1, d2] }
  | _ => none }
def stateSplitsRow : OpenClaim := { program := "ytbcmglggplmkfaadoor", sum := "8f8f9e488a2952e4182314f8904884c402d255f015dc0caa62da295ce0574ada", func := "modillion/modillionlaw10.StateSplits", spec := "stateSplits", unfollowed := true, recurses := true, named := ["modillion/hash.constants"], apart := false, laid := [("modillion/hash.constants", laid_modillion_hash_constants)] }
def StateSplitsSaid : Prop := stateSplitsRow.holds Tryd.pinned (OpenSpec.ofChange stateSplitsSpec)

/-- ITS FALSE NEIGHBOUR: 'it returns false'. Refute it at one input. -/
def stateSplitsWrong : ChangeSpec := { name := "stateSplits", fn := fun _ => fun
  | [d1, d2] => { results := [.lit (.bool false)], args := [d1, d2] }
  | _ => none }
def StateSplitsWrongFalsely : Prop := stateSplitsRow.holds Tryd.pinned (OpenSpec.ofChange stateSplitsWrong)

/-- 'modillionlaw10.StateSizes': WHATEVER THE INPUT: true; the input reads as it did. -/
def stateSizesSpec : ChangeSpec := { name := "stateSizes", fn := fun _ => fun
  | [d] => { results := [.lit (.bool true)], args := [d] }
  | _ => none }
def stateSizesRow : OpenClaim := { program := "ytbcmglggplmkfaadoor", sum := "8f8f9e488a2952e4182314f8904884c402d255f015dc0caa62da295ce0574ada", func := "modillion/modillionlaw10.StateSizes", spec := "stateSizes", unfollowed := true, recurses := true, named := ["modillion/hash.constants"], apart := false, laid := [("modillion/hash.constants", laid_modillion_hash_constants)] }
def StateSizesSaid : Prop := stateSizesRow.holds Tryd.pinned (OpenSpec.ofChange stateSizesSpec)

/-- ITS FALSE NEIGHBOUR: 'it returns false'. Refute it at one input. -/
def stateSizesWrong : ChangeSpec := { name := "stateSizes", fn := fun _ => fun
  | [d] => { results := [.lit (.bool false)], args := [d] }
  | _ => none }
def StateSizesWrongFalsely : Prop := stateSizesRow.holds Tryd.pinned (OpenSpec.ofChange stateSizesWrong)

/-- 'modillionlaw10.StateRoots': WHATEVER THE INPUT: true; the input reads as it did. -/
def stateRootsSpec : ChangeSpec := { name := "stateRoots", fn := fun _ => fun
  | [d] => { results := [.lit (.bool true)], args := [d] }
  | _ => none }
def stateRootsRow : OpenClaim := { program := "ytbcmglggplmkfaadoor", sum := "8f8f9e488a2952e4182314f8904884c402d255f015dc0caa62da295ce0574ada", func := "modillion/modillionlaw10.StateRoots", spec := "stateRoots", unfollowed := true, recurses := true, named := ["modillion/hash.constants"], apart := false, laid := [("modillion/hash.constants", laid_modillion_hash_constants)] }
def StateRootsSaid : Prop := stateRootsRow.holds Tryd.pinned (OpenSpec.ofChange stateRootsSpec)

/-- ITS FALSE NEIGHBOUR: 'it returns false'. Refute it at one input. -/
def stateRootsWrong : ChangeSpec := { name := "stateRoots", fn := fun _ => fun
  | [d] => { results := [.lit (.bool false)], args := [d] }
  | _ => none }
def StateRootsWrongFalsely : Prop := stateRootsRow.holds Tryd.pinned (OpenSpec.ofChange stateRootsWrong)

/- THE SECOND FORM. 'bulk': how many values and letters a reading holds, each counted each time it is reached (what is shared counts as often as it is met; a slice's spare places count too). A statement '..UptoSaid' is the law's where the arguments, and the package variables that the reading takes, are together of bulk at most 1048576: NARROWER than '..Said'. Prove '..Said' where nothing that the law and all that it calls make is longer than what came in: it says more and counts as full. Else prove '..UptoSaid'. A law counts once. -/
mutual
def uptoBulk {H : Type} : DataW H → Nat
  | .lit (.string bytes) => bytes.length + 1
  | .lit _ => 1
  | .nil => 1
  | .ptr d => uptoBulk d + 1
  | .slice elems spare => uptoBulkAll elems + uptoBulkAll spare + 1
  | .agg parts => uptoBulkAll parts + 1
  | .iface _ d => uptoBulk d + 1
  | .map entries => uptoBulkEntries entries + 1
  | .held _ => 1
def uptoBulkAll {H : Type} : List (DataW H) → Nat
  | [] => 0
  | d :: r => uptoBulk d + uptoBulkAll r
def uptoBulkEntries {H : Type} : List (Lit × DataW H) → Nat
  | [] => 0
  | x :: r => uptoBulkEntry x + uptoBulkEntries r
def uptoBulkEntry {H : Type} : Lit × DataW H → Nat
  | (.string bytes, d) => bytes.length + uptoBulk d + 1
  | (_, d) => uptoBulk d + 1
 end
def uptoSmall : (H : Type) → List (DataW H) → Bool := fun _ ds => decide (uptoBulkAll ds ≤ 1048576)
def OpenSpec.upto (s : _root_.Go.ChangeSpec) : _root_.Go.OpenSpec := { _root_.Go.OpenSpec.ofChange s with cond := some uptoSmall }

/-- 'modillionlaw10.StatePuts', WHERE WHAT IT READS IS OF BULK AT MOST 1048576: true; the input reads as it did. -/
def statePutsUptoRow : OpenClaim := { program := "ytbcmglggplmkfaadoor", sum := "8f8f9e488a2952e4182314f8904884c402d255f015dc0caa62da295ce0574ada", func := "modillion/modillionlaw10.StatePuts", spec := "statePuts", unfollowed := true, recurses := true, named := ["modillion/hash.constants"], apart := false, laid := [("modillion/hash.constants", laid_modillion_hash_constants)], narrowed := true }
def StatePutsUptoSaid : Prop := statePutsUptoRow.holds Tryd.pinned (OpenSpec.upto statePutsSpec)

/-- 'modillionlaw10.StateGets', WHERE WHAT IT READS IS OF BULK AT MOST 1048576: true; the input reads as it did. -/
def stateGetsUptoRow : OpenClaim := { program := "ytbcmglggplmkfaadoor", sum := "8f8f9e488a2952e4182314f8904884c402d255f015dc0caa62da295ce0574ada", func := "modillion/modillionlaw10.StateGets", spec := "stateGets", unfollowed := true, recurses := true, named := ["modillion/hash.constants"], apart := false, laid := [("modillion/hash.constants", laid_modillion_hash_constants)], narrowed := true }
def StateGetsUptoSaid : Prop := stateGetsUptoRow.holds Tryd.pinned (OpenSpec.upto stateGetsSpec)

/-- 'modillionlaw10.StateApart', WHERE WHAT IT READS IS OF BULK AT MOST 1048576: true; the input reads as it did. -/
def stateApartUptoRow : OpenClaim := { program := "ytbcmglggplmkfaadoor", sum := "8f8f9e488a2952e4182314f8904884c402d255f015dc0caa62da295ce0574ada", func := "modillion/modillionlaw10.StateApart", spec := "stateApart", unfollowed := true, recurses := true, named := ["modillion/hash.constants"], apart := false, laid := [("modillion/hash.constants", laid_modillion_hash_constants)], narrowed := true }
def StateApartUptoSaid : Prop := stateApartUptoRow.holds Tryd.pinned (OpenSpec.upto stateApartSpec)

/-- 'modillionlaw10.StateSplits', WHERE WHAT IT READS IS OF BULK AT MOST 1048576: true; the input reads as it did. -/
def stateSplitsUptoRow : OpenClaim := { program := "ytbcmglggplmkfaadoor", sum := "8f8f9e488a2952e4182314f8904884c402d255f015dc0caa62da295ce0574ada", func := "modillion/modillionlaw10.StateSplits", spec := "stateSplits", unfollowed := true, recurses := true, named := ["modillion/hash.constants"], apart := false, laid := [("modillion/hash.constants", laid_modillion_hash_constants)], narrowed := true }
def StateSplitsUptoSaid : Prop := stateSplitsUptoRow.holds Tryd.pinned (OpenSpec.upto stateSplitsSpec)

/-- 'modillionlaw10.StateSizes', WHERE WHAT IT READS IS OF BULK AT MOST 1048576: true; the input reads as it did. -/
def stateSizesUptoRow : OpenClaim := { program := "ytbcmglggplmkfaadoor", sum := "8f8f9e488a2952e4182314f8904884c402d255f015dc0caa62da295ce0574ada", func := "modillion/modillionlaw10.StateSizes", spec := "stateSizes", unfollowed := true, recurses := true, named := ["modillion/hash.constants"], apart := false, laid := [("modillion/hash.constants", laid_modillion_hash_constants)], narrowed := true }
def StateSizesUptoSaid : Prop := stateSizesUptoRow.holds Tryd.pinned (OpenSpec.upto stateSizesSpec)

/-- 'modillionlaw10.StateRoots', WHERE WHAT IT READS IS OF BULK AT MOST 1048576: true; the input reads as it did. -/
def stateRootsUptoRow : OpenClaim := { program := "ytbcmglggplmkfaadoor", sum := "8f8f9e488a2952e4182314f8904884c402d255f015dc0caa62da295ce0574ada", func := "modillion/modillionlaw10.StateRoots", spec := "stateRoots", unfollowed := true, recurses := true, named := ["modillion/hash.constants"], apart := false, laid := [("modillion/hash.constants", laid_modillion_hash_constants)], narrowed := true }
def StateRootsUptoSaid : Prop := stateRootsUptoRow.holds Tryd.pinned (OpenSpec.upto stateRootsSpec)

end Rows
end Go.Proofs.YtbcmglggplmkfaaDoor
