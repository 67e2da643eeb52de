/- The document's own Of: its code, its types, its callees. No condition. -/
import Derived.Test.YthkbnbnfjnliaaaDoorEngP
import Derived.Test.YthkbnbnfjnliaaaDoorJ15
namespace Go.Proofs.YthkbnbnfjnliaaaDoor
open Go.RowKit
set_option maxRecDepth 100000

noncomputable def ofBlk (id : Nat) : Code := ((Tryd.f58.body.bind (blockIn id)).getD .skip)
noncomputable def ofReg (id : Nat) : Code := ((Tryd.f58.body.bind (regionIn id)).getD .skip)
abbrev tyByte : TypeId := 5
abbrev tyU64 : TypeId := 41
theorem infByteS : (Tryd.prog.info? 5).map (·.size) = some 1 := by kernel_rfl
theorem undU64s : Tryd.prog.underlying 103 = some (.slice 41) := by kernel_rfl
theorem infU64 : (Tryd.prog.info? 41).map (·.size) = some 1 := by kernel_rfl
theorem infU64b : (Tryd.prog.info? 41).map (fun i => (i.zero, i.size, i.bytes)) = some (some (.int .u64 0), 1, 8) := by kernel_rfl
theorem goesTwo : Goes Tryd.prog 71 := goes_of Tryd.func71 (by kernel_rfl) rfl
theorem goesConstants : Goes Tryd.prog 72 := goes_of Tryd.func72 (by kernel_rfl) rfl
theorem goesCut : Goes Tryd.prog 73 := goes_of Tryd.func73 (by kernel_rfl) rfl
theorem goesTurn : Goes Tryd.prog 74 := goes_of Tryd.func74 (by kernel_rfl) rfl
theorem turn_run {L : List (Nat × Value)} {V w : World} {ty : TypeId} {ts : Array TypeId} {X Y : Operand} {x : Nat} {i : Int} (m : Nat) (hw : Drawn V w) (hx : vals L X = some (.int .u64 (x : Int))) (hy : vals L Y = some (.int .i64 i)) (hi : i = (m : Int)) (hl : x < 4294967296) (h1 : 1 ≤ m) (h2 : m ≤ 31) :
    Runs Tryd.prog (.call { callee := .value (.func 74), args := #[X, Y], argTypes := ts }) ty L w (fun v w' => v = .int .u64 ((Sha.rotr m x : Nat) : Int) ∧ Drawn V w') := by
  subst hi
  refine runs_call (args := [.int .u64 (x : Int), .int .i64 (m : Int)]) goesTurn (by simp [hx, hy]) ?_
  refine (turn_any x m hl h1 h2 w).mono ?_
  rintro e w' ⟨rfl, k, rfl⟩
  exact ⟨_, rfl, rfl, hw.trans ⟨k, rfl⟩⟩
theorem cut_run {L : List (Nat × Value)} {V w : World} {ty : TypeId} {ts : Array TypeId} {X : Operand} {x : Nat} (hw : Drawn V w) (hx : vals L X = some (.int .u64 (x : Int))) :
    Runs Tryd.prog (.call { callee := .value (.func 73), args := #[X], argTypes := ts }) ty L w (fun v w' => v = .int .u64 ((x % 4294967296 : Nat) : Int) ∧ Drawn V w') := by
  refine runs_call (args := [.int .u64 (x : Int)]) goesCut (by simp [hx]) ?_
  refine (cut_any x w).mono ?_
  rintro e w' ⟨rfl, rfl⟩
  exact ⟨_, rfl, rfl, hw⟩
end Go.Proofs.YthkbnbnfjnliaaaDoor
