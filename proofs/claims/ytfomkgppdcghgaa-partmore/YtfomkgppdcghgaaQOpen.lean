/- How arguments come in: numbers. No condition. -/
import Derived.Test.YtfomkgppdcghgaaQEng
import Derived.ProofKit
import Derived.ChangeOld
import Derived.Below
import Derived.OpenShut
import Derived.ShutString
namespace Go.Proofs.Ytfomkgppdcghgaa
open Go.ChangeShapes Go.WideShapes Go.ChangeAt Go.RowKit

theorem ownK : ownKnob Try.prog.godebug = none := by kernel_rfl
theorem laidOut : laidOutB Try.prog = true := by kernel_rfl
section
variable {H : Type} {enc : TypeId × Value → H} {W : World} {base b0 : Nat} {r : Reach} {sp : Nat → Bool} {held : Bool} {v : Value} {d : DataW H} {p : List MemPlace}
theorem open_u32 (hv : Value.okWide Try.prog W r b0 22 v) (h : DataW.Trod enc Try.prog W base sp held 22 v d p) : ∃ n : Nat, n < 4294967296 ∧ v = .int .u32 (n : Int) := by
  obtain ⟨n, rfl, _, _, wf⟩ := open_int und22 hv h
  have := bounds_u32 wf
  exact ⟨n.toNat, by omega, by rw [Int.toNat_of_nonneg this.1]⟩
theorem open_i64 (hv : Value.okWide Try.prog W r b0 3 v) (h : DataW.Trod enc Try.prog W base sp held 3 v d p) : ∃ n : Int, n ≤ 9223372036854775807 ∧ v = .int .i64 n := by
  obtain ⟨n, rfl, _, _, wf⟩ := open_int und3 hv h
  have := bounds_i64 wf
  exact ⟨n, this.2, rfl⟩
end
end Go.Proofs.Ytfomkgppdcghgaa
