/- Laws of operations for this program: numbers of 32 and 64 bits, rows of whole numbers. No condition. -/
import Derived.Test.YthenbmalnmaofaaSVals
import Derived.Test.YthenbmalnmaofaaQMath
import Derived.Laws.BitsAllLaws
namespace Go.Proofs.Ythenbmalnmaofaa
open Go.RowKit
open Part
set_option maxRecDepth 100000

theorem goes38 : Goes Try.prog 38 := goes_of Try.func38 (by kernel_rfl) rfl
theorem goes39 : Goes Try.prog 39 := goes_of Try.func39 (by kernel_rfl) rfl
theorem goes52 : Goes Try.prog 52 := goes_of Try.func52 (by kernel_rfl) rfl
theorem goes53 : Goes Try.prog 53 := goes_of Try.func53 (by kernel_rfl) rfl
theorem goes54 : Goes Try.prog 54 := goes_of Try.func54 (by kernel_rfl) rfl
theorem undU32 : Try.prog.underlying 70 = some (.int .u32) := by kernel_rfl
theorem undU64 : Try.prog.underlying 72 = some (.int .u64) := by kernel_rfl
section
variable {P : Program} {L : List (Nat × Value)} {w : World} {ty : TypeId}
theorem runs_shr32 {t t' : TypeId} {x y : Operand} {k : IntKind} {a r b : Nat} {i : Int} (hx : vals L x = some (.int .u32 (a : Int))) (hy : vals L y = some (.int k i)) (hi : i = (b : Int)) (hb : b ≤ 32) (hr : a / 2 ^ b = r) : Runs P (.binOp .shr t x y t') ty L w (Is (.int .u32 (r : Int)) w) := by
  subst hi
  exact runs_bin hx hy rfl (by rw [binOp_shr, shift_shr_u32 k (a : Int) (b : Int) (by omega) (by omega), ← hr]; simp)
theorem runs_mul32 {t t' : TypeId} {x y : Operand} {a b r : Nat} (hx : vals L x = some (.int .u32 (a : Int))) (hy : vals L y = some (.int .u32 (b : Int))) (hr : a * b % 4294967296 = r) : Runs P (.binOp .mul t x y t') ty L w (Is (.int .u32 (r : Int)) w) :=
  runs_mul hx hy (by subst hr; simp [IntKind.wrap, IntKind.bits, IntKind.signed])
theorem runs_mul64 {t t' : TypeId} {x y : Operand} {a b r : Nat} (hx : vals L x = some (.int .u64 (a : Int))) (hy : vals L y = some (.int .u64 (b : Int))) (hr : a * b = r) (h : r < 18446744073709551616) : Runs P (.binOp .mul t x y t') ty L w (Is (.int .u64 (r : Int)) w) :=
  runs_mul hx hy (by subst hr; rw [← Int.natCast_mul]; generalize a * b = c at *; simp [IntKind.wrap, IntKind.bits, IntKind.signed]; omega)
theorem runs_rem64 {t t' : TypeId} {x y : Operand} {k : IntKind} {a b r : Nat} (hx : vals L x = some (.int k (a : Int))) (hy : vals L y = some (.int k (b : Int))) (hb : 0 < b) (hr : a % b = r) : Runs P (.binOp .rem t x y t') ty L w (Is (.int k (r : Int)) w) :=
  runs_rem hx hy (by omega) (by subst hr; rw [Int.tmod_eq_emod_of_nonneg (by omega), Int.natCast_emod])
theorem runs_quo64 {t t' : TypeId} {x y : Operand} {a b r : Nat} (hx : vals L x = some (.int .u64 (a : Int))) (hy : vals L y = some (.int .u64 (b : Int))) (hb : 0 < b) (hr : a / b = r) (h : r < 18446744073709551616) : Runs P (.binOp .quo t x y t') ty L w (Is (.int .u64 (r : Int)) w) :=
  runs_quo hx hy (by omega) (by subst hr; rw [Int.tdiv_eq_ediv_of_nonneg (by omega), ← Int.natCast_ediv]; generalize a / b = c at *; simp [IntKind.wrap, IntKind.bits, IntKind.signed]; omega)
theorem runs_xor32 {t t' : TypeId} {x y : Operand} {a b : Nat} (hx : vals L x = some (.int .u32 (a : Int))) (hy : vals L y = some (.int .u32 (b : Int))) (ha : a < 4294967296) (hb : b < 4294967296) : Runs P (.binOp .xor t x y t') ty L w (Is (.int .u32 ((a ^^^ b : Nat) : Int)) w) :=
  runs_xor hx hy (u32_xor_nat a b ha hb)
theorem runs_xor64 {t t' : TypeId} {x y : Operand} {a b : Nat} (hx : vals L x = some (.int .u64 (a : Int))) (hy : vals L y = some (.int .u64 (b : Int))) (ha : a < 4294967296) (hb : b < 4294967296) : Runs P (.binOp .xor t x y t') ty L w (Is (.int .u64 ((a ^^^ b : Nat) : Int)) w) :=
  runs_xor hx hy (u64_xor_nat a b (by omega) (by omega))
end
section
variable {ty : TypeId} {L : List (Nat × Value)} {w : World}
theorem runs_to32 {s : TypeId} {x : Operand} {k : IntKind} {a r : Nat} (hx : vals L x = some (.int k (a : Int))) (hs : (Try.prog.underlying s).isSome = true) (hr : a % 4294967296 = r) : Runs Try.prog (.convert s 70 x) ty L w (Is (.int .u32 (r : Int)) w) :=
  runs_convInt (k' := .u32) hx hs undU32 (by subst hr; simp [IntKind.wrap, IntKind.bits, IntKind.signed])
theorem runs_to64 {s : TypeId} {x : Operand} {k : IntKind} {a : Nat} (hx : vals L x = some (.int k (a : Int))) (hs : (Try.prog.underlying s).isSome = true) (h : a < 18446744073709551616) : Runs Try.prog (.convert s 72 x) ty L w (Is (.int .u64 (a : Int)) w) :=
  runs_convInt (k' := .u64) hx hs undU64 (by simp [IntKind.wrap, IntKind.bits, IntKind.signed]; omega)
theorem runs_toInt {s : TypeId} {x : Operand} {k : IntKind} {a : Nat} (hx : vals L x = some (.int k (a : Int))) (hs : (Try.prog.underlying s).isSome = true) (h : a < 4294967296) : Runs Try.prog (.convert s 3 x) ty L w (Is (.int .i64 (a : Int)) w) :=
  runs_convInt (k' := .i64) hx hs und3 (by simp [IntKind.wrap, IntKind.bits, IntKind.signed]; omega)
end
end Go.Proofs.Ythenbmalnmaofaa
