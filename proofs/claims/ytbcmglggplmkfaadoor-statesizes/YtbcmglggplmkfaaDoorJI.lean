/- Layer 6: numbers mixed, whose a vertex is, the vertices of a worker; no program. No condition. -/
import Derived.Test.YtbcmglggplmkfaaDoorRows
import Derived.Test.YtbcmglggplmkfaaDoorJL
import Derived.Test.YtbcmglggplmkfaaDoorJH
import Derived.Laws.BitsAllLaws
import Derived.Test.YtbcmglggplmkfaaDoorJB
import Derived.Laws.StructEq
import Derived.ProofKit
import Derived.OpenShut
import Derived.ShutString
import Derived.Lib.LaidTab
import Derived.ChangeOld
import Derived.ChangeSame
import Derived.Below
import Derived.Deep.Slices
namespace Go.Proofs.YtbcmglggplmkfaaDoor
namespace Part
def m1 (v : Nat) : Nat := v * 2654435761 % 4294967296
def m2 (a : Nat) : Nat := a ^^^ a / 32768
def m3 (b : Nat) : Nat := b * 2246822519 % 4294967296
def m4 (c : Nat) : Nat := c ^^^ c / 8192
/-- A number, mixed. -/
def mix (v : Nat) : Nat := m4 (m3 (m2 (m1 v)))
theorem xor_lt {a b : Nat} (ha : a < 4294967296) (hb : b < 4294967296) : a ^^^ b < 4294967296 := Nat.xor_lt_two_pow (n := 32) ha hb
theorem m1_lt (v : Nat) : m1 v < 4294967296 := Nat.mod_lt _ (by decide)
theorem m3_lt (v : Nat) : m3 v < 4294967296 := Nat.mod_lt _ (by decide)
theorem m4_lt {a : Nat} (h : a < 4294967296) : m4 a < 4294967296 := xor_lt h (Nat.lt_of_le_of_lt (Nat.div_le_self _ _) h)
theorem mix_lt (v : Nat) : mix v < 4294967296 := m4_lt (m3_lt _)
/-- Whose a vertex is. -/
def own (v k : Int) : Int := if v < 0 ∨ k < 1 ∨ k > 64 then -1 else ((mix (v.toNat % 4294967296) % k.toNat : Nat) : Int)
theorem own_none {v k : Int} (h : v < 0 ∨ k < 1 ∨ k > 64) : own v k = -1 := if_pos h
theorem own_some {v k : Int} (hv : ¬v < 0) (hk : ¬k < 1) (hk' : ¬k > 64) : own v k = ((mix (v.toNat % 4294967296) % k.toNat : Nat) : Int) := if_neg (by omega)
theorem own_range {v k : Int} (hv : 0 ≤ v) (hk : 1 ≤ k) (hk' : k ≤ 64) : 0 ≤ own v k ∧ own v k < k := by
  rw [own_some (by omega) (by omega) (by omega)]
  have := Nat.mod_lt (mix (v.toNat % 4294967296)) (show k.toNat > 0 by omega)
  omega
/-- May there be so many? -/
def right (n k : Int) : Bool := decide (1 ≤ n) && decide (n ≤ 64) && decide (1 ≤ k) && decide (k ≤ 64)
end Part
end Go.Proofs.YtbcmglggplmkfaaDoor
/- Graphs as lists of edges: which may be, their order, what is the same. No condition. -/
namespace Go.Proofs.YtbcmglggplmkfaaDoor

/-- From, To, Weight. -/
abbrev E := Int × Int × Int
end Go.Proofs.YtbcmglggplmkfaaDoor
/- Layer 7: programs, as mathematics. Conditions: none of our own. -/
namespace Go.Proofs.YtbcmglggplmkfaaDoor
set_option maxRecDepth 100000

def great (x : Int) : Bool := decide (x > 1125899906842624) || decide (x < -1125899906842624)
theorem great_no {x : Int} (h : great x = false) : -1125899906842624 ≤ x ∧ x ≤ 1125899906842624 := by simp [great] at h; omega
/-- A vertex: its number, its value, whether it goes on, whether something came, and what. -/
structure Vx where
  id : Int
  val : Int
  act : Bool
  has : Bool
  inn : Int
deriving DecidableEq
def noVx : Vx := ⟨0, 0, false, false, 0⟩
end Go.Proofs.YtbcmglggplmkfaaDoor
/- Laws of operations for this program: numbers of 32 and 64 bits, rows of whole numbers. No condition. -/
namespace Go.Proofs.YtbcmglggplmkfaaDoor
open Go.RowKit
open Part
set_option maxRecDepth 100000

abbrev Ans (f : FuncId) (args : List Value) (w : World) (Post : Value → World → Prop) : Prop := Calls Tryd.prog f args.toArray w fun e w' => ∃ v, e = .returned v ∧ Post v w'
theorem und22 : Tryd.prog.underlying 91 = some (.int .u32) := by kernel_rfl
theorem und40 : Tryd.prog.underlying 50 = some (.int .u64) := by kernel_rfl
theorem und3 : Tryd.prog.underlying 3 = some (.int .i64) := by kernel_rfl
theorem goes58 : Goes Tryd.prog 58 := goes_of Tryd.func58 (by kernel_rfl) rfl
theorem goes39 : Goes Tryd.prog 39 := goes_of Tryd.func39 (by kernel_rfl) rfl
theorem goes57 : Goes Tryd.prog 57 := goes_of Tryd.func57 (by kernel_rfl) rfl
section
variable {P : Program} {L : List (Nat × Value)} {w : World} {ty : TypeId}
theorem runs_shr32 {t t' : TypeId} {x y : Operand} {k : IntKind} {a r b : Nat} {i : Int} (hx : vals L x = some (.int .u32 (a : Int))) (hy : vals L y = some (.int k i)) (hi : i = (b : Int)) (hb : b ≤ 32) (hr : a / 2 ^ b = r) : Runs P (.binOp .shr t x y t') ty L w (Is (.int .u32 (r : Int)) w) := by
  subst hi
  exact runs_bin hx hy rfl (by rw [binOp_shr, shift_shr_u32 k (a : Int) (b : Int) (by omega) (by omega), ← hr]; simp)
theorem runs_mul32 {t t' : TypeId} {x y : Operand} {a b r : Nat} (hx : vals L x = some (.int .u32 (a : Int))) (hy : vals L y = some (.int .u32 (b : Int))) (hr : a * b % 4294967296 = r) : Runs P (.binOp .mul t x y t') ty L w (Is (.int .u32 (r : Int)) w) :=
  runs_mul hx hy (by subst hr; simp [IntKind.wrap, IntKind.bits, IntKind.signed])
theorem runs_rem64 {t t' : TypeId} {x y : Operand} {k : IntKind} {a b r : Nat} (hx : vals L x = some (.int k (a : Int))) (hy : vals L y = some (.int k (b : Int))) (hb : 0 < b) (hr : a % b = r) : Runs P (.binOp .rem t x y t') ty L w (Is (.int k (r : Int)) w) :=
  runs_rem hx hy (by omega) (by subst hr; rw [Int.tmod_eq_emod_of_nonneg (by omega), Int.natCast_emod])
theorem runs_xor32 {t t' : TypeId} {x y : Operand} {a b : Nat} (hx : vals L x = some (.int .u32 (a : Int))) (hy : vals L y = some (.int .u32 (b : Int))) (ha : a < 4294967296) (hb : b < 4294967296) : Runs P (.binOp .xor t x y t') ty L w (Is (.int .u32 ((a ^^^ b : Nat) : Int)) w) :=
  runs_xor hx hy (u32_xor_nat a b ha hb)
end
section
variable {ty : TypeId} {L : List (Nat × Value)} {w : World}
theorem runs_to32 {s : TypeId} {x : Operand} {k : IntKind} {a r : Nat} (hx : vals L x = some (.int k (a : Int))) (hs : (Tryd.prog.underlying s).isSome = true) (hr : a % 4294967296 = r) : Runs Tryd.prog (.convert s 91 x) ty L w (Is (.int .u32 (r : Int)) w) :=
  runs_convInt (k' := .u32) hx hs und22 (by subst hr; simp [IntKind.wrap, IntKind.bits, IntKind.signed])
theorem runs_to64 {s : TypeId} {x : Operand} {k : IntKind} {a : Nat} (hx : vals L x = some (.int k (a : Int))) (hs : (Tryd.prog.underlying s).isSome = true) (h : a < 18446744073709551616) : Runs Tryd.prog (.convert s 50 x) ty L w (Is (.int .u64 (a : Int)) w) :=
  runs_convInt (k' := .u64) hx hs und40 (by simp [IntKind.wrap, IntKind.bits, IntKind.signed]; omega)
theorem runs_toInt {s : TypeId} {x : Operand} {k : IntKind} {a : Nat} (hx : vals L x = some (.int k (a : Int))) (hs : (Tryd.prog.underlying s).isSome = true) (h : a < 4294967296) : Runs Tryd.prog (.convert s 3 x) ty L w (Is (.int .i64 (a : Int)) w) :=
  runs_convInt (k' := .i64) hx hs und3 (by simp [IntKind.wrap, IntKind.bits, IntKind.signed]; omega)
end
end Go.Proofs.YtbcmglggplmkfaaDoor
/- Layer 6 and the document: numbers mixed, whose a vertex is. Conditions: none of our own. -/
namespace Go.Proofs.YtbcmglggplmkfaaDoor
open Go.RowKit
open Part
set_option maxRecDepth 100000

set_option maxHeartbeats 1000000 in
theorem within_any (n m : Int) (w : World) : Ans 57 [.int .i64 n, .int .i64 m] w (Is (.bool (decide (1 ≤ n) && decide (n ≤ m))) w) := by
  refine calls_qx (args := [.int .i64 n, .int .i64 m]) 12 Tryd.func57 rfl (by kernel_rfl) (by simp) (fun a hS => ?_)
  refine qx_seq (reg_seq ?_)
  refine seq_is hS (by decide) (runs_assign rfl) (fun a1 hS => ?_)
  refine nil_ok (qx_seq (reg_seq ?_))
  refine seq_is hS (by decide) (runs_move rfl) (fun a1 hS => ?_)
  by_cases h1 : n ≥ 1
  · skip
    refine seq_is hS (by decide) (runs_geq (r := true) rfl rfl (by rw [decide_eq_true_eq]; omega)) (fun a1 hS => ?_)
    refine seq_is hS (by decide) (runs_move rfl) (fun a1 hS => ?_)
    refine seq_yis hS (by decide) rfl (by decide) rfl (runs_move rfl) (fun a1 hS => ?_)
    refine seq_yis hS (by decide) rfl (by decide) rfl (runs_move rfl) (fun a1 hS => ?_)
    by_cases h2 : n ≤ m
    · skip
      refine seq_yis hS (by decide) rfl (by decide) rfl (runs_leq (r := true) rfl rfl (by rw [decide_eq_true_eq]; omega)) (fun a1 hS => ?_)
      refine seq_is hS (by decide) (runs_pick rfl rfl) (fun a1 hS => ?_)
      refine seq_is hS (by decide) (runs_assign rfl) (fun a1 hS => ?_)
      exact nil_ok (qx_ret (ret1 (t := 4) (by kernel_rfl) hS rfl ⟨_, rfl, by first | (simp; done) | (simp; omega), rfl⟩))
    · skip
      refine seq_yis hS (by decide) rfl (by decide) rfl (runs_leq (r := false) rfl rfl (by rw [decide_eq_false_iff_not]; omega)) (fun a1 hS => ?_)
      refine seq_is hS (by decide) (runs_pick rfl rfl) (fun a1 hS => ?_)
      refine seq_is hS (by decide) (runs_assign rfl) (fun a1 hS => ?_)
      exact nil_ok (qx_ret (ret1 (t := 4) (by kernel_rfl) hS rfl ⟨_, rfl, by first | (simp; done) | (simp; omega), rfl⟩))
  · skip
    refine seq_is hS (by decide) (runs_geq (r := false) rfl rfl (by rw [decide_eq_false_iff_not]; omega)) (fun a1 hS => ?_)
    refine seq_is hS (by decide) (runs_move rfl) (fun a1 hS => ?_)
    refine seq_no hS (by decide) rfl (by decide) rfl rfl (fun a1 hS => ?_)
    refine seq_no hS (by decide) rfl (by decide) rfl rfl (fun a1 hS => ?_)
    refine seq_no hS (by decide) rfl (by decide) rfl rfl (fun a1 hS => ?_)
    refine seq_is hS (by decide) (runs_pick rfl rfl) (fun a1 hS => ?_)
    refine seq_is hS (by decide) (runs_assign rfl) (fun a1 hS => ?_)
    exact nil_ok (qx_ret (ret1 (t := 4) (by kernel_rfl) hS rfl ⟨_, rfl, by first | (simp; done) | (simp; omega), rfl⟩))
theorem within_is {n m : Int} {b : Bool} (w : World) (h : (decide (1 ≤ n) && decide (n ≤ m)) = b) : Ans 57 [.int .i64 n, .int .i64 m] w (Is (.bool b) w) := h ▸ within_any n m w
theorem within_yes {n m : Int} (w : World) (h1 : 1 ≤ n) (h2 : n ≤ m) : Ans 57 [.int .i64 n, .int .i64 m] w (Is (.bool true) w) := within_is w (by simp; omega)
theorem within_no {n m : Int} (w : World) (h : n < 1 ∨ n > m) : Ans 57 [.int .i64 n, .int .i64 m] w (Is (.bool false) w) := within_is w (by simp; omega)
set_option maxHeartbeats 1000000 in
theorem mix_any (v : Nat) (w : World) : Ans 58 [.int .u32 (v : Int)] w (Is (.int .u32 ((mix v : Nat) : Int)) w) := by
  refine calls_qx (args := [.int .u32 ((v : Nat) : Int)]) 15 Tryd.func58 rfl (by kernel_rfl) (by simp) (fun a hS => ?_)
  refine qx_seq (reg_seq ?_)
  refine seq_is hS (by decide) (runs_assign rfl) (fun a1 hS => ?_)
  refine nil_ok (qx_seq (reg_seq ?_))
  refine seq_is hS (by decide) (runs_move rfl) (fun a1 hS => ?_)
  refine seq_is hS (by decide) (runs_mul32 (a := v) (b := 2654435761) (r := m1 v) rfl rfl rfl) (fun a1 hS => ?_)
  refine seq_is hS (by decide) (runs_assign rfl) (fun a1 hS => ?_)
  refine nil_ok (qx_seq (reg_seq ?_))
  refine seq_is hS (by decide) (runs_move rfl) (fun a1 hS => ?_)
  refine seq_is hS (by decide) (runs_move rfl) (fun a1 hS => ?_)
  refine seq_is hS (by decide) (runs_shr32 (a := m1 v) (b := 15) (r := m1 v / 32768) rfl rfl rfl (by omega) rfl) (fun a1 hS => ?_)
  refine seq_is hS (by decide) (runs_xor32 (a := m1 v) (b := m1 v / 32768) rfl rfl (m1_lt _) (Nat.lt_of_le_of_lt (Nat.div_le_self _ _) (m1_lt _))) (fun a1 hS => ?_)
  refine seq_is hS (by decide) (runs_assign rfl) (fun a1 hS => ?_)
  refine nil_ok (qx_seq (reg_seq ?_))
  refine seq_is hS (by decide) (runs_move rfl) (fun a1 hS => ?_)
  refine seq_is hS (by decide) (runs_mul32 (a := m2 (m1 v)) (b := 2246822519) (r := m3 (m2 (m1 v))) rfl rfl rfl) (fun a1 hS => ?_)
  refine seq_is hS (by decide) (runs_assign rfl) (fun a1 hS => ?_)
  refine nil_ok (qx_seq (reg_seq ?_))
  refine seq_is hS (by decide) (runs_move rfl) (fun a1 hS => ?_)
  refine seq_is hS (by decide) (runs_move rfl) (fun a1 hS => ?_)
  refine seq_is hS (by decide) (runs_shr32 (a := m3 (m2 (m1 v))) (b := 13) (r := m3 (m2 (m1 v)) / 8192) rfl rfl rfl (by omega) rfl) (fun a1 hS => ?_)
  refine seq_is hS (by decide) (runs_xor32 (a := m3 (m2 (m1 v))) (b := m3 (m2 (m1 v)) / 8192) rfl rfl (m3_lt _) (Nat.lt_of_le_of_lt (Nat.div_le_self _ _) (m3_lt _))) (fun a1 hS => ?_)
  refine seq_is hS (by decide) (runs_assign rfl) (fun a1 hS => ?_)
  exact nil_ok (qx_ret (ret1 (t := 2) (by kernel_rfl) hS rfl ⟨_, rfl, rfl, rfl⟩))
set_option maxHeartbeats 1000000 in
theorem own_any (v k : Int) (w : World) : Ans 39 [.int .i64 v, .int .i64 k] w (Is (.int .i64 (own v k)) w) := by
  refine calls_qx (args := [.int .i64 v, .int .i64 k]) 19 Tryd.func39 rfl (by kernel_rfl) (by simp) (fun a hS => ?_)
  refine qx_seq (reg_seq ?_)
  refine seq_is hS (by decide) (runs_assign rfl) (fun a1 hS => ?_)
  refine nil_ok (qx_seq (qx_seq (reg_seq ?_)))
  refine seq_is hS (by decide) (runs_move rfl) (fun a1 hS => ?_)
  by_cases h1 : v < 0
  · skip
    refine seq_is hS (by decide) (runs_lss (r := true) rfl rfl (by rw [decide_eq_true_eq]; omega)) (fun a1 hS => ?_)
    refine seq_is hS (by decide) (runs_move rfl) (fun a1 hS => ?_)
    refine seq_no hS (by decide) rfl (by decide) rfl rfl (fun a1 hS => ?_)
    refine seq_no hS (by decide) rfl (by decide) rfl rfl (fun a1 hS => ?_)
    refine seq_no hS (by decide) rfl (by decide) rfl rfl (fun a1 hS => ?_)
    refine seq_is hS (by decide) (runs_pick rfl rfl) (fun a1 hS => ?_)
    refine nil_ok (wp_cond_true (hS.eval rfl) (qx_seq (reg_seq ?_)))
    refine seq_is hS (by decide) (runs_assign rfl) (fun a1 hS => ?_)
    exact nil_ok (qx_ret (ret1 (t := 4) (by kernel_rfl) hS rfl ⟨_, rfl, by rw [own_none (by omega)], rfl⟩))
  · skip
    refine seq_is hS (by decide) (runs_lss (r := false) rfl rfl (by rw [decide_eq_false_iff_not]; omega)) (fun a1 hS => ?_)
    refine seq_is hS (by decide) (runs_move rfl) (fun a1 hS => ?_)
    refine seq_yis hS (by decide) rfl (by decide) rfl (runs_move rfl) (fun a1 hS => ?_)
    by_cases h2 : 1 ≤ k ∧ k ≤ 64
    · skip
      refine seq_yis hS (by decide) rfl (by decide) rfl (runs_call (args := [.int .i64 k, .int .i64 64]) goes57 rfl (within_yes w (by omega) (by omega))) (fun a1 hS => ?_)
      refine seq_yis hS (by decide) rfl (by decide) rfl (runs_not (b := true) rfl) (fun a1 hS => ?_)
      refine seq_is hS (by decide) (runs_pick rfl rfl) (fun a1 hS => ?_)
      obtain ⟨n, rfl⟩ : ∃ n : Nat, v = (n : Int) := ⟨v.toNat, by omega⟩
      obtain ⟨j, rfl⟩ : ∃ j : Nat, k = (j : Int) := ⟨k.toNat, by omega⟩
      have hmod : mix (n % 4294967296) % j < 4294967296 := Nat.lt_of_le_of_lt (Nat.mod_le _ _) (mix_lt _)
      have hown : own (n : Int) (j : Int) = ((mix (n % 4294967296) % j : Nat) : Int) := by rw [own_some (by omega) (by omega) (by omega), Int.toNat_natCast, Int.toNat_natCast]
      refine nil_ok (wp_cond_false (hS.eval rfl) (wp_skip (qx_seq (reg_seq ?_))))
      refine seq_is hS (by decide) (runs_move rfl) (fun a1 hS => ?_)
      refine seq_is hS (by decide) (runs_to32 (a := n) (r := n % 4294967296) rfl (by rw [und3]; rfl) rfl) (fun a1 hS => ?_)
      refine seq_is hS (by decide) (runs_call (args := [.int .u32 ((n % 4294967296 : Nat) : Int)]) goes58 rfl (mix_any (n % 4294967296) w)) (fun a1 hS => ?_)
      refine seq_is hS (by decide) (runs_move rfl) (fun a1 hS => ?_)
      refine seq_is hS (by decide) (runs_to32 (a := j) (r := j) rfl (by rw [und3]; rfl) (by omega)) (fun a1 hS => ?_)
      refine seq_is hS (by decide) (runs_rem64 (a := mix (n % 4294967296)) (b := j) rfl rfl (by omega) rfl) (fun a1 hS => ?_)
      refine seq_is hS (by decide) (runs_toInt (a := mix (n % 4294967296) % j) rfl (by rw [und22]; rfl) hmod) (fun a1 hS => ?_)
      refine seq_is hS (by decide) (runs_assign rfl) (fun a1 hS => ?_)
      exact nil_ok (qx_ret (ret1 (t := 4) (by kernel_rfl) hS rfl ⟨_, rfl, by rw [hown], rfl⟩))
    · skip
      refine seq_yis hS (by decide) rfl (by decide) rfl (runs_call (args := [.int .i64 k, .int .i64 64]) goes57 rfl (within_no w (by omega))) (fun a1 hS => ?_)
      refine seq_yis hS (by decide) rfl (by decide) rfl (runs_not (b := false) rfl) (fun a1 hS => ?_)
      refine seq_is hS (by decide) (runs_pick rfl rfl) (fun a1 hS => ?_)
      refine nil_ok (wp_cond_true (hS.eval rfl) (qx_seq (reg_seq ?_)))
      refine seq_is hS (by decide) (runs_assign rfl) (fun a1 hS => ?_)
      exact nil_ok (qx_ret (ret1 (t := 4) (by kernel_rfl) hS rfl ⟨_, rfl, by rw [own_none (by omega)], rfl⟩))
end Go.Proofs.YtbcmglggplmkfaaDoor
/- Small facts of vertices. No condition. -/
namespace Go.Proofs.YtbcmglggplmkfaaDoor
open Go.RowKit
set_option maxRecDepth 100000

theorem fo28_0 : fieldOff Tryd.prog 23 0 = some 0 := by kernel_rfl
theorem fo28_1 : fieldOff Tryd.prog 23 1 = some 1 := by kernel_rfl
theorem fo28_2 : fieldOff Tryd.prog 23 2 = some 2 := by kernel_rfl
theorem fo28_3 : fieldOff Tryd.prog 23 3 = some 3 := by kernel_rfl
theorem fo28_4 : fieldOff Tryd.prog 23 4 = some 4 := by kernel_rfl
theorem sz28 : (Tryd.prog.info? 23).map (·.size) = some 5 := by kernel_rfl
theorem zo28 : zeroOf Tryd.prog 23 = some (.agg [.int .i64 0, .int .i64 0, .bool false, .bool false, .int .i64 0].toArray) := by kernel_rfl
theorem pl2 : (match Tryd.prog.underlying 2 with | some (.struct _) => true | some (.array _ _) => true | none => true | _ => false) = false := by kernel_rfl
theorem pl3 : (match Tryd.prog.underlying 3 with | some (.struct _) => true | some (.array _ _) => true | none => true | _ => false) = false := by kernel_rfl
theorem pl4 : (match Tryd.prog.underlying 4 with | some (.struct _) => true | some (.array _ _) => true | none => true | _ => false) = false := by kernel_rfl
theorem pl9 : (match Tryd.prog.underlying 9 with | some (.struct _) => true | some (.array _ _) => true | none => true | _ => false) = false := by kernel_rfl
abbrev vc (x : Vx) : List Value := [.int .i64 x.id, .int .i64 x.val, .bool x.act, .bool x.has, .int .i64 x.inn]
abbrev vv (x : Vx) : Value := .agg (vc x).toArray
/-- A cell of an object. -/
theorem Has.at {w : World} {g i : Nat} {t : TypeId} {cs : List Value} {v : Value} (h : Has w g t cs) (hv : cs[i]? = some v) : w.cell? ⟨g, i, none⟩ = some v := by rw [h.cell, hv]
section
variable {L : List (Nat × Value)} {w : World} {ty : TypeId}
theorem run_eqV (a b : Vx) (w : World) : (binOp .eql 23 (vv a) (vv b)).run Tryd.prog w = .ok (.bool (decide (a = b))) w := by
  have u3 := Tryd.underlying3
  have a3 := Tryd.isAgg3
  have z3 := Tryd.sizeOf3
  have u2 := Tryd.underlying2
  have a2 := Tryd.isAgg2
  have z2 := Tryd.sizeOf2
  have u4 := Tryd.underlying4
  have a4 := Tryd.isAgg4
  have z4 := Tryd.sizeOf4
  have hS : Tryd.prog.underlying 23 = some (.struct (Tryd.prog.fieldsOf 23)) := by kernel_rfl
  have hp : Tryd.prog.stoodInHeld 23 = false := by kernel_rfl
  rw [run_eql_struct, show (10000 : Nat) = 9999 + 1 from rfl, run_equalIn_agg w 9999 23 _ _ hS hp]
  simp only [Program.fieldsOf, Tryd.underlying23]
  go_simp
  obtain ⟨a1, a2, a3, a4, a5⟩ := a
  obtain ⟨b1, b2, b3, b4, b5⟩ := b
  by_cases h1 : a1 = b1 <;> by_cases h2 : a2 = b2 <;> by_cases h3 : a3 = b3 <;> by_cases h4 : a4 = b4 <;> by_cases h5 : a5 = b5 <;> simp [h1, h2, h3, h4, h5]
theorem runs_eqV {t' : TypeId} {X Y : Operand} {a b : Vx} {r : Bool} (hx : vals L X = some (vv a)) (hy : vals L Y = some (vv b)) (hr : decide (a = b) = r) : Runs Tryd.prog (.binOp .eql 23 X Y t') ty L w (Is (.bool r) w) := fun o act K Q ho _ hL hK => by
  have ex := hL X (by simp [Op.operands]) _ hx
  have ey := hL Y (by simp [Op.operands]) _ hy
  have h := run_eqV a b w
  rw [hr] at h
  have hg : (eqGuard .eql 23 X Y (vv a) (vv b)).run Tryd.prog w = .ok () w := by
    have hp : Tryd.prog.eqGuardType Tryd.prog.depth 23 = false := by kernel_rfl
    simp [eqGuard, hp]
  unfold Oper.wp
  have : (execOp act.eval o).run Tryd.prog w = .ok (.value (.bool r)) w := by
    simp only [execOp, ho, ex, ey]
    simp only [Sem.run_bind, hg, Result.andThen_ok, h, Sem.run_pure]
  rw [this]
  exact hK _ w ⟨rfl, rfl⟩
end
/-- A row that holds the beginning of what is written stays. -/
theorem owns_pre {w w' : World} {B : Nat} {e : TypeId} {sz g n m cap : Nat} {xs news : List Value} (h : w.ownsRow B e sz (.slice (some ⟨g, 0, none⟩) n cap) n xs) (hsz : 0 < sz) (h' : w'.ownsRow B e sz (.slice (some ⟨g, 0, none⟩) (n + m) cap) (n + m) (xs ++ news)) (hgr : w.grownBy w' (some g))
    {v : Value} {k : Nat} {ys : List Value} (hv : w.ownsRow B e sz v k ys) (hk : ys <+: (xs ++ news)) : w'.ownsRow B e sz v k ys := by
  refine ⟨hv.1, ?_⟩
  rcases hv.2 with hn | ⟨g2, cap2, cur2, rfl, hb2, hg2, hc2, hm2, hs2, ht2⟩
  · exact .inl hn
  · by_cases hgg : g2 = g
    · subst hgg
      rcases h.2 with ⟨hn, _⟩ | ⟨g1, cap1, cur1, e1, hb1, hg1, hc1, hm1, hs1, ht1⟩
      · cases hn
      simp only [Value.slice.injEq, Option.some.injEq, Addr.mk.injEq, and_true, true_and] at e1
      obtain ⟨rfl, rfl⟩ := e1
      rw [hg1] at hg2
      simp only [Option.some.injEq, Obj.cells.injEq, and_true] at hg2
      subst hg2
      rcases h'.2 with ⟨hn, _⟩ | ⟨g3, cap3, cur3, e3, hb3, hg3, hc3, hm3, hs3, ht3⟩
      · cases hn
      simp only [Value.slice.injEq, Option.some.injEq, Addr.mk.injEq, and_true, true_and] at e3
      obtain ⟨rfl, rfl⟩ := e3
      have hcc : cap2 = cap := Nat.eq_of_mul_eq_mul_right hsz (by omega)
      subst hcc
      refine .inr ⟨g2, cap2, cur3, rfl, hb2, hg3, hc2, hm2, hs3, ?_⟩
      have hle : k * sz ≤ (n + m) * sz := by have := hk.length_le; rw [hv.1, h'.1] at this; exact this
      have e4 : cur3.toList.take (k * sz) = (xs ++ news).take (k * sz) := by
        rw [← ht3, List.take_take, Nat.min_eq_left hle]
      obtain ⟨r, hr⟩ := hk
      rw [e4, ← hr, ← hv.1, List.take_left]
    · exact .inr ⟨g2, cap2, cur2, rfl, hb2, (hgr.block g2 (Array.getElem?_eq_some_iff.1 hg2).1 (fun e => hgg (Option.some.inj e))).trans hg2, hc2, hm2, hs2, ht2⟩
section
variable {P : Program} {L : List (Nat × Value)} {w : World} {ty : TypeId}
theorem runs_append0N {t e : TypeId} {s x : Operand} {i : TypeInfo} {z : Value} {bytes g m c sz : Nat} {news : List Value} {ad : Addr} (ht : P.underlying t = some (.slice e)) (hi : P.info? e = some i) (hz : i.zero = some z)
    (hsize : i.size = sz) (hby : i.bytes = bytes) (hzs : z.cells.size = sz) (hsz : 0 < sz) (hs : vals L s = some (.slice (some ⟨g, 0, none⟩) 0 0)) (hx : vals L x = some (.slice (some ad) m c)) (hl : news.length = m * sz) (hnews : ∀ j u, news[j]? = some u → w.cell? (ad.add j) = some u)
    (h63 : m ≤ maxLen) (hbytes : m * bytes ≤ 140737488355328) (hm : 0 < m) :
    Runs P (.call { callee := .builtin .append, args := #[s, x], argTypes := #[t, t] }) ty L w (fun v w' => w'.ownsRow w.heap.size e sz v m news ∧ Below w.heap.size w w') := fun o a K Q ho _ hL hK => by
  have e1 := hL s (by simp [Op.operands, Call.operands]) _ hs
  have e2 := hL x (by simp [Op.operands, Call.operands]) _ hx
  obtain ⟨v', w', hr, h2, h3⟩ := run_append_arg_grows (P := P) w t o.type e i z sz bytes ht hi hz hsize hby hzs hsz ⟨g, 0, none⟩ 0 0 [] (by simp) (fun j u h => by simp at h) ad m c news hl hnews (by omega) (by omega) (by simpa using hbytes)
  unfold Oper.wp execOp
  simp only [ho, resolve, invoke, builtin, Sem.run_bind, Sem.run_pure, Result.andThen_ok, List.map_toArray, List.map_cons, List.map_nil, e1, e2, hr]
  rw [Nat.zero_add, List.nil_append] at h2
  exact hK v' w' ⟨h2, (Below.refl _ _).grown h3 (Nat.le_refl _) (fun k h => by cases h)⟩
end
end Go.Proofs.YtbcmglggplmkfaaDoor
/- One element more upon an own row, of any kind: what stays. Conditions: none of our own. -/
namespace Go.Proofs.YtbcmglggplmkfaaDoor
open Go.RowKit
set_option maxRecDepth 100000

/-- What stays where a row of elements of kind T is made that ends as Y. -/
def KR (T : TypeId) (sz B : Nat) (Y : List Value) (a b : World) : Prop :=
  Below B a b ∧ (∀ v k ys, ys <+: Y → a.ownsRow B T sz v k ys → b.ownsRow B T sz v k ys) ∧ (∀ i t cs, t ≠ T → Has a i t cs → Has b i t cs) ∧ (∀ i cs, cs.length = sz → Has a i T cs → Has b i T cs)
section
variable {T : TypeId} {sz B : Nat} {Y : List Value} {a b c : World}
theorem KR.of_below (h : Below a.heap.size a b) (hB : B ≤ a.heap.size) : KR T sz B Y a b :=
  ⟨h.mono hB, fun _ _ _ _ ho => owns_kept ho h, fun _ _ _ _ hg => hg.below h hg.lt, fun _ _ _ hg => hg.below h hg.lt⟩
theorem KR.refl : KR T sz B Y a a := ⟨Below.refl _ _, fun _ _ _ _ h => h, fun _ _ _ _ h => h, fun _ _ _ h => h⟩
theorem KR.trans (h : KR T sz B Y a b) (k : KR T sz B Y b c) : KR T sz B Y a c :=
  ⟨h.1.trans k.1, fun v n ys hy ho => k.2.1 v n ys hy (h.2.1 v n ys hy ho), fun i t cs ht ho => k.2.2.1 i t cs ht (h.2.2.1 i t cs ht ho), fun i cs ht ho => k.2.2.2 i cs ht (h.2.2.2 i cs ht ho)⟩
theorem KR.drew (h : KR T sz B Y a b) : KR T sz B Y a b.drew := ⟨h.1.drew, h.2.1, h.2.2.1, h.2.2.2⟩
end
section
variable {P : Program} {L : List (Nat × Value)} {w : World} {ty : TypeId}
theorem push_own1 {T SL : TypeId} {i : TypeInfo} {z : Value} {sz bytes B n g2 : Nat} {s x : Operand} {sv : Value} {xs news : List Value} (ht : P.underlying SL = some (.slice T)) (hi : P.info? T = some i) (hz : i.zero = some z) (hsi : i.size = sz) (hby : i.bytes = bytes) (hzs : z.cells.size = sz) (hsz : 0 < sz) (hsb : (n + 1) * bytes ≤ 140737488355328)
    (hs : vals L s = some sv) (hown : w.ownsRow B T sz sv n xs) (hx : vals L x = some (.slice (some ⟨g2, 0, none⟩) 1 1)) (hX : Has w g2 T news) (hl : news.length = sz) (hone : ∀ v ∈ news, v.oneCell' = true) (hn : n ≤ 10000) (hB : B ≤ w.heap.size) (hcap : 0 < n ∨ ∀ g m c, sv = .slice (some g) m c → c = 0) :
    Runs P (.call { callee := .builtin .append, args := #[s, x], argTypes := #[SL, SL] }) ty L w (fun u w2 => (∃ g3 c3, u = .slice (some ⟨g3, 0, none⟩) (n + 1) c3) ∧ w2.ownsRow B T sz u (n + 1) (xs ++ news) ∧ KR T sz B (xs ++ news) w w2) := by
  have hnews : ∀ j u, news[j]? = some u → w.cell? ((⟨g2, 0, none⟩ : Addr).add j) = some u := fun j u hu => by rw [add_zero_addr, Nat.zero_add, hX.cell]; exact hu
  have hl' : news.length = 1 * sz := by omega
  have h63 : n + 1 ≤ maxLen := by unfold maxLen; omega
  intro oo a K Q ho _ hL hK
  have e1 := hL s (by simp [Op.operands, Call.operands]) _ hs
  have e2 := hL x (by simp [Op.operands, Call.operands]) _ hx
  have hex : ∃ v' w', (Builtin.append_ #[SL, SL] oo.type #[sv, .slice (some ⟨g2, 0, none⟩) 1 1]).run P w = .ok v' w' ∧ ((∃ g3 c3, v' = .slice (some ⟨g3, 0, none⟩) (n + 1) c3) ∧ w'.ownsRow B T sz v' (n + 1) (xs ++ news) ∧ KR T sz B (xs ++ news) w w') := by
    rcases hown.2 with ⟨rfl, h0⟩ | ⟨g, cap, cur, rfl, hbg, hg, hcc, hcm, hcs, hct⟩
    · obtain ⟨v', w', hrun, h2, h3, h4, h5⟩ := run_append_own_at (P := P) w B SL oo.type T i _ sz _ ht hi hz hsi hby hzs hsz _ _ _ hown ⟨g2, 0, none⟩ 1 1 news hl' hnews hone h63 hsb hB
      have hbel : Below w.heap.size w w' := (Below.refl _ _).grown h3 (Nat.le_refl _) (fun k h => by cases h)
      have hne : v' ≠ .slice none 0 0 := fun e => absurd (h4.1 e).2 (by omega)
      refine ⟨v', w', hrun, ?_, h2, KR.of_below hbel hB⟩
      rcases h2.2 with ⟨e, _⟩ | ⟨g3, c3, _, rfl, _⟩
      · exact absurd e hne
      · exact ⟨g3, c3, rfl⟩
    · by_cases hrm : n + 1 ≤ cap
      · obtain ⟨w', hrun, h2, h3⟩ := run_append_fits (P := P) w B SL oo.type T i sz ht hi hsi g n cap _ hown ⟨g2, 0, none⟩ 1 1 news hl' hnews hone hrm
        have hcap1 : 1 < cap := by
          rcases hcap with h | h
          · omega
          · have := h _ _ _ rfl; omega
        have hblk : ∀ i' t' cs, (t' ≠ T ∨ cs.length = sz) → Has w i' t' cs → Has w' i' t' cs := fun i' t' cs ht' hi' => by
          have hne : some i' ≠ some g := fun hsv => by
            simp only [Option.some.injEq] at hsv
            subst hsv
            unfold Has at hi'
            rw [hi'] at hg
            simp only [Option.some.injEq, Obj.cells.injEq, and_true] at hg
            rcases ht' with h | h
            · exact h hg.2
            · have e3 : cur.size = cs.length := by rw [← hg.1]; simp
              rw [hcs, h] at e3
              have := Nat.mul_le_mul_right sz hcap1
              omega
          unfold Has
          rw [h3.block i' hi'.lt hne]
          exact hi'
        exact ⟨_, w', hrun, ⟨_, _, rfl⟩, h2, below_grown (Below.refl _ _) h3 (fun k hk => by cases hk; exact hbg) hB, fun v'' k ys hk hv => owns_pre hown hsz h2 h3 hv hk, fun i' t' cs ht' hi' => hblk i' t' cs (.inl ht') hi', fun i' cs ht' hi' => hblk i' T cs (.inr ht') hi'⟩
      · obtain ⟨v', w', hrun, h2, h3⟩ := run_append_arg_grows (P := P) w SL oo.type T i _ sz _ ht hi hz hsi hby hzs hsz ⟨g, 0, none⟩ n cap xs hown.1 (fun j u hj => by
          rw [add_zero_addr, Nat.zero_add]
          have hj' := hj
          rw [← hct, List.getElem?_take] at hj'
          split at hj'
          · have hh : Has w g T cur.toList := by show _ = _; rw [hg]
            rw [hh.cell]; exact hj'
          · cases hj') ⟨g2, 0, none⟩ 1 1 news hl' hnews (by omega) h63 hsb
        have hbel : Below w.heap.size w w' := (Below.refl _ _).grown h3 (Nat.le_refl _) (fun k h => by cases h)
        refine ⟨v', w', hrun, ?_, owns_mono h2 hB, KR.of_below hbel hB⟩
        rcases h2.2 with ⟨_, h0⟩ | ⟨g3, c3, _, rfl, _⟩
        · omega
        · exact ⟨g3, c3, rfl⟩
  obtain ⟨v', w', hr, hp⟩ := hex
  unfold Oper.wp execOp
  simp only [ho, resolve, invoke, builtin, Sem.run_bind, Sem.run_pure, Result.andThen_ok, List.map_toArray, List.map_cons, List.map_nil, e1, e2, hr]
  exact hK v' w' hp
end
/-- A cell of an own row. -/
theorem owns_rowK {w : World} {B n sz : Nat} {e : TypeId} {v : Value} {xs : List Value} (h : w.ownsRow B e sz v n xs) (hn : 0 < n) : ∃ g c, v = .slice (some ⟨g, 0, none⟩) n c ∧ B ≤ g ∧ g < w.heap.size ∧ w.rangeAt g 0 xs := by
  rcases h.2 with ⟨_, h0⟩ | ⟨g, c, cur, rfl, hb, hg, hc, hm, hs, ht⟩
  · omega
  · refine ⟨g, c, rfl, hb, (Array.getElem?_eq_some_iff.1 hg).1, fun j u hj => ?_⟩
    have hh : Has w g e cur.toList := by show _ = _; rw [hg]
    rw [← ht, List.getElem?_take] at hj
    split at hj
    · rw [Nat.zero_add, hh.cell]; exact hj
    · cases hj
end Go.Proofs.YtbcmglggplmkfaaDoor
/- Rows of vertices in memory. No condition. -/
namespace Go.Proofs.YtbcmglggplmkfaaDoor
open Go.RowKit
set_option maxRecDepth 100000

theorem undVx : Tryd.prog.underlying 33 = some (.slice 23) := by kernel_rfl
theorem infVx : (Tryd.prog.info? 23).map (fun i => (i.zero, i.size, i.bytes)) = some (some (.agg #[.int .i64 0, .int .i64 0, .bool false, .bool false, .int .i64 0]), 5, 32) := by kernel_rfl
def cellsV (es : List Vx) : List Value := es.flatMap vc
theorem cellsV_length (es : List Vx) : (cellsV es).length = es.length * 5 := by
  induction es with
  | nil => rfl
  | cons x xs ih => unfold cellsV at ih ⊢; rw [List.flatMap_cons, List.length_append, ih]; simp [vc]; omega
theorem cellsV_append (a b : List Vx) : cellsV (a ++ b) = cellsV a ++ cellsV b := by unfold cellsV; rw [List.flatMap_append]
theorem cellsV_one (e : Vx) : cellsV [e] = vc e := by simp [cellsV]
theorem cellsV_get : ∀ (es : List Vx) (i : Nat) (e : Vx), es[i]? = some e → ((cellsV es).drop (i * 5)).take 5 = vc e
  | x :: es, 0, e, h => by obtain rfl : x = e := by simpa using h
                           simp [cellsV, vc]
  | x :: es, i + 1, e, h => by
    have := cellsV_get es i e (by simpa using h)
    unfold cellsV at this ⊢
    rw [List.flatMap_cons, show (i + 1) * 5 = (vc x).length + i * 5 by simp [vc]; omega, List.drop_append, List.drop_eq_nil_of_le (by omega), List.nil_append, show (vc x).length + i * 5 - (vc x).length = i * 5 by omega]
    exact this
/-- The value v is a slice of the verts es. -/
def Verts (w : World) (v : Value) (es : List Vx) : Prop :=
  ∃ (A : Option Addr) (c : Nat), v = .slice A es.length c ∧ es.length ≤ c ∧ c ≤ maxLen ∧ (0 < es.length → ∃ b o, A = some ⟨b, o, none⟩ ∧ b < w.heap.size ∧ w.rangeAt b o (cellsV es))
theorem Verts.kept {w w' : World} {v : Value} {es : List Vx} (h : Verts w v es) (k : Below w.heap.size w w') : Verts w' v es := by
  obtain ⟨A, c, rfl, h1, h2, h4⟩ := h
  refine ⟨A, c, rfl, h1, h2, fun hp => ?_⟩
  obtain ⟨b, o, rfl, hb, hr⟩ := h4 hp
  exact ⟨b, o, rfl, Nat.lt_of_lt_of_le hb k.size, range_below hr k hb⟩
theorem verts_nil (w : World) : Verts w (.slice none 0 0) [] := ⟨none, 0, rfl, Nat.le_refl _, by unfold maxLen; omega, fun h => absurd h (by simp)⟩
theorem verts_own {w : World} {base : Nat} {v : Value} {n : Nat} {es : List Vx} (h : w.ownsRow base 23 5 v n (cellsV es)) (hn : es.length = n) : Verts w v es := by
  subst hn
  rcases h.2 with ⟨rfl, h0⟩ | ⟨g, cap, cur, rfl, hb, hg, h1, h2, h3, h4⟩
  · exact ⟨none, 0, by rw [h0], by omega, by unfold maxLen; omega, fun h => by omega⟩
  · refine ⟨_, cap, rfl, h1, h2, fun _ => ⟨g, 0, rfl, (Array.getElem?_eq_some_iff.1 hg).1, fun j v hv => ?_⟩⟩
    rw [← h4, List.getElem?_take] at hv
    split at hv
    · simp only [World.cell?, hg, Nat.zero_add]; simpa using hv
    · cases hv
theorem verts_has {w : World} {g : Nat} {es : List Vx} (h : Has w g 23 (cellsV es)) (hc : es.length ≤ maxLen) : Verts w (.slice (some ⟨g, 0, none⟩) es.length es.length) es :=
  ⟨_, _, rfl, Nat.le_refl _, hc, fun _ => ⟨g, 0, rfl, h.lt, fun j v hv => by rw [Nat.zero_add, h.cell]; exact hv⟩⟩
theorem verts_at {w : World} {b o : Nat} {es : List Vx} (h : w.rangeAt b o (cellsV es)) {i : Nat} {e : Vx} (hi : es[i]? = some e) : w.rangeAt b (o + i * 5) (vc e) := by
  rw [← cellsV_get es i e hi]
  exact range_sub h (i * 5) 5
/-- As Verts, and its cells lie at or behind B. -/
def VertsB (B : Nat) (w : World) (v : Value) (es : List Vx) : Prop :=
  ∃ (A : Option Addr) (c : Nat), v = .slice A es.length c ∧ es.length ≤ c ∧ c ≤ maxLen ∧ (0 < es.length → ∃ b o, A = some ⟨b, o, none⟩ ∧ B ≤ b ∧ b < w.heap.size ∧ w.rangeAt b o (cellsV es))
theorem VertsB.verts {B : Nat} {w : World} {v : Value} {es : List Vx} (h : VertsB B w v es) : Verts w v es := by
  obtain ⟨A, c, rfl, h1, h2, h3⟩ := h
  exact ⟨A, c, rfl, h1, h2, fun h0 => by obtain ⟨b, o, rfl, _, hb, hr⟩ := h3 h0; exact ⟨b, o, rfl, hb, hr⟩⟩
theorem VertsB.kept {B : Nat} {w w' : World} {v : Value} {es : List Vx} (h : VertsB B w v es) (k : Below w.heap.size w w') : VertsB B w' v es := by
  obtain ⟨A, c, rfl, h1, h2, h3⟩ := h
  exact ⟨A, c, rfl, h1, h2, fun h0 => by obtain ⟨b, o, rfl, hB, hb, hr⟩ := h3 h0; exact ⟨b, o, rfl, hB, Nat.lt_of_lt_of_le hb k.size, range_below hr k hb⟩⟩
theorem VertsB.mono {B B' : Nat} {w : World} {v : Value} {es : List Vx} (h : VertsB B w v es) (k : B' ≤ B) : VertsB B' w v es := by
  obtain ⟨A, c, rfl, h1, h2, h3⟩ := h
  exact ⟨A, c, rfl, h1, h2, fun h0 => by obtain ⟨b, o, rfl, hB, hb, hr⟩ := h3 h0; exact ⟨b, o, rfl, Nat.le_trans k hB, hb, hr⟩⟩
theorem VertsB.setRow {B : Nat} {w : World} {v : Value} {es : List Vx} (h : VertsB B w v es) {g : Nat} (hg : g < B) (cs : Array Value) : VertsB B (w.setRow g cs) v es := by
  obtain ⟨A, c, rfl, h1, h2, h3⟩ := h
  refine ⟨A, c, rfl, h1, h2, fun h0 => ?_⟩
  obtain ⟨b, o, rfl, hB, hb, hr⟩ := h3 h0
  refine ⟨b, o, rfl, hB, by simpa [World.setRow] using hb, fun j u hj => ?_⟩
  have := setRow_other w g b cs (by omega)
  have h5 := hr j u hj
  simp only [World.cell?] at h5 ⊢
  rw [this]; exact h5
/-- What stays where a row of vertices that is made ends as Y. -/
def KYV (B : Nat) (Y : List Value) (a b : World) : Prop := Below B a b ∧ (∀ v k ys, ys <+: Y → a.ownsRow B 23 5 v k ys → b.ownsRow B 23 5 v k ys) ∧ (∀ i t cs, t ≠ 23 → Has a i t cs → Has b i t cs) ∧ (∀ i cs, cs.length = 5 → Has a i 23 cs → Has b i 23 cs)
theorem KYV.of_below {B : Nat} {Y : List Value} {a b : World} (h : Below a.heap.size a b) (hB : B ≤ a.heap.size) : KYV B Y a b :=
  ⟨h.mono hB, fun _ _ _ _ ho => owns_kept ho h, fun _ _ _ _ hg => hg.below h hg.lt, fun _ _ _ hg => hg.below h hg.lt⟩
theorem KYV.refl {B : Nat} {Y : List Value} {a : World} : KYV B Y a a := ⟨Below.refl _ _, fun _ _ _ _ h => h, fun _ _ _ _ h => h, fun _ _ _ h => h⟩
theorem KYV.trans {B : Nat} {Y : List Value} {a b c : World} (h : KYV B Y a b) (k : KYV B Y b c) : KYV B Y a c :=
  ⟨h.1.trans k.1, fun v n ys hy ho => k.2.1 v n ys hy (h.2.1 v n ys hy ho), fun i t cs ht ho => k.2.2.1 i t cs ht (h.2.2.1 i t cs ht ho), fun i cs ht ho => k.2.2.2 i cs ht (h.2.2.2 i cs ht ho)⟩
theorem KYV.drew {B : Nat} {Y : List Value} {a b : World} (h : KYV B Y a b) : KYV B Y a b.drew := ⟨h.1.drew, h.2.1, h.2.2.1, h.2.2.2⟩
section
variable {L : List (Nat × Value)} {w : World} {ty : TypeId}
/-- An empty row of vertices. -/
theorem owns_emptyV {g B : Nat} (h : w.heap[g]? = some (.cells #[] 23 (0, 0))) (hB : B ≤ g) : w.ownsRow B 23 5 (.slice (some ⟨g, 0, none⟩) 0 0) 0 [] :=
  ⟨rfl, .inr ⟨g, 0, #[], rfl, hB, h, Nat.le_refl _, by unfold maxLen; omega, rfl, rfl⟩⟩
theorem none_ownV {B : Nat} (hB : B ≤ w.heap.size) : Runs Tryd.prog (.buildSlice 33 0 #[]) ty L w (fun v w' => (∃ g, v = .slice (some ⟨g, 0, none⟩) 0 0 ∧ w'.ownsRow B 23 5 v 0 []) ∧ Below w.heap.size w w') := by
  obtain ⟨i48, hi48, hz48, hs48, hb48⟩ := info_parts infVx
  exact (runs_buildNone undVx hi48).mono (by rintro v w3 ⟨rfl, rfl⟩; exact ⟨⟨_, rfl, owns_emptyV (heap_alloc_new _ _) hB⟩, (Below.refl _ _).alloc (Nat.le_refl _) _⟩)
/-- A copy upon an empty row: all else stays. -/
theorem copy_ownV {B : Nat} {s x : Operand} {g : Nat} {v : Value} {es : List Vx} (hE : Verts w v es) (hn : es.length ≤ 100000) (hB : B ≤ w.heap.size) (hs2 : vals L s = some (.slice (some ⟨g, 0, none⟩) 0 0)) (h0 : w.ownsRow B 23 5 (.slice (some ⟨g, 0, none⟩) 0 0) 0 []) (hx : vals L x = some v) :
    Runs Tryd.prog (.call { callee := .builtin .append, args := #[s, x], argTypes := #[33, 33] }) ty L w (fun u w2 => (∃ g2 c2, u = .slice (some ⟨g2, 0, none⟩) es.length c2 ∧ (es.length = 0 → c2 = 0)) ∧ w2.ownsRow B 23 5 u es.length (cellsV es) ∧ Below w.heap.size w w2) := by
  obtain ⟨i48, hi48, hz48, hs48, hb48⟩ := info_parts infVx
  obtain ⟨A, c, rfl, hc1, hc2, hA⟩ := hE
  by_cases hz : es.length = 0
  · obtain rfl : es = [] := List.eq_nil_of_length_eq_zero hz
    exact (runs_appendNoneG undVx hi48 hs2 (Nat.le_refl _) (by simp) hx).mono (by
      rintro u w2 ⟨rfl, rfl⟩
      exact ⟨⟨g, 0, rfl, fun _ => rfl⟩, h0, Below.refl _ _⟩)
  · obtain ⟨b, o, rfl, hb, hr⟩ := hA (by omega)
    exact (runs_append0N (m := es.length) undVx hi48 hz48 hs48 hb48 rfl (by omega) hs2 hx (news := cellsV es) (cellsV_length es) (fun j u hu => by rw [add_lit']; exact hr j u hu) (by unfold maxLen; omega) (by omega) (by omega)).mono (by
      rintro u w2 ⟨h3, h4⟩
      refine ⟨?_, owns_mono h3 hB, h4⟩
      rcases h3.2 with ⟨_, h5⟩ | ⟨g2, c2, _, rfl, _⟩
      · omega
      · exact ⟨g2, c2, rfl, fun h => absurd h hz⟩)
/-- A slice of one vertex. -/
theorem runs_oneV {x : Operand} {e : Vx} (hx : vals L x = some (vv e)) : Runs Tryd.prog (.buildSlice 33 1 #[(0, x)]) ty L w (fun v w' => ∃ g2, v = .slice (some ⟨g2, 0, none⟩) 1 1 ∧ Has w' g2 23 (vc e) ∧ Below w.heap.size w w') := by
  obtain ⟨i48, hi48, hz48, hs48, hb48⟩ := info_parts infVx
  exact (runs_buildSliceG (sz := 5) (pv := [(0, vv e)]) (by simp [hx]) undVx hi48 hz48 hs48 (by omega) (by omega) (cells := (vc e).toArray) (by kernel_rfl)).mono (by rintro v w5 ⟨rfl, rfl⟩; exact ⟨_, rfl, Has.new w 23 (vc e), (Below.refl _ _).alloc (Nat.le_refl _) _⟩)
/-- A vertex of a slice, loaded. -/
theorem runs_loadVx {x : Operand} {g o' : Nat} {e : Vx} (hx : vals L x = some (.pointer (some ⟨g, o', none⟩))) (hg : w.rangeAt g o' (vc e)) : Runs Tryd.prog (.load 23 x) ty L w (Is (vv e) w) :=
  runs_loadMid hx hg Tryd.underlying23 rfl (by rw [sz28]; rfl)
end
end Go.Proofs.YtbcmglggplmkfaaDoor
/- How slices of vertices come in. No condition. -/
namespace Go.Proofs.YtbcmglggplmkfaaDoor
open Go.ChangeShapes Go.WideShapes Go.ChangeAt Go.RowKit
set_option maxRecDepth 100000

theorem ce4 : Tryd.prog.cellsOf 4 = 1 := by kernel_rfl
theorem ce3 : Tryd.prog.cellsOf 3 = 1 := by kernel_rfl
theorem ce2 : Tryd.prog.cellsOf 2 = 1 := by kernel_rfl
theorem ce28 : Tryd.prog.cellsOf 23 = 5 := by kernel_rfl

theorem und2 : Tryd.prog.underlying 2 = some (.int .i64) := by kernel_rfl
section
variable {H : Type} {enc : TypeId × Value → H} {W : World} {base b0 : Nat} {r : Reach} {sp : Nat → Bool} {held : Bool} {v : Value} {d : DataW H} {p : List MemPlace}
theorem open_vertex (hv : Value.okWide Tryd.prog W r b0 23 v) (h : DataW.Trod enc Tryd.prog W base sp held 23 v d p) : ∃ x : Vx, v = vv x := by
  obtain ⟨cs, rfl, hc⟩ := okWide_struct Tryd.underlying23 hv
  obtain ⟨fuel, hf⟩ := h
  obtain ⟨xs, n, _, _, hl, hlen, hf⟩ := DataW.trod_struct Tryd.underlying23 hf
  rw [ce28] at hc
  obtain ⟨l⟩ := cs
  match l, hc with
  | [c0, c1, c2, c3, c4], _ =>
    have f0 : DataW.trod enc Tryd.prog W base sp held n 3 (([c0, c1, c2, c3, c4].drop 0).take (Tryd.prog.cellsOf 3)) = xs[0]? := hf 0 _ rfl
    have f1 : DataW.trod enc Tryd.prog W base sp held n 2 (([c0, c1, c2, c3, c4].drop 1).take (Tryd.prog.cellsOf 2)) = xs[1]? := hf 1 _ rfl
    have f2 : DataW.trod enc Tryd.prog W base sp held n 4 (([c0, c1, c2, c3, c4].drop 2).take (Tryd.prog.cellsOf 4)) = xs[2]? := hf 2 _ rfl
    have f3 : DataW.trod enc Tryd.prog W base sp held n 4 (([c0, c1, c2, c3, c4].drop 3).take (Tryd.prog.cellsOf 4)) = xs[3]? := hf 3 _ rfl
    have f4 : DataW.trod enc Tryd.prog W base sp held n 2 (([c0, c1, c2, c3, c4].drop 4).take (Tryd.prog.cellsOf 2)) = xs[4]? := hf 4 _ rfl
    rw [ce3] at f0
    rw [ce2] at f1 f4
    rw [ce4] at f2 f3
    match xs, hlen with
    | [x0, x1, x2, x3, x4], _ =>
      obtain ⟨a, ha, _, _⟩ := DataW.trod_int und3 f0
      obtain ⟨b, hb, _, _⟩ := DataW.trod_int und2 f1
      obtain ⟨c, hc, _⟩ := DataW.trod_bool und4 f2
      obtain ⟨e, he, _⟩ := DataW.trod_bool und4 f3
      obtain ⟨f, hf, _, _⟩ := DataW.trod_int und2 f4
      simp at ha hb hc he hf
      exact ⟨⟨a, b, c, e, f⟩, by rw [ha, hb, hc, he, hf]⟩
end
section
variable {H : Type} {enc : TypeId × Value → H} {W : World} {base b0 : Nat} {r : Reach} {sp : Nat → Bool} {held : Bool} {v : Value} {d : DataW H} {p : List MemPlace}
theorem open_vx0 {fuel : Nat} {cs : List Value} {x : DataW H × List MemPlace} (h : DataW.trod enc Tryd.prog W base sp held fuel 23 cs = some x) : ∃ e : Vx, cs = vc e := by
  obtain ⟨xs, n, _, _, hl, hlen, hf⟩ := DataW.trod_struct Tryd.underlying23 h
  rw [ce28] at hl
  match cs, hl with
  | [c0, c1, c2, c3, c4], _ =>
    have f0 : DataW.trod enc Tryd.prog W base sp held n 3 (([c0, c1, c2, c3, c4].drop 0).take (Tryd.prog.cellsOf 3)) = xs[0]? := hf 0 _ rfl
    have f1 : DataW.trod enc Tryd.prog W base sp held n 2 (([c0, c1, c2, c3, c4].drop 1).take (Tryd.prog.cellsOf 2)) = xs[1]? := hf 1 _ rfl
    have f2 : DataW.trod enc Tryd.prog W base sp held n 4 (([c0, c1, c2, c3, c4].drop 2).take (Tryd.prog.cellsOf 4)) = xs[2]? := hf 2 _ rfl
    have f3 : DataW.trod enc Tryd.prog W base sp held n 4 (([c0, c1, c2, c3, c4].drop 3).take (Tryd.prog.cellsOf 4)) = xs[3]? := hf 3 _ rfl
    have f4 : DataW.trod enc Tryd.prog W base sp held n 2 (([c0, c1, c2, c3, c4].drop 4).take (Tryd.prog.cellsOf 2)) = xs[4]? := hf 4 _ rfl
    rw [ce3] at f0
    rw [ce2] at f1 f4
    rw [ce4] at f2 f3
    match xs, hlen with
    | [x0, x1, x2, x3, x4], _ =>
      obtain ⟨a, ha, _, _⟩ := DataW.trod_int und3 f0
      obtain ⟨b, hb, _, _⟩ := DataW.trod_int und2 f1
      obtain ⟨c, hc, _⟩ := DataW.trod_bool und4 f2
      obtain ⟨e, he, _⟩ := DataW.trod_bool und4 f3
      obtain ⟨f, hf, _, _⟩ := DataW.trod_int und2 f4
      simp at ha hb hc he hf
      exact ⟨⟨a, b, c, e, f⟩, by simp [vc, ha, hb, hc, he, hf]⟩
theorem cells5 {a : Addr} {cs : List Value} (h : W.cells? base a 5 = some cs) : ∀ j u, cs[j]? = some u → W.cell? (a.add j) = some u := by
  unfold World.cells? at h
  split at h
  · intro j u hj
    have hlen : cs.length = 5 := by simpa using Lib.mapM_length h
    have hj3 : j < 5 := by have := (List.getElem?_eq_some_iff.1 hj).1; omega
    obtain ⟨b, hb, hf⟩ := Lib.mapM_at h j j (by simp [hj3])
    rw [hb] at hj
    rw [hf, ← hj]
  · cases h
theorem open_vxs {fuel : Nat} {c1 : Value} {x : DataW H × List MemPlace} (h : DataW.trod enc Tryd.prog W base sp held fuel 33 [c1] = some x) (hlt : ∀ q ∈ x.2, q.block < W.heap.size) : ∃ es : List Vx, Verts W c1 es := by
  rcases DataW.trod_slice undVx h with ⟨hc, _⟩ | ⟨a, len, cap, elems, rest, n, _, hc, hx, _, hl, hm, hel, hcell, _⟩
  · simp only [List.cons.injEq, and_true] at hc
    subst hc
    exact ⟨[], verts_nil W⟩
  · simp only [List.cons.injEq, and_true] at hc
    subst hc
    rw [ce28] at hcell hx
    have hget : ∀ i, i < len → ∃ e : Vx, (∀ j u, (vc e)[j]? = some u → W.cell? ((a.add (i * 5)).add j) = some u) := fun i hi => by
      have h1 := hcell i hi
      rw [List.getElem?_eq_getElem (by omega)] at h1
      rw [Option.bind_eq_some_iff] at h1
      obtain ⟨cs, hcs, ht⟩ := h1
      obtain ⟨e, rfl⟩ := open_vx0 ht
      exact ⟨e, cells5 hcs⟩
    obtain ⟨f, hf⟩ : ∃ f : Nat → Vx, (∀ i, i < len → ∀ j u, (vc (f i))[j]? = some u → W.cell? ((a.add (i * 5)).add j) = some u) :=
      ⟨fun i => if h : i < len then (hget i h).choose else noVx, fun i hi => by simp only [hi, dif_pos]; exact (hget i hi).choose_spec⟩
    refine ⟨(List.range len).map f, ⟨some a, cap, by simp, by simpa using hl, hm, fun h0 => ?_⟩⟩
    simp only [List.length_map, List.length_range] at h0
    obtain ⟨b, off, spot⟩ := a
    have hspot : spot = none := by
      have := hf 0 h0 0 _ rfl
      simpa [Addr.add] using World.cell?_spot this
    subst hspot
    refine ⟨b, off, rfl, ?_, fun j u hj => ?_⟩
    · refine hlt (.cell b off) ?_
      rw [hx]
      exact List.mem_append_left _ (MemPlace.mem_row.2 ⟨0, by omega, by simp⟩)
    · have hj3 : j < len * 5 := by have := (List.getElem?_eq_some_iff.1 hj).1; rw [cellsV_length] at this; simpa using this
      have hq : j / 5 < len := by omega
      have h1 := cellsV_get ((List.range len).map f) (j / 5) (f (j / 5)) (by simp [hq])
      have h2 : (vc (f (j / 5)))[j % 5]? = some u := by
        rw [← h1, List.getElem?_take, if_pos (Nat.mod_lt _ (by omega)), List.getElem?_drop, show j / 5 * 5 + j % 5 = j by omega]
        exact hj
      have h3 := hf (j / 5) hq (j % 5) u h2
      rw [add_lit', add_lit'] at h3
      rw [show off + j / 5 * 5 + j % 5 = off + j by omega] at h3
      exact h3
theorem open_verts (hv : Value.okWide Tryd.prog W r b0 33 v) (h : DataW.Trod enc Tryd.prog W base sp held 33 v d p) (hlt : ∀ x ∈ p, x.block < W.heap.size) : ∃ es : List Vx, Verts W v es := by
  obtain ⟨a, len, cap, rfl⟩ := okWide_slice undVx hv
  obtain ⟨fuel, hf⟩ := h
  have hf' : DataW.trod enc Tryd.prog W base sp held fuel 33 [.slice a len cap] = some (d, p) := hf
  exact open_vxs hf' hlt
end
end Go.Proofs.YtbcmglggplmkfaaDoor
