/- Layer 11: what the program's calls are asked to answer. No condition. -/
import Derived.Test.YthkbnbnfjnliaaaDoorYBMath
import Derived.Test.YthkbnbnfjnliaaaDoorJ34
import Derived.Test.YthkbnbnfjnliaaaDoorF8FRSort
import Derived.Test.YthkbnbnfjnliaaaDoorTRefB
import Derived.Test.YthkbnbnfjnliaaaDoorBehind
import Derived.ProofKit
import Derived.LaidMore
import Derived.OpenShut
import Derived.ShutString
import Derived.Stop.Joined
import Derived.Test.YthkbnbnfjnliaaaDoorJ08
import Derived.Test.YthkbnbnfjnliaaaDoorJ09
import Derived.ChangeOld
import Derived.Below
import Derived.Test.YthkbnbnfjnliaaaDoorJ25
import Derived.Test.YthkbnbnfjnliaaaDoorJ26
import Derived.Test.YthkbnbnfjnliaaaDoorWRefNum
import Derived.Test.YthkbnbnfjnliaaaDoorJ19
import Derived.Test.YthkbnbnfjnliaaaDoorJ14
import Derived.Deep.RegionLaw
import Derived.Deep.AppendLies
import Derived.BigRegion
import Derived.Test.YthkbnbnfjnliaaaDoorJ24
import Derived.Lib.BufferWrite
import Derived.Deep.WholeRow
import Derived.Deep.MidRow
namespace Go.Proofs.YthkbnbnfjnliaaaDoor
open Go.RowKit
set_option maxRecDepth 100000

theorem goes5 : Goes Tryd.prog 5 := goes_of Tryd.func5 (by kernel_rfl) rfl
theorem goes6 : Goes Tryd.prog 6 := goes_of Tryd.func6 (by kernel_rfl) rfl
theorem goes7 : Goes Tryd.prog 7 := goes_of Tryd.func7 (by kernel_rfl) rfl
theorem goes8 : Goes Tryd.prog 8 := goes_of Tryd.func8 (by kernel_rfl) rfl
theorem goes9 : Goes Tryd.prog 9 := goes_of Tryd.func9 (by kernel_rfl) rfl
theorem goes10 : Goes Tryd.prog 10 := goes_of Tryd.func10 (by kernel_rfl) rfl
theorem goes11 : Goes Tryd.prog 11 := goes_of Tryd.func11 (by kernel_rfl) rfl
theorem goes27 : Goes Tryd.prog 27 := goes_of Tryd.func27 (by kernel_rfl) rfl
theorem goes28 : Goes Tryd.prog 28 := goes_of Tryd.func28 (by kernel_rfl) rfl
theorem goes43 : Goes Tryd.prog 43 := goes_of Tryd.func43 (by kernel_rfl) rfl
theorem goes45 : Goes Tryd.prog 45 := goes_of Tryd.func45 (by kernel_rfl) rfl
/-- Each field within 64 bits. -/
def FitsM (l : List E) : Prop := ∀ m ∈ l, (-9223372036854775808 ≤ m.1 ∧ m.1 ≤ 9223372036854775807) ∧ (-9223372036854775808 ≤ m.2.1 ∧ m.2.1 ≤ 9223372036854775807) ∧ -9223372036854775808 ≤ m.2.2 ∧ m.2.2 ≤ 9223372036854775807
theorem FitsM.sort {l : List E} (h : FitsM l) : FitsM (sortM l) := fun m hm => h m (sortM_mem.1 hm)
theorem FitsM.sub {l m : List E} (h : FitsM l) (hs : ∀ x ∈ m, x ∈ l) : FitsM m := fun x hx => h x (hs x hx)
def putM (l : List E) : ByteArray := if rightM l = true then S (bytesM l) else S []
def chkM (l : List E) : Int := if rightM l = true then 0 else 110
def rootM (l : List E) : List Nat := Tree.root l.length (Tree.top (rowsM l))
theorem rootM_len (l : List E) : (rootM l).length = 32 := root_len _ _
theorem chkM_ok {l : List E} (h : rightM l = true) : chkM l = 0 := if_pos h
theorem chkM_bad {l : List E} (h : ¬ rightM l = true) : chkM l = 110 := if_neg h
theorem bl_putM {l : List E} (h : rightM l = true) : bl (putM l) = bytesM l := by unfold putM; rw [if_pos h, bl_S (bytesM_lt l)]
theorem rowsS_map (l : List E) : ((rowsM l).map S).map bl = rowsM l := by
  rw [List.map_map]
  conv => rhs; rw [← List.map_id (rowsM l)]
  refine List.map_congr_left (fun r hr => ?_)
  obtain ⟨m, _, rfl⟩ := List.mem_map.1 hr
  exact bl_S (rowM_lt m)
theorem rowsS_small {l : List E} (h : FitsM l) : ∀ s ∈ (rowsM l).map S, s.size ≤ 30 := fun s hs => by
  obtain ⟨r, hr, rfl⟩ := List.mem_map.1 hs
  obtain ⟨m, hm, rfl⟩ := List.mem_map.1 hr
  obtain ⟨h1, h2, h3⟩ := h m (sortM_mem.1 hm)
  rw [S_size]
  exact rowM_size (by omega) (by omega) h3.1 h3.2
theorem rowsS_root (l : List E) : Tree.root ((rowsM l).map S).length (Tree.top (((rowsM l).map S).map bl)) = rootM l := by
  rw [rowsS_map, List.length_map, rowsM_length]; rfl
/-- What is asked of the program's calls. -/
def PutC : Prop := ∀ (l : List E) (v : Value) (w : World), Edges w v l → l.length ≤ 10000 → Ans 6 [v] w (fun u w' => u = .tuple #[.string (putM l), .int .i64 (chkM l)] ∧ Below w.heap.size w w')
def GetC : Prop := ∀ (s : ByteArray) (w : World), s.size ≤ 10000 → Ans 5 [.string s] w (fun u w' => ∃ v, u = .tuple #[v, .int .i64 ((getM (bl s)).2 : Int)] ∧ Edges w' v (getM (bl s)).1 ∧ Below w.heap.size w w')
def ChkC : Prop := ∀ (l : List E) (v : Value) (w : World), Edges w v l → l.length ≤ 10000 → Ans 8 [v] w (fun u w' => u = .int .i64 (chkM l) ∧ Below w.heap.size w w')
def RowsC : Prop := ∀ (l : List E) (v : Value) (w : World), Edges w v l → l.length ≤ 10000 → FitsM l → Ans 11 [v] w (fun u w' => Strs w' u ((rowsM l).map S) ∧ Below w.heap.size w w')
def RootC : Prop := ∀ (l : List E) (v : Value) (w : World), Edges w v l → l.length ≤ 10000 → FitsM l → Kept w → Ans 9 [v] w (fun u w' => u = .agg (U8 (rootM l)).toArray ∧ Below w.heap.size w w')
def AwkC : Prop := ∀ (w : World), Kept w → Ans 4 [] w (fun u w' => u = .bool true ∧ Below w.heap.size w w')
end Go.Proofs.YthkbnbnfjnliaaaDoor
/- How messages and numbers come in. No condition. -/
namespace Go.Proofs.YthkbnbnfjnliaaaDoor
open Go.ChangeShapes Go.WideShapes Go.ChangeAt Go.RowKit
set_option maxRecDepth 100000

end Go.Proofs.YthkbnbnfjnliaaaDoor
/- What the card's listed table gives the walks: its 64 cells. No condition. -/
namespace Go.Proofs.YthkbnbnfjnliaaaDoor
open Go.ChangeShapes Go.WideShapes Go.ChangeAt Go.RowKit

def laidK : List (String × DataW Unit) := [("modillion/hash.constants", Rows.laid_modillion_hash_constants)]
theorem own : ownKnob Tryd.prog.godebug = none := by kernel_rfl
theorem gK : Tryd.prog.globalNamed "modillion/hash.constants" = some 0 := by kernel_rfl
theorem tK : (Tryd.prog.globals[0]?).map (·.type) = some 137 := by kernel_rfl
theorem c60 : Tryd.prog.cellsOf 114 = 1 := by kernel_rfl
theorem und60 : Tryd.prog.underlying 114 = some (.int .u32) := by kernel_rfl

theorem datum_is : (Rows.laid_modillion_hash_constants : DataW Unit) = .agg (Sha.K.map fun n : Nat => .lit (.int .u32 (n : Int))) := by rfl

/-- The door's own heap meets the condition. -/
theorem door_met (os : Os) (args : Array Value) : laidMetH Tryd.prog laidK ((World.doorLaid Tryd.prog 400 os).forCall (fun _ _ => 0) ⟨#[], args, []⟩).memory :=
  laidMetH_of_parts3 (fuel := 8) (laidMet_of_run' 8 (by kernel_rfl) (by kernel_rfl)) (by kernel_rfl) (by kernel_rfl)

/-- What the condition gives the walks: the table's cells. -/
theorem kept_of_laid {W : World} (h : laidMetH Tryd.prog laidK W) : Kept W := by
  rw [MakeChecks.laidMetH_plain _ _ _ (by kernel_rfl)] at h
  obtain ⟨ps, ⟨g0, t0, cs0, f0, p0, q0, hg0, ht0, hv0, hd0, _, _⟩, _, _⟩ := h
  obtain rfl := Option.some.inj (gK.symm.trans hg0)
  obtain rfl := Option.some.inj (tK.symm.trans ht0)
  obtain ⟨xs, m, _, hx, hlen, hn, hel⟩ := DataW.trod_array und69 hd0
  rw [datum_is] at hx
  simp only [Prod.mk.injEq, DataW.agg.injEq] at hx
  intro i hi
  have h1 := hel i hi
  rw [c60] at h1
  have hxi : xs[i]? = some (xs[i]'(by omega)) := List.getElem?_eq_getElem _
  rw [hxi] at h1
  obtain ⟨n, e1, e2, _⟩ := DataW.trod_int und60 h1
  have hK : i < Sha.K.length := hi
  have h2 : (xs.map (·.1))[i]? = some (.lit (.int .u32 (Sha.K.getD i 0 : Nat))) := by
    rw [← hx.1, List.getElem?_map, List.getElem?_eq_getElem hK, List.getD_eq_getElem?_getD, List.getElem?_eq_getElem hK]
    rfl
  rw [List.getElem?_map, hxi, e2] at h2
  have hnK : n = (Sha.K.getD i 0 : Nat) := by simpa using h2
  rw [World.var?_cell hg0 hv0 i]
  have h3 : cs0.toList[i]? = some (.int .u32 n) := by
    have := congrArg (fun l => l[0]?) e1
    simp only [List.getElem?_take, List.getElem?_drop, Nat.mul_one, Nat.add_zero] at this
    simpa using this
  rw [← hnK]
  simpa using h3
end Go.Proofs.YthkbnbnfjnliaaaDoor
/- How an argument that is a sum comes in: 32 bytes. No condition. -/
namespace Go.Proofs.YthkbnbnfjnliaaaDoor
open Go.ChangeShapes Go.WideShapes Go.ChangeAt Go.RowKit

theorem laidOut : laidOutB Tryd.prog = true := by kernel_rfl
theorem c5 : Tryd.prog.cellsOf 5 = 1 := by kernel_rfl
theorem und4 : Tryd.prog.underlying 4 = some .bool := by kernel_rfl

end Go.Proofs.YthkbnbnfjnliaaaDoor
/- The wire in layer 11: texts written and read. Conditions: at most 100000 bytes. -/
namespace Go.Proofs.YthkbnbnfjnliaaaDoor
open Go.RowKit
set_option maxRecDepth 100000

theorem goes14 : Goes Tryd.prog 14 := goes_of Tryd.func14 (by kernel_rfl) rfl
theorem goes16 : Goes Tryd.prog 16 := goes_of Tryd.func16 (by kernel_rfl) rfl
theorem goes18 : Goes Tryd.prog 18 := goes_of Tryd.func18 (by kernel_rfl) rfl
theorem goes21 : Goes Tryd.prog 21 := goes_of Tryd.func21 (by kernel_rfl) rfl
theorem goes30 : Goes Tryd.prog 30 := goes_of Tryd.func30 (by kernel_rfl) rfl
theorem goes31 : Goes Tryd.prog 31 := goes_of Tryd.func31 (by kernel_rfl) rfl
theorem goes36 : Goes Tryd.prog 36 := goes_of Tryd.func36 (by kernel_rfl) rfl
theorem goes49 : Goes Tryd.prog 49 := goes_of Tryd.func49 (by kernel_rfl) rfl
theorem rdd_text {b e : Nat} {w : World} {s : ByteArray} {most : Int} (h : In w b s e) (hs : s.size ≤ 100000) (hm1 : -9223372036854775808 ≤ most) (hm2 : most ≤ 9223372036854775807) : Ans 16 [.pointer (some ⟨b, 0, none⟩), .int .i64 most] w (fun u w' => u = .string (textRes s e most).1 ∧ Rdd w b (textRes s e most).2.1 (textRes s e most).2.2 w') :=
  (inText_any b s e most w hs hm1 hm2 h).mono (by rintro x w' ⟨rfl, k⟩; exact ⟨_, rfl, rfl, k.1, fr_but k.2⟩)
theorem rdd_err {b e : Nat} {w : World} {s : ByteArray} (h : In w b s e) : Ans 18 [.pointer (some ⟨b, 0, none⟩)] w (Is (.int .i64 (e : Int)) w) :=
  (err_any b s e w h).mono (by rintro x w' ⟨rfl, rfl⟩; exact ⟨_, rfl, rfl, rfl⟩)
theorem textOf_rd (s : ByteArray) : bl (textOf s 40 (Wire.rd (bl s))).1 = (rdT 40 (bl s)).1 ∧ (textOf s 40 (Wire.rd (bl s))).2 = (rdT 40 (bl s)).2 := by
  unfold textOf rdT
  rw [bl_length]
  by_cases h1 : (Wire.rd (bl s)).2.2 = 0
  · by_cases h2 : 40 < (Wire.rd (bl s)).1
    · rw [if_neg (by simp [h1]), if_pos (by omega), if_neg (by simp [h1]), if_pos h2]; exact ⟨rfl, rfl⟩
    · by_cases h3 : s.size - (Wire.rd (bl s)).2.1 < (Wire.rd (bl s)).1
      · rw [if_neg (by simp [h1]), if_neg (by omega), if_pos h3, if_neg (by simp [h1]), if_neg h2, if_pos h3]; exact ⟨rfl, rfl⟩
      · rw [if_neg (by simp [h1]), if_neg (by omega), if_neg h3, if_neg (by simp [h1]), if_neg h2, if_neg h3]
        refine ⟨?_, rfl⟩
        rw [bl_sub, Nat.add_sub_cancel_left]
  · rw [if_pos h1, if_pos h1]; exact ⟨rfl, rfl⟩
/-- A text of at most 40 bytes that is read, by the plain mathematics. -/
theorem textRes40 (s : ByteArray) : bl (textRes s 0 40).1 = (rdT 40 (bl s)).1 ∧ (textRes s 0 40).2.2 = (rdT 40 (bl s)).2.2 ∧ bl (textRes s 0 40).2.1 = (bl s).drop (rdT 40 (bl s)).2.1 := by
  obtain ⟨t1, t2⟩ := textOf_rd s
  have e : textRes s 0 40 = ((textOf s 40 (Wire.rd (bl s))).1, cut s (textOf s 40 (Wire.rd (bl s))).2.1, (textOf s 40 (Wire.rd (bl s))).2.2) := by unfold textRes; rw [if_neg (by simp)]
  rw [e]
  exact ⟨t1, by rw [t2], by rw [bl_cut, t2]⟩
theorem numRes0 (s : ByteArray) : ((numRes s 0).2.2 = (Wire.rd (bl s)).2.2) ∧ ((Wire.rd (bl s)).2.2 = 0 → (numRes s 0).1 = (Wire.rd (bl s)).1 ∧ bl (numRes s 0).2.1 = (bl s).drop (Wire.rd (bl s)).2.1) := by
  unfold numRes
  rw [if_neg (by simp)]
  by_cases h : (Wire.rd (bl s)).2.2 = 0
  · rw [if_pos h]; exact ⟨h.symm, fun _ => ⟨rfl, by rw [bl_cut]⟩⟩
  · rw [if_neg h]; exact ⟨rfl, fun e => absurd e h⟩
end Go.Proofs.YthkbnbnfjnliaaaDoor
/- Two sums are compared by their bytes. Conditions: 32 bytes each. -/
namespace Go.Proofs.YthkbnbnfjnliaaaDoor
open Go.RowKit

theorem size5 (w : World) : (sizeOf 5).run Tryd.prog w = .ok 1 w := by
  obtain ⟨i, hi, _, hs, _⟩ := info5
  simp [sizeOf, typeInfo, hi, hs]
theorem part5 (cs : List Value) (i : Nat) (v : Value) (h : cs[i]? = some v) (w : World) : (part 5 cs.toArray i).run Tryd.prog w = .ok v w := by
  have hagg : (isAgg 5).run Tryd.prog w = .ok false w := by
    unfold isAgg
    rw [Sem.run_bind, run_underlying (show Tryd.prog.underlying 5 = some (.int .u8) by kernel_rfl) w]
    simp
  simp [part, Sem.run_bind, hagg, h]
theorem loop_eq (d : Nat) (a b : List Nat) (la : a.length = 32) (lb : b.length = 32) (w : World) : ∀ L : List Nat, (∀ i ∈ L, i < 32) →
    Sem.run Tryd.prog (forIn L ((none : Option Bool), ()) fun i __s => do
      let x ← part 5 (U8 a).toArray (i * 1)
      let y ← part 5 (U8 b).toArray (i * 1)
      let r ← Op.equalIn (d + 1) 5 x y
      if (!r) = true then pure (ForInStep.done (some false, ())) else pure (ForInStep.yield (none, ()))) w
    = .ok ((if L.all (fun i => a.getD i 0 == b.getD i 0) then none else some false), ()) w
  | [], _ => by simp
  | i :: L, h => by
    have hi : i < 32 := h i (by simp)
    have ih := loop_eq d a b la lb w L (fun j hj => h j (by simp [hj]))
    have ha := part5 (U8 a) i _ (U8_get (by omega)) w
    have hb := part5 (U8 b) i _ (U8_get (by omega)) w
    rw [List.forIn_cons]
    simp only [Sem.run_bind, Nat.mul_one, ha, hb, Result.andThen_ok, run_equalIn_int w d 5 .u8 .u8 _ _ (show Tryd.prog.underlying 5 = some (.int .u8) by kernel_rfl)]
    by_cases e : a.getD i 0 = b.getD i 0
    · have e1 : ((a.getD i 0 : Int) == (b.getD i 0 : Int)) = true := by rw [e]; simp
      have e2 : (a.getD i 0 == b.getD i 0) = true := by rw [e]; simp
      simp only [e1, Bool.not_true, Bool.false_eq_true, if_false, Sem.run_pure, Result.andThen_ok, List.all_cons, e2, Bool.true_and]
      simpa only [Nat.mul_one] using ih
    · have e1 : ((a.getD i 0 : Int) == (b.getD i 0 : Int)) = false := by rw [beq_eq_false_iff_ne]; omega
      have e2 : (a.getD i 0 == b.getD i 0) = false := by rw [beq_eq_false_iff_ne]; exact e
      simp only [e1, Bool.not_false, if_true, Sem.run_pure, Result.andThen_ok, List.all_cons, e2, Bool.false_and, Bool.false_eq_true, if_false]
theorem all_eq (a b : List Nat) (la : a.length = 32) (lb : b.length = 32) : (List.range' 0 32).all (fun i => a.getD i 0 == b.getD i 0) = (a == b) := by
  rw [Bool.eq_iff_iff, List.all_eq_true, beq_iff_eq]
  constructor
  · intro h
    apply List.ext_getElem (by omega)
    intro i h1 h2
    have := h i (by simp [List.mem_range'_1]; omega)
    rw [beq_iff_eq, List.getD_eq_getElem?_getD, List.getD_eq_getElem?_getD, List.getElem?_eq_getElem h1, List.getElem?_eq_getElem h2] at this
    simpa using this
  · rintro rfl i _
    simp
theorem run_eqArr (d : Nat) (a b : List Nat) (la : a.length = 32) (lb : b.length = 32) (w : World) : (Op.equalIn (d + 2) 35 (.agg (U8 a).toArray) (.agg (U8 b).toArray)).run Tryd.prog w = .ok (a == b) w := by
  rw [Op.equalIn]
  simp only [Sem.run_bind, run_underlying und25, Result.andThen_ok, size5, Std.Legacy.Range.forIn_eq_forIn_range']
  rw [show (List.range' 0 [:32].size) = List.range' 0 32 from rfl]
  have := loop_eq d a b la lb w (List.range' 0 32) (fun i hi => by simp [List.mem_range'_1] at hi; omega)
  rw [this, all_eq a b la lb]
  cases a == b <;> simp
/-- '==' of two sums. -/
theorem run_eqHash (a b : List Nat) (la : a.length = 32) (lb : b.length = 32) (w : World) : (binOp .eql 35 (.agg (U8 a).toArray) (.agg (U8 b).toArray)).run Tryd.prog w = .ok (.bool (a == b)) w := by
  rw [run_eql_struct]
  rw [run_eqArr 9998 a b la lb w]
  rfl
end Go.Proofs.YthkbnbnfjnliaaaDoor
/- Layer 3: Check. Conditions: the table of constants lies as it was laid; a leaf of at most 100000 bytes, at most 1000 sums. -/
namespace Go.Proofs.YthkbnbnfjnliaaaDoor
open Go.RowKit
set_option maxRecDepth 100000

section
variable {L : List (Nat × Value)} {w : World} {ty : TypeId}
theorem runs_eqHash {t' : TypeId} {X Y : Operand} {x y : List Nat} {r : Bool} (hx : vals L X = some (.agg (U8 x).toArray)) (hy : vals L Y = some (.agg (U8 y).toArray)) (lx : x.length = 32) (ly : y.length = 32) (hr : (x == y) = r) : Runs Tryd.prog (.binOp .eql 35 X Y t') ty L w (Is (.bool r) w) := fun o a K Q ho _ hL hK => by
  have ex := hL X (by simp [Op.operands]) _ hx
  have ey := hL Y (by simp [Op.operands]) _ hy
  have h := run_eqHash x y lx ly w
  have hg : (eqGuard .eql 35 X Y (.agg (U8 x).toArray) (.agg (U8 y).toArray)).run Tryd.prog w = .ok () w := by
    have hp : Tryd.prog.eqGuardType Tryd.prog.depth 26 = false := by kernel_rfl
    simp [eqGuard]
  unfold Oper.wp
  have : (execOp a.eval o).run Tryd.prog w = .ok (.value (.bool r)) w := by
    simp only [execOp, ho, ex, ey]
    simp only [Sem.run_bind, hg, Result.andThen_ok, h, hr, Sem.run_pure]
  rw [this]
  exact hK _ w ⟨rfl, rfl⟩
end
end Go.Proofs.YthkbnbnfjnliaaaDoor
/- The contract of the document's own Num. Conditions: a number of 64 bits. -/
namespace Go.Proofs.YthkbnbnfjnliaaaDoor
open Go.RowKit
set_option maxRecDepth 100000

end Go.Proofs.YthkbnbnfjnliaaaDoor
/- A field, as the document's answer has it: its cells. No condition. -/
namespace Go.Proofs.YthkbnbnfjnliaaaDoor
open Go.RowKit
set_option maxRecDepth 100000

structure Fld where
  kind : Int
  most : Int
  n : Nat
  i : Int
  s : ByteArray
  h : List Nat
structure Fld.Ok (f : Fld) : Prop where
  k1 : -9223372036854775808 ≤ f.kind
  k2 : f.kind ≤ 9223372036854775807
  m1 : -9223372036854775808 ≤ f.most
  m2 : f.most ≤ 9223372036854775807
  n2 : f.n < 18446744073709551616
  i1 : -9223372036854775808 ≤ f.i
  i2 : f.i ≤ 9223372036854775807
  hl : f.h.length = 32
  hb : ∀ x ∈ f.h, x < 256
def Fld.cells (f : Fld) : List Value := .int .i64 f.kind :: .int .i64 f.most :: .int .u64 (f.n : Int) :: .int .i64 f.i :: .string f.s :: U8 f.h
def Fld.val (f : Fld) : Value := .agg f.cells.toArray
theorem Fld.len {f : Fld} (h : f.Ok) : f.cells.length = 37 := by simp [Fld.cells, h.hl]
end Go.Proofs.YthkbnbnfjnliaaaDoor
/- The contract of Out.Hash. Conditions: 32 bytes; what was written has at most 100000 bytes. -/
namespace Go.Proofs.YthkbnbnfjnliaaaDoor
open Go.RowKit
set_option maxRecDepth 100000

end Go.Proofs.YthkbnbnfjnliaaaDoor
/- The contract of In.Hash. No condition. -/
namespace Go.Proofs.YthkbnbnfjnliaaaDoor
open Go.RowKit
set_option maxRecDepth 100000

end Go.Proofs.YthkbnbnfjnliaaaDoor
/- The contract of the statements' own put: a field written. Conditions: a field's text has at most 300 bytes; what was written at most 100000. -/
namespace Go.Proofs.YthkbnbnfjnliaaaDoor
open Go.RowKit
set_option maxRecDepth 100000

/-- A field's bytes. -/
def Fld.bytes (f : Fld) : List Nat := if f.kind = 0 then Wire.num f.n else if f.kind = 1 then Wire.num (Wire.fold f.i) else if f.kind = 2 then Wire.num f.s.size ++ bl f.s else f.h
end Go.Proofs.YthkbnbnfjnliaaaDoor
