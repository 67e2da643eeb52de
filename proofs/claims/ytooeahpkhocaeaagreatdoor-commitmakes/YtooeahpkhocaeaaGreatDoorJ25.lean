/- Layer 10: Rows and Root. Conditions: at most 100000 vertices. -/
import Derived.Test.YtooeahpkhocaeaaGreatDoorJ24
import Derived.Test.YtooeahpkhocaeaaGreatDoorJ20
import Derived.Test.YtooeahpkhocaeaaGreatDoorJ23
import Derived.Test.YtooeahpkhocaeaaGreatDoorJ18
import Derived.Test.YtooeahpkhocaeaaGreatDoorJ19
import Derived.Test.YtooeahpkhocaeaaGreatDoorJ05
namespace Go.Proofs.YtooeahpkhocaeaaGreatDoor
open Go.RowKit
set_option maxRecDepth 100000

theorem strs_ownR {w : World} {B n : Nat} {v : Value} {ss : List ByteArray} (h : w.ownsRow B 9 1 v n (ss.map Value.string)) (hn : ss.length = n) : Strs w v ss := by
  subst hn
  rcases h.2 with ⟨rfl, h0⟩ | ⟨g, c, cur, rfl, hb, hg, hc, hm, hs, ht⟩
  · exact ⟨none, 0, by rw [h0], by omega, by unfold maxLen; omega, fun h => by omega⟩
  · refine ⟨some ⟨g, 0, none⟩, c, rfl, hc, hm, fun hp => ⟨g, 0, rfl, (Array.getElem?_eq_some_iff.1 hg).1, fun i hi => ?_⟩⟩
    obtain ⟨g2, c2, e, _, _, hr⟩ := owns_rowK h hp
    simp only [Value.slice.injEq, Option.some.injEq, Addr.mk.injEq] at e
    obtain ⟨⟨rfl, _⟩, _⟩ := e
    exact hr i _ (by simp [List.getElem?_map, List.getElem?_eq_getElem hi, List.getD])
section
variable {L : List (Nat × Value)} {w : World} {ty : TypeId}
theorem runs_oneSt {x : Operand} {s : ByteArray} (hx : vals L x = some (.string s)) : Runs Tryz.prog (.buildSlice 62 1 #[(0, x)]) ty L w (fun v w' => ∃ g2, v = .slice (some ⟨g2, 0, none⟩) 1 1 ∧ Has w' g2 9 [.string s] ∧ Below w.heap.size w w') := by
  obtain ⟨i48, hi48, hz48, hs48, hb48⟩ := info_parts infStr
  exact (runs_buildSliceG (sz := 1) (pv := [(0, .string s)]) (by simp [hx]) undStrs hi48 hz48 hs48 (by omega) (by omega) (cells := #[.string s]) (by kernel_rfl)).mono (by rintro v w5 ⟨rfl, rfl⟩; exact ⟨_, rfl, Has.new w 9 [.string s], (Below.refl _ _).alloc (Nat.le_refl _) _⟩)
theorem push_ownS {B n g2 : Nat} {s x : Operand} {sv : Value} {xs : List Value} {t : ByteArray} (hs : vals L s = some sv) (hown : w.ownsRow B 9 1 sv n xs) (hx : vals L x = some (.slice (some ⟨g2, 0, none⟩) 1 1)) (hX : Has w g2 9 [.string t]) (hn : n ≤ 10000) (hB : B ≤ w.heap.size) (hcap : 0 < n ∨ ∀ g m c, sv = .slice (some g) m c → c = 0) :
    Runs Tryz.prog (.call { callee := .builtin .append, args := #[s, x], argTypes := #[62, 62] }) ty L w (fun u w2 => w2.ownsRow B 9 1 u (n + 1) (xs ++ [.string t]) ∧ Below B w w2) := by
  obtain ⟨i48, hi48, hz48, hs48, hb48⟩ := info_parts infStr
  exact (push_own1 undStrs hi48 hz48 hs48 hb48 rfl (by omega) (by omega) hs hown hx hX rfl (by simp [Value.oneCell']) hn hB hcap).mono (by rintro u w2 ⟨_, h2, h3⟩; exact ⟨h2, h3.1⟩)
end
end Go.Proofs.YtooeahpkhocaeaaGreatDoor
/- Layer 11: what the program's calls are asked to answer. No condition. -/
namespace Go.Proofs.YtooeahpkhocaeaaGreatDoor
open Go.RowKit
set_option maxRecDepth 100000

theorem goes15 : Goes Tryz.prog 15 := goes_of Tryz.func15 (by kernel_rfl) rfl
theorem goes17 : Goes Tryz.prog 17 := goes_of Tryz.func17 (by kernel_rfl) rfl
theorem goes49 : Goes Tryz.prog 49 := goes_of Tryz.func49 (by kernel_rfl) rfl
theorem goes32 : Goes Tryz.prog 32 := goes_of Tryz.func32 (by kernel_rfl) rfl
theorem goes35 : Goes Tryz.prog 35 := goes_of Tryz.func35 (by kernel_rfl) rfl
theorem goes83 : Goes Tryz.prog 83 := goes_of Tryz.func83 (by kernel_rfl) rfl
theorem goes44 : Goes Tryz.prog 44 := goes_of Tryz.func44 (by kernel_rfl) rfl
theorem goes51 : Goes Tryz.prog 51 := goes_of Tryz.func51 (by kernel_rfl) rfl
/-- Each field within 64 bits. -/
def FitsM (l : List E) : Prop := ∀ m ∈ l, (-9223372036854775808 ≤ m.1 ∧ m.1 ≤ 9223372036854775807) ∧ (-9223372036854775808 ≤ m.2.1 ∧ m.2.1 ≤ 9223372036854775807) ∧ -9223372036854775808 ≤ m.2.2 ∧ m.2.2 ≤ 9223372036854775807
theorem FitsM.sort {l : List E} (h : FitsM l) : FitsM (sortM l) := fun m hm => h m (sortM_mem.1 hm)
theorem FitsM.sub {l m : List E} (h : FitsM l) (hs : ∀ x ∈ m, x ∈ l) : FitsM m := fun x hx => h x (hs x hx)
def rootM (l : List E) : List Nat := Tree.root l.length (Tree.top (rowsM l))
theorem rootM_len (l : List E) : (rootM l).length = 32 := root_len _ _
theorem rowsS_map (l : List E) : ((rowsM l).map S).map bl = rowsM l := by
  rw [List.map_map]
  conv => rhs; rw [← List.map_id (rowsM l)]
  refine List.map_congr_left (fun r hr => ?_)
  obtain ⟨m, _, rfl⟩ := List.mem_map.1 hr
  exact bl_S (rowM_lt m)
theorem rowsS_small {l : List E} (h : FitsM l) : ∀ s ∈ (rowsM l).map S, s.size ≤ 30 := fun s hs => by
  obtain ⟨r, hr, rfl⟩ := List.mem_map.1 hs
  obtain ⟨m, hm, rfl⟩ := List.mem_map.1 hr
  obtain ⟨h1, h2, h3⟩ := h m (sortM_mem.1 hm)
  rw [S_size]
  exact rowM_size (by omega) (by omega) h3.1 h3.2
theorem rowsS_root (l : List E) : Tree.root ((rowsM l).map S).length (Tree.top (((rowsM l).map S).map bl)) = rootM l := by
  rw [rowsS_map, List.length_map, rowsM_length]; rfl
def RowsC : Prop := ∀ (l : List E) (v : Value) (w : World), Edges w v l → l.length ≤ 10000 → FitsM l → Ans 32 [v] w (fun u w' => Strs w' u ((rowsM l).map S) ∧ Below w.heap.size w w')
def RootC : Prop := ∀ (l : List E) (v : Value) (w : World), Edges w v l → l.length ≤ 10000 → FitsM l → Kept w → Ans 15 [v] w (fun u w' => u = .agg (U8 (rootM l)).toArray ∧ Below w.heap.size w w')
end Go.Proofs.YtooeahpkhocaeaaGreatDoor
/- The wire in layer 11: texts written and read. Conditions: at most 100000 bytes. -/
namespace Go.Proofs.YtooeahpkhocaeaaGreatDoor
open Go.RowKit
set_option maxRecDepth 100000

theorem goes25 : Goes Tryz.prog 25 := goes_of Tryz.func25 (by kernel_rfl) rfl
theorem goes27 : Goes Tryz.prog 27 := goes_of Tryz.func27 (by kernel_rfl) rfl
theorem goes24 : Goes Tryz.prog 24 := goes_of Tryz.func24 (by kernel_rfl) rfl
theorem goes28 : Goes Tryz.prog 28 := goes_of Tryz.func28 (by kernel_rfl) rfl
theorem goes57 : Goes Tryz.prog 57 := goes_of Tryz.func57 (by kernel_rfl) rfl
end Go.Proofs.YtooeahpkhocaeaaGreatDoor
/- Two sums are compared by their bytes. Conditions: 32 bytes each. -/
namespace Go.Proofs.YtooeahpkhocaeaaGreatDoor
open Go.RowKit

theorem size5 (w : World) : (sizeOf 5).run Tryz.prog w = .ok 1 w := by
  obtain ⟨i, hi, _, hs, _⟩ := info5
  simp [sizeOf, typeInfo, hi, hs]
theorem part5 (cs : List Value) (i : Nat) (v : Value) (h : cs[i]? = some v) (w : World) : (part 5 cs.toArray i).run Tryz.prog w = .ok v w := by
  have hagg : (isAgg 5).run Tryz.prog w = .ok false w := by
    unfold isAgg
    rw [Sem.run_bind, run_underlying (show Tryz.prog.underlying 5 = some (.int .u8) by kernel_rfl) w]
    simp
  simp [part, Sem.run_bind, hagg, h]
theorem loop_eq (d : Nat) (a b : List Nat) (la : a.length = 32) (lb : b.length = 32) (w : World) : ∀ L : List Nat, (∀ i ∈ L, i < 32) →
    Sem.run Tryz.prog (forIn L ((none : Option Bool), ()) fun i __s => do
      let x ← part 5 (U8 a).toArray (i * 1)
      let y ← part 5 (U8 b).toArray (i * 1)
      let r ← Op.equalIn (d + 1) 5 x y
      if (!r) = true then pure (ForInStep.done (some false, ())) else pure (ForInStep.yield (none, ()))) w
    = .ok ((if L.all (fun i => a.getD i 0 == b.getD i 0) then none else some false), ()) w
  | [], _ => by simp
  | i :: L, h => by
    have hi : i < 32 := h i (by simp)
    have ih := loop_eq d a b la lb w L (fun j hj => h j (by simp [hj]))
    have ha := part5 (U8 a) i _ (U8_get (by omega)) w
    have hb := part5 (U8 b) i _ (U8_get (by omega)) w
    rw [List.forIn_cons]
    simp only [Sem.run_bind, Nat.mul_one, ha, hb, Result.andThen_ok, run_equalIn_int w d 5 .u8 .u8 _ _ (show Tryz.prog.underlying 5 = some (.int .u8) by kernel_rfl)]
    by_cases e : a.getD i 0 = b.getD i 0
    · have e1 : ((a.getD i 0 : Int) == (b.getD i 0 : Int)) = true := by rw [e]; simp
      have e2 : (a.getD i 0 == b.getD i 0) = true := by rw [e]; simp
      simp only [e1, Bool.not_true, Bool.false_eq_true, if_false, Sem.run_pure, Result.andThen_ok, List.all_cons, e2, Bool.true_and]
      simpa only [Nat.mul_one] using ih
    · have e1 : ((a.getD i 0 : Int) == (b.getD i 0 : Int)) = false := by rw [beq_eq_false_iff_ne]; omega
      have e2 : (a.getD i 0 == b.getD i 0) = false := by rw [beq_eq_false_iff_ne]; exact e
      simp only [e1, Bool.not_false, if_true, Sem.run_pure, Result.andThen_ok, List.all_cons, e2, Bool.false_and, Bool.false_eq_true, if_false]
theorem all_eq (a b : List Nat) (la : a.length = 32) (lb : b.length = 32) : (List.range' 0 32).all (fun i => a.getD i 0 == b.getD i 0) = (a == b) := by
  rw [Bool.eq_iff_iff, List.all_eq_true, beq_iff_eq]
  constructor
  · intro h
    apply List.ext_getElem (by omega)
    intro i h1 h2
    have := h i (by simp [List.mem_range'_1]; omega)
    rw [beq_iff_eq, List.getD_eq_getElem?_getD, List.getD_eq_getElem?_getD, List.getElem?_eq_getElem h1, List.getElem?_eq_getElem h2] at this
    simpa using this
  · rintro rfl i _
    simp
theorem run_eqArr (d : Nat) (a b : List Nat) (la : a.length = 32) (lb : b.length = 32) (w : World) : (Op.equalIn (d + 2) 25 (.agg (U8 a).toArray) (.agg (U8 b).toArray)).run Tryz.prog w = .ok (a == b) w := by
  rw [Op.equalIn]
  simp only [Sem.run_bind, run_underlying und25, Result.andThen_ok, size5, Std.Legacy.Range.forIn_eq_forIn_range']
  rw [show (List.range' 0 [:32].size) = List.range' 0 32 from rfl]
  have := loop_eq d a b la lb w (List.range' 0 32) (fun i hi => by simp [List.mem_range'_1] at hi; omega)
  rw [this, all_eq a b la lb]
  cases a == b <;> simp
/-- '==' of two sums. -/
theorem run_eqHash (a b : List Nat) (la : a.length = 32) (lb : b.length = 32) (w : World) : (binOp .eql 25 (.agg (U8 a).toArray) (.agg (U8 b).toArray)).run Tryz.prog w = .ok (.bool (a == b)) w := by
  rw [run_eql_struct]
  rw [run_eqArr 9998 a b la lb w]
  rfl
end Go.Proofs.YtooeahpkhocaeaaGreatDoor
/- Layer 3: Check. Conditions: the table of constants lies as it was laid; a leaf of at most 100000 bytes, at most 1000 sums. -/
namespace Go.Proofs.YtooeahpkhocaeaaGreatDoor
open Go.RowKit
set_option maxRecDepth 100000

section
variable {L : List (Nat × Value)} {w : World} {ty : TypeId}
theorem runs_eqHash {t' : TypeId} {X Y : Operand} {x y : List Nat} {r : Bool} (hx : vals L X = some (.agg (U8 x).toArray)) (hy : vals L Y = some (.agg (U8 y).toArray)) (lx : x.length = 32) (ly : y.length = 32) (hr : (x == y) = r) : Runs Tryz.prog (.binOp .eql 25 X Y t') ty L w (Is (.bool r) w) := fun o a K Q ho _ hL hK => by
  have ex := hL X (by simp [Op.operands]) _ hx
  have ey := hL Y (by simp [Op.operands]) _ hy
  have h := run_eqHash x y lx ly w
  have hg : (eqGuard .eql 25 X Y (.agg (U8 x).toArray) (.agg (U8 y).toArray)).run Tryz.prog w = .ok () w := by
    have hp : Tryz.prog.eqGuardType Tryz.prog.depth 26 = false := by kernel_rfl
    simp [eqGuard]
  unfold Oper.wp
  have : (execOp a.eval o).run Tryz.prog w = .ok (.value (.bool r)) w := by
    simp only [execOp, ho, ex, ey]
    simp only [Sem.run_bind, hg, Result.andThen_ok, h, hr, Sem.run_pure]
  rw [this]
  exact hK _ w ⟨rfl, rfl⟩
end
end Go.Proofs.YtooeahpkhocaeaaGreatDoor
