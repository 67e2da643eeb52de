/- Two sums, and two fields, are compared. Conditions: 32 bytes each. -/
import Derived.Test.YtiifdbagmbikpaaGet
namespace Go.Proofs.Ytiifdbagmbikpaa
open Go.RowKit

theorem size5 (w : World) : (sizeOf 5).run Try.prog w = .ok 1 w := by
  obtain ⟨i, hi, _, hs, _⟩ := info_parts info5
  simp [sizeOf, typeInfo, hi, hs]
theorem part5 (cs : List Value) (i : Nat) (v : Value) (h : cs[i]? = some v) (w : World) : (part 5 cs.toArray i).run Try.prog w = .ok v w := by
  have hagg : (isAgg 5).run Try.prog w = .ok false w := by
    unfold isAgg
    rw [Sem.run_bind, run_underlying (show Try.prog.underlying 5 = some (.int .u8) by kernel_rfl) w]
    simp
  simp [part, Sem.run_bind, hagg, h]
theorem loop_eq (d : Nat) (a b : List Nat) (la : a.length = 32) (lb : b.length = 32) (w : World) : ∀ L : List Nat, (∀ i ∈ L, i < 32) →
    Sem.run Try.prog (forIn L ((none : Option Bool), ()) fun i __s => do
      let x ← part 5 (U8 a).toArray (i * 1)
      let y ← part 5 (U8 b).toArray (i * 1)
      let r ← Op.equalIn (d + 1) 5 x y
      if (!r) = true then pure (ForInStep.done (some false, ())) else pure (ForInStep.yield (none, ()))) w
    = .ok ((if L.all (fun i => a.getD i 0 == b.getD i 0) then none else some false), ()) w
  | [], _ => by simp
  | i :: L, h => by
    have hi : i < 32 := h i (by simp)
    have ih := loop_eq d a b la lb w L (fun j hj => h j (by simp [hj]))
    have ha := part5 (U8 a) i _ (U8_get (by omega)) w
    have hb := part5 (U8 b) i _ (U8_get (by omega)) w
    rw [List.forIn_cons]
    simp only [Sem.run_bind, Nat.mul_one, ha, hb, Result.andThen_ok, run_equalIn_int w d 5 .u8 .u8 _ _ (show Try.prog.underlying 5 = some (.int .u8) by kernel_rfl)]
    by_cases e : a.getD i 0 = b.getD i 0
    · have e1 : ((a.getD i 0 : Int) == (b.getD i 0 : Int)) = true := by rw [e]; simp
      have e2 : (a.getD i 0 == b.getD i 0) = true := by rw [e]; simp
      simp only [e1, Bool.not_true, Bool.false_eq_true, if_false, Sem.run_pure, Result.andThen_ok, List.all_cons, e2, Bool.true_and]
      simpa only [Nat.mul_one] using ih
    · have e1 : ((a.getD i 0 : Int) == (b.getD i 0 : Int)) = false := by rw [beq_eq_false_iff_ne]; omega
      have e2 : (a.getD i 0 == b.getD i 0) = false := by rw [beq_eq_false_iff_ne]; exact e
      simp only [e1, Bool.not_false, if_true, Sem.run_pure, Result.andThen_ok, List.all_cons, e2, Bool.false_and, Bool.false_eq_true, if_false]
theorem all_eq (a b : List Nat) (la : a.length = 32) (lb : b.length = 32) : (List.range' 0 32).all (fun i => a.getD i 0 == b.getD i 0) = (a == b) := by
  rw [Bool.eq_iff_iff, List.all_eq_true, beq_iff_eq]
  constructor
  · intro h
    apply List.ext_getElem (by omega)
    intro i h1 h2
    have := h i (by simp [List.mem_range'_1]; omega)
    rw [beq_iff_eq, List.getD_eq_getElem?_getD, List.getD_eq_getElem?_getD, List.getElem?_eq_getElem h1, List.getElem?_eq_getElem h2] at this
    simpa using this
  · rintro rfl i _
    simp
theorem run_eqArr (d : Nat) (a b : List Nat) (la : a.length = 32) (lb : b.length = 32) (w : World) : (Op.equalIn (d + 2) 30 (.agg (U8 a).toArray) (.agg (U8 b).toArray)).run Try.prog w = .ok (a == b) w := by
  rw [Op.equalIn]
  simp only [Sem.run_bind, run_underlying und30, Result.andThen_ok, size5, Std.Legacy.Range.forIn_eq_forIn_range']
  rw [show (List.range' 0 [:32].size) = List.range' 0 32 from rfl]
  have := loop_eq d a b la lb w (List.range' 0 32) (fun i hi => by simp [List.mem_range'_1] at hi; omega)
  rw [this, all_eq a b la lb]
  cases a == b <;> simp
/-- '==' of two sums. -/
theorem run_eqHash (a b : List Nat) (la : a.length = 32) (lb : b.length = 32) (w : World) : (binOp .eql 30 (.agg (U8 a).toArray) (.agg (U8 b).toArray)).run Try.prog w = .ok (.bool (a == b)) w := by
  rw [run_eql_struct]
  rw [run_eqArr 9998 a b la lb w]
  rfl
theorem part_one (t : TypeId) (d : TypeDesc) (hu : Try.prog.underlying t = some d) (hd : d.isRow = false) (cs : List Value) (i : Nat) (v : Value) (h : cs[i]? = some v) (w : World) : (part t cs.toArray i).run Try.prog w = .ok v w := by
  have hagg : (isAgg t).run Try.prog w = .ok false w := by
    unfold isAgg
    rw [Sem.run_bind, run_underlying hu w]
    cases d <;> simp_all [TypeDesc.isRow]
  simp [part, Sem.run_bind, hagg, h]
theorem part_hash (f : Fld) (hl : f.h.length = 32) (w : World) : (part 30 f.cells.toArray 5).run Try.prog w = .ok (.agg (U8 f.h).toArray) w := by
  have hagg : (isAgg 30).run Try.prog w = .ok true w := by
    unfold isAgg
    rw [Sem.run_bind, run_underlying und30 w]
    simp
  have hsz : (sizeOf 30).run Try.prog w = .ok 32 w := by
    have := size30
    cases hq : Try.prog.info? 30 with
    | none => rw [hq] at this; simp at this
    | some i => rw [hq] at this; simp at this; simp [sizeOf, typeInfo, hq, this]
  simp only [part, Sem.run_bind, hagg, Result.andThen_ok, if_true, hsz, Sem.run_pure]
  congr 2
  apply Array.ext'
  rw [Array.toList_extract, List.extract_eq_take_drop]
  unfold Fld.cells
  simp
  exact List.take_of_length_le (by simp [hl])
theorem field_step {w : World} {d : Nat} {xs ys : Array Value} {f : Field} {fs : List Field} {a b : Value} (hn : f.name ≠ "_") (ha : (part f.type xs f.offset).run Try.prog w = .ok a w) (hb : (part f.type ys f.offset).run Try.prog w = .ok b w)
    (he : (Op.equalIn d f.type a b).run Try.prog w = .ok true w) : (Op.eqFields d xs ys (f :: fs)).run Try.prog w = (Op.eqFields d xs ys fs).run Try.prog w := by
  conv => lhs; rw [Op.eqFields, if_pos hn]
  simp only [Sem.run_bind, ha, hb, he, Result.andThen_ok, Bool.not_true, Bool.false_eq_true, if_false]
theorem eq_same (d : Nat) (f : Fld) (hl : f.h.length = 32) (w : World) : (Op.equalIn (d + 3) 32 (.agg f.cells.toArray) (.agg f.cells.toArray)).run Try.prog w = .ok true w := by
  have hfs : Try.prog.fieldsOf 32 = #[{ name := "Kind", type := 3, offset := 0, embedded := false, tag := "", pkgPath := "", byteOffset := 0 }, { name := "Most", type := 3, offset := 1, embedded := false, tag := "", pkgPath := "", byteOffset := 8 }, { name := "N", type := 28, offset := 2, embedded := false, tag := "", pkgPath := "", byteOffset := 16 }, { name := "I", type := 2, offset := 3, embedded := false, tag := "", pkgPath := "", byteOffset := 24 }, { name := "S", type := 9, offset := 4, embedded := false, tag := "", pkgPath := "", byteOffset := 32 }, { name := "H", type := 30, offset := 5, embedded := false, tag := "", pkgPath := "", byteOffset := 48 }] := by
    unfold Program.fieldsOf
    rw [Try.underlying32]
  have u3 : Try.prog.underlying 3 = some (.int .i64) := by kernel_rfl
  have u28 : Try.prog.underlying 28 = some (.int .u64) := by kernel_rfl
  have u2 : Try.prog.underlying 2 = some (.int .i64) := by kernel_rfl
  have p0 : (part 3 f.cells.toArray 0).run Try.prog w = .ok (.int .i64 f.kind) w := part_one 3 _ u3 rfl f.cells 0 _ rfl w
  have p1 : (part 3 f.cells.toArray 1).run Try.prog w = .ok (.int .i64 f.most) w := part_one 3 _ u3 rfl f.cells 1 _ rfl w
  have p2 : (part 28 f.cells.toArray 2).run Try.prog w = .ok (.int .u64 (f.n : Int)) w := part_one 28 _ u28 rfl f.cells 2 _ rfl w
  have p3 : (part 2 f.cells.toArray 3).run Try.prog w = .ok (.int .i64 f.i) w := part_one 2 _ u2 rfl f.cells 3 _ rfl w
  have p4 : (part 9 f.cells.toArray 4).run Try.prog w = .ok (.string f.s) w := part_one 9 _ und9 rfl f.cells 4 _ rfl w
  have q0 : (Op.equalIn (d + 2) 3 (.int .i64 f.kind) (.int .i64 f.kind)).run Try.prog w = .ok true w := by rw [run_equalIn_int w (d + 1) 3 .i64 .i64 _ _ u3]; simp
  have q1 : (Op.equalIn (d + 2) 3 (.int .i64 f.most) (.int .i64 f.most)).run Try.prog w = .ok true w := by rw [run_equalIn_int w (d + 1) 3 .i64 .i64 _ _ u3]; simp
  have q2 : (Op.equalIn (d + 2) 28 (.int .u64 (f.n : Int)) (.int .u64 (f.n : Int))).run Try.prog w = .ok true w := by rw [run_equalIn_int w (d + 1) 28 .u64 .u64 _ _ u28]; simp
  have q3 : (Op.equalIn (d + 2) 2 (.int .i64 f.i) (.int .i64 f.i)).run Try.prog w = .ok true w := by rw [run_equalIn_int w (d + 1) 2 .i64 .i64 _ _ u2]; simp
  have q4 : (Op.equalIn (d + 2) 9 (.string f.s) (.string f.s)).run Try.prog w = .ok true w := by rw [run_equalIn_string w (d + 1) 9 _ _ und9]; simp
  have q5 : (Op.equalIn (d + 2) 30 (.agg (U8 f.h).toArray) (.agg (U8 f.h).toArray)).run Try.prog w = .ok true w := by rw [run_eqArr d f.h f.h hl hl w]; simp
  rw [run_equalIn_struct w (d + 2) 32 _ _ (by rw [hfs]; exact Try.underlying32) (by kernel_rfl), hfs]
  refine (field_step (w := w) (d := d + 2) (f := { name := "Kind", type := 3, offset := 0, embedded := false, tag := "", pkgPath := "", byteOffset := 0 }) (by decide) p0 p0 q0).trans ?_
  refine (field_step (w := w) (d := d + 2) (f := { name := "Most", type := 3, offset := 1, embedded := false, tag := "", pkgPath := "", byteOffset := 8 }) (by decide) p1 p1 q1).trans ?_
  refine (field_step (w := w) (d := d + 2) (f := { name := "N", type := 28, offset := 2, embedded := false, tag := "", pkgPath := "", byteOffset := 16 }) (by decide) p2 p2 q2).trans ?_
  refine (field_step (w := w) (d := d + 2) (f := { name := "I", type := 2, offset := 3, embedded := false, tag := "", pkgPath := "", byteOffset := 24 }) (by decide) p3 p3 q3).trans ?_
  refine (field_step (w := w) (d := d + 2) (f := { name := "S", type := 9, offset := 4, embedded := false, tag := "", pkgPath := "", byteOffset := 32 }) (by decide) p4 p4 q4).trans ?_
  refine (field_step (w := w) (d := d + 2) (f := { name := "H", type := 30, offset := 5, embedded := false, tag := "", pkgPath := "", byteOffset := 48 }) (by decide) (part_hash f hl w) (part_hash f hl w) q5).trans ?_
  simp [Op.eqFields]
theorem neq_same (f : Fld) (hl : f.h.length = 32) (w : World) : (binOp .neq 32 (.agg f.cells.toArray) (.agg f.cells.toArray)).run Try.prog w = .ok (.bool false) w := by
  rw [run_neq_struct, eq_same 9997 f hl w]
  rfl
end Go.Proofs.Ytiifdbagmbikpaa
