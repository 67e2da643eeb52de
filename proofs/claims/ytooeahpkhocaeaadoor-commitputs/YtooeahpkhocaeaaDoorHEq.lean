/- Two sums are compared by their bytes. Conditions: 32 bytes each. -/
import Derived.Test.YtooeahpkhocaeaaDoorJ07
namespace Go.Proofs.YtooeahpkhocaeaaDoor
open Go.RowKit

theorem size5 (w : World) : (sizeOf 5).run Tryd.prog w = .ok 1 w := by
  obtain ⟨i, hi, _, hs, _⟩ := info5
  simp [sizeOf, typeInfo, hi, hs]
theorem part5 (cs : List Value) (i : Nat) (v : Value) (h : cs[i]? = some v) (w : World) : (part 5 cs.toArray i).run Tryd.prog w = .ok v w := by
  have hagg : (isAgg 5).run Tryd.prog w = .ok false w := by
    unfold isAgg
    rw [Sem.run_bind, run_underlying (show Tryd.prog.underlying 5 = some (.int .u8) by kernel_rfl) w]
    simp
  simp [part, Sem.run_bind, hagg, h]
theorem loop_eq (d : Nat) (a b : List Nat) (la : a.length = 32) (lb : b.length = 32) (w : World) : ∀ L : List Nat, (∀ i ∈ L, i < 32) →
    Sem.run Tryd.prog (forIn L ((none : Option Bool), ()) fun i __s => do
      let x ← part 5 (U8 a).toArray (i * 1)
      let y ← part 5 (U8 b).toArray (i * 1)
      let r ← Op.equalIn (d + 1) 5 x y
      if (!r) = true then pure (ForInStep.done (some false, ())) else pure (ForInStep.yield (none, ()))) w
    = .ok ((if L.all (fun i => a.getD i 0 == b.getD i 0) then none else some false), ()) w
  | [], _ => by simp
  | i :: L, h => by
    have hi : i < 32 := h i (by simp)
    have ih := loop_eq d a b la lb w L (fun j hj => h j (by simp [hj]))
    have ha := part5 (U8 a) i _ (U8_get (by omega)) w
    have hb := part5 (U8 b) i _ (U8_get (by omega)) w
    rw [List.forIn_cons]
    simp only [Sem.run_bind, Nat.mul_one, ha, hb, Result.andThen_ok, run_equalIn_int w d 5 .u8 .u8 _ _ (show Tryd.prog.underlying 5 = some (.int .u8) by kernel_rfl)]
    by_cases e : a.getD i 0 = b.getD i 0
    · have e1 : ((a.getD i 0 : Int) == (b.getD i 0 : Int)) = true := by rw [e]; simp
      have e2 : (a.getD i 0 == b.getD i 0) = true := by rw [e]; simp
      simp only [e1, Bool.not_true, Bool.false_eq_true, if_false, Sem.run_pure, Result.andThen_ok, List.all_cons, e2, Bool.true_and]
      simpa only [Nat.mul_one] using ih
    · have e1 : ((a.getD i 0 : Int) == (b.getD i 0 : Int)) = false := by rw [beq_eq_false_iff_ne]; omega
      have e2 : (a.getD i 0 == b.getD i 0) = false := by rw [beq_eq_false_iff_ne]; exact e
      simp only [e1, Bool.not_false, if_true, Sem.run_pure, Result.andThen_ok, List.all_cons, e2, Bool.false_and, Bool.false_eq_true, if_false]
theorem all_eq (a b : List Nat) (la : a.length = 32) (lb : b.length = 32) : (List.range' 0 32).all (fun i => a.getD i 0 == b.getD i 0) = (a == b) := by
  rw [Bool.eq_iff_iff, List.all_eq_true, beq_iff_eq]
  constructor
  · intro h
    apply List.ext_getElem (by omega)
    intro i h1 h2
    have := h i (by simp [List.mem_range'_1]; omega)
    rw [beq_iff_eq, List.getD_eq_getElem?_getD, List.getD_eq_getElem?_getD, List.getElem?_eq_getElem h1, List.getElem?_eq_getElem h2] at this
    simpa using this
  · rintro rfl i _
    simp
theorem run_eqArr (d : Nat) (a b : List Nat) (la : a.length = 32) (lb : b.length = 32) (w : World) : (Op.equalIn (d + 2) 23 (.agg (U8 a).toArray) (.agg (U8 b).toArray)).run Tryd.prog w = .ok (a == b) w := by
  rw [Op.equalIn]
  simp only [Sem.run_bind, run_underlying und25, Result.andThen_ok, size5, Std.Legacy.Range.forIn_eq_forIn_range']
  rw [show (List.range' 0 [:32].size) = List.range' 0 32 from rfl]
  have := loop_eq d a b la lb w (List.range' 0 32) (fun i hi => by simp [List.mem_range'_1] at hi; omega)
  rw [this, all_eq a b la lb]
  cases a == b <;> simp
/-- '==' of two sums. -/
theorem run_eqHash (a b : List Nat) (la : a.length = 32) (lb : b.length = 32) (w : World) : (binOp .eql 23 (.agg (U8 a).toArray) (.agg (U8 b).toArray)).run Tryd.prog w = .ok (.bool (a == b)) w := by
  rw [run_eql_struct]
  rw [run_eqArr 9998 a b la lb w]
  rfl
end Go.Proofs.YtooeahpkhocaeaaDoor
