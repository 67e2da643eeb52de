/- Two fields that are one, compared; a field's sum where it lies. Conditions: 32 bytes. -/
import Derived.Test.YtiifdbagmbikpaaEq
namespace Go.Proofs.Ytiifdbagmbikpaa
open Go.RowKit

theorem guard_same (x y : Operand) (u v : Array Value) (w : World) : (eqGuard .neq 32 x y (.agg u) (.agg v)).run Try.prog w = .ok () w := by
  simp [eqGuard, go_sem]
/-- Two fields that are one, compared. -/
theorem wpList_neq_same {ops : Array Oper} {rest : List Oper} {o : Oper} {a : Act} {w : World} {Q : Exit → Act → World → Prop} (hgd : o.guard = none) (x y : Operand) (ho : o.op = .binOp .neq 32 x y 32) (f : Fld) (hl : f.h.length = 32)
    (hx : a.eval x = .agg f.cells.toArray) (hy : a.eval y = .agg f.cells.toArray) (h : wpList Try.prog ops Q rest (a.put o.dst (.bool false)) w) : wpList Try.prog ops Q (o :: rest) a w := by
  refine wpList_plain hgd fun K hK => ?_
  unfold Oper.wp execOp
  simp only [ho, hx, hy, Sem.run_bind, guard_same, neq_same f hl w, Result.andThen_ok, Sem.run_pure]
  exact hK _ _ h
theorem str_ne2 {A B : ByteArray} (h : A ≠ B) : (A == B) = false ∧ (A.toList == B.toList) = false := by
  have h2 : (A.toList == B.toList) = false := by
    rw [beq_eq_false_iff_ne]
    intro e
    rw [ByteArray.toList_eq, ByteArray.toList_eq] at e
    exact h (ByteArray.ext (Array.ext' e))
  exact ⟨by rw [beq_toListBytes]; exact h2, h2⟩
theorem fld_range2 {w : World} {p : Nat} {f : Fld} (h : Has w p 32 f.cells) : w.rangeAt p 5 (U8 f.h) := by
  have := h.range 5 f.h.length
  rwa [show (f.cells.drop 5).take f.h.length = U8 f.h by unfold Fld.cells; simp [U8]; exact List.take_of_length_le (by simp)] at this
end Go.Proofs.Ytiifdbagmbikpaa
