/- A field, as the document's answer has it: its cells. No condition. -/
import Derived.Test.YtiifdbagmbikpaaFr
namespace Go.Proofs.Ytiifdbagmbikpaa
open Go.RowKit

structure Fld where
  kind : Int
  most : Int
  n : Nat
  i : Int
  s : ByteArray
  h : List Nat
structure Fld.Ok (f : Fld) : Prop where
  k1 : -9223372036854775808 ≤ f.kind
  k2 : f.kind ≤ 9223372036854775807
  m1 : -9223372036854775808 ≤ f.most
  m2 : f.most ≤ 9223372036854775807
  n2 : f.n < 18446744073709551616
  i1 : -9223372036854775808 ≤ f.i
  i2 : f.i ≤ 9223372036854775807
  hl : f.h.length = 32
  hb : ∀ x ∈ f.h, x < 256
def Fld.cells (f : Fld) : List Value := .int .i64 f.kind :: .int .i64 f.most :: .int .u64 (f.n : Int) :: .int .i64 f.i :: .string f.s :: U8 f.h
def Fld.val (f : Fld) : Value := .agg f.cells.toArray
theorem Fld.len {f : Fld} (h : f.Ok) : f.cells.length = 37 := by simp [Fld.cells, h.hl]
/-- The value v is a slice of the fields fs. -/
def Flds (w : World) (v : Value) (fs : List Fld) : Prop :=
  ∃ (A : Option Addr) (c : Nat), v = .slice A fs.length c ∧ fs.length ≤ c ∧ c ≤ maxLen ∧ (∀ f ∈ fs, f.Ok) ∧ (0 < fs.length → ∃ b o, A = some ⟨b, o, none⟩ ∧ b < w.heap.size ∧ ∀ (i : Nat) (f : Fld), fs[i]? = some f → ∀ j u, f.cells[j]? = some u → w.cell? ⟨b, o + i * 37 + j, none⟩ = some u)
end Go.Proofs.Ytiifdbagmbikpaa
