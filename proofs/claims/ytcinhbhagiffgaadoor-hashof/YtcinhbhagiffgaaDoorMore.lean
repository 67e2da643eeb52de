/- How a byte and a slice of strings come in. No condition. -/
import Derived.Test.YtcinhbhagiffgaaDoorOpen
import Derived.Test.YtcinhbhagiffgaaDoorConv
import Derived.SliceStrings
namespace Go.Proofs.YtcinhbhagiffgaaDoor
open Go.ChangeShapes Go.WideShapes Go.ChangeAt Go.RowKit

theorem c9 : Tryd.prog.cellsOf 9 = 1 := by kernel_rfl
theorem open_byte {H : Type} {enc : TypeId × Value → H} {W : World} {base b0 : Nat} {r : Reach} {sp : Nat → Bool} {held : Bool} {v : Value} {d : DataW H} {p : List MemPlace}
    (hv : Value.okWide Tryd.prog W r b0 5 v) (h : DataW.Trod enc Tryd.prog W base sp held 5 v d p) : ∃ n : Nat, n < 256 ∧ v = .int .u8 (n : Int) := by
  simp only [Value.okWide, und5, Cell.okWide] at hv
  obtain ⟨fuel, hf⟩ := h
  obtain ⟨n, e1, _, wf⟩ := DataW.trod_int und5 hf
  have hb : 0 ≤ n ∧ n ≤ 255 := bounds_u8 wf
  refine ⟨n.toNat, by omega, ?_⟩
  rw [Int.toNat_of_nonneg hb.1]
  cases v <;> simp_all [Value.cells, Cell.ok]
theorem open_strs {H : Type} {enc : TypeId × Value → H} {W : World} {base b0 : Nat} {r : Reach} {held : Bool} {v : Value} {d : DataW H} {p : List MemPlace}
    (hv : Value.okWide Tryd.prog W r b0 30 v) (h : DataW.Trod enc Tryd.prog W base (fun _ => true) held 30 v d p) (hlt : ∀ x ∈ p, x.block < W.heap.size) : ∃ ss : List ByteArray, Strs W v ss := by
  obtain ⟨a0, len, cap, rfl⟩ := okWide_slice und30 hv
  obtain ⟨fuel, hf⟩ := h
  rcases open_strings und30 und9 c9 hf with ⟨hcs, hx⟩ | ⟨a, len', cap', ss, hcs, _, hl, hm, hz, hx, hcell, hws⟩
  · simp [Value.cells] at hcs
    obtain ⟨rfl, rfl, rfl⟩ := hcs
    exact ⟨[], _, _, rfl, Nat.le_refl _, by unfold maxLen; omega, fun h => by simp at h⟩
  · simp [Value.cells] at hcs
    obtain ⟨rfl, rfl, rfl⟩ := hcs
    simp only [Prod.mk.injEq] at hx
    obtain ⟨rfl, rfl⟩ := hx
    simp only [if_true] at hz
    have hle : (ss.take len).length = len := by rw [List.length_take]; omega
    refine ⟨ss.take len, some a, cap, by rw [hle], by omega, hm, fun h0 => ?_⟩
    obtain ⟨b, off, spot⟩ := a
    have hspot : spot = none := by simpa [Addr.add] using World.cell?_spot (hcell 0 (by omega))
    subst hspot
    refine ⟨b, off, rfl, hlt (.cell b off) (MemPlace.mem_row.2 ⟨0, by omega, by simp⟩), fun i hi => ?_⟩
    have := hcell i (by omega)
    rw [show (⟨b, off, none⟩ : Addr).add i = ⟨b, off + i, none⟩ from by unfold Addr.add; split <;> simp_all] at this
    rw [this, List.getD_eq_getElem?_getD, List.getD_eq_getElem?_getD, List.getElem?_take, if_pos (by omega)]
end Go.Proofs.YtcinhbhagiffgaaDoor
