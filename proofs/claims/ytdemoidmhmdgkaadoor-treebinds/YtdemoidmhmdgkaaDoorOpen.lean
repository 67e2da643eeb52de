/- How an argument that is a sum comes in: 32 bytes. No condition. -/
import Derived.Test.YtdemoidmhmdgkaaDoorLaid
import Derived.Test.YtdemoidmhmdgkaaDoorEnd
import Derived.Test.YtdemoidmhmdgkaaDoorWFr
import Derived.ChangeOld
import Derived.Below
namespace Go.Proofs.YtdemoidmhmdgkaaDoor
open Go.ChangeShapes Go.WideShapes Go.ChangeAt Go.RowKit

theorem laidOut : laidOutB Tryd.prog = true := by kernel_rfl
theorem c5 : Tryd.prog.cellsOf 5 = 1 := by kernel_rfl
theorem c25 : Tryd.prog.cellsOf 26 = 32 := by kernel_rfl
theorem und4 : Tryd.prog.underlying 4 = some .bool := by kernel_rfl

set_option maxRecDepth 100000 in
theorem open_hash {H : Type} {enc : TypeId × Value → H} {W : World} {base b0 : Nat} {r : Reach} {sp : Nat → Bool} {held : Bool} {v : Value} {d : DataW H} {p : List MemPlace}
    (hv : Value.okWide Tryd.prog W r b0 26 v) (h : DataW.Trod enc Tryd.prog W base sp held 26 v d p) : ∃ l : List Nat, l.length = 32 ∧ Sha.Bytes l ∧ v = .agg (U8 l).toArray := by
  simp only [Value.okWide, und25] at hv
  obtain ⟨cs, rfl, hc, _⟩ := hv
  obtain ⟨fuel, hf⟩ := h
  obtain ⟨xs, m, _, _, hlen, hn, hel⟩ := DataW.trod_array und25 hf
  have hcs : cs.toList.length = 32 := by rw [← c25]; exact hlen
  have hcell : ∀ i, i < 32 → ∃ n : Nat, n < 256 ∧ cs.toList[i]? = some (.int .u8 (n : Int)) := fun i hi => by
    have h1 := hel i hi
    rw [c5] at h1
    have hxi : xs[i]? = some (xs[i]'(by omega)) := List.getElem?_eq_getElem _
    rw [hxi] at h1
    obtain ⟨n, e1, _, wf⟩ := DataW.trod_int und5 h1
    have hb : 0 ≤ n ∧ n ≤ 255 := bounds_u8 wf
    refine ⟨n.toNat, by omega, ?_⟩
    have := congrArg (fun l => l[0]?) e1
    simp only [List.getElem?_take, List.getElem?_drop, Nat.mul_one, Nat.add_zero] at this
    rw [Int.toNat_of_nonneg hb.1]
    simpa [Value.cells] using this
  refine ⟨cs.toList.map (fun u => match u with | .int _ n => n.toNat | _ => 0), by simpa using hcs, ?_, ?_⟩
  · intro x hx
    obtain ⟨u, hu, rfl⟩ := List.mem_map.1 hx
    obtain ⟨i, hi, rfl⟩ := List.mem_iff_getElem.1 hu
    obtain ⟨n, hn256, e⟩ := hcell i (by omega)
    rw [List.getElem?_eq_getElem hi] at e
    injection e with e
    rw [e]
    simpa using hn256
  · congr 1
    apply Array.ext'
    show cs.toList = U8 _
    unfold U8
    rw [List.map_map]
    apply List.ext_getElem (by simp)
    intro i h1 h2
    obtain ⟨n, _, e⟩ := hcell i (by omega)
    rw [List.getElem?_eq_getElem h1] at e
    injection e with e
    simp only [List.getElem_map, Function.comp]
    rw [e]
    simp
end Go.Proofs.YtdemoidmhmdgkaaDoor
