/- Layer 12: what the program answers, all together. No condition. -/
import Derived.Test.YtooeahpkhocaeaaDoorCKeepsP
import Derived.Test.YtooeahpkhocaeaaDoorCAwake
import Derived.Test.YtooeahpkhocaeaaDoorCLawsM
import Derived.Test.YtooeahpkhocaeaaDoorCRGet
import Derived.Test.YtooeahpkhocaeaaDoorCRPut
import Derived.Test.YtooeahpkhocaeaaDoorJ29
import Derived.ProofKit
import Derived.OpenShut
import Derived.ShutString
import Derived.Lib.LaidTab
import Derived.ChangeOld
import Derived.ChangeSame
import Derived.Below
import Derived.Deep.Slices
namespace Go.Proofs.YtooeahpkhocaeaaDoor
open Go.RowKit
set_option maxRecDepth 100000

theorem awk0 : CAwkC := cawake_c cput_c cget_c cmake_c ckeeps_c
end Go.Proofs.YtooeahpkhocaeaaDoor
/- Rows of vertices in memory. No condition. -/
namespace Go.Proofs.YtooeahpkhocaeaaDoor
open Go.RowKit
set_option maxRecDepth 100000

theorem cellsV_length (es : List Vx) : (cellsV es).length = es.length * 5 := by
  induction es with
  | nil => rfl
  | cons x xs ih => unfold cellsV at ih ⊢; rw [List.flatMap_cons, List.length_append, ih]; simp [vc]; omega
theorem verts_nil (w : World) : Verts w (.slice none 0 0) [] := ⟨none, 0, rfl, Nat.le_refl _, by unfold maxLen; omega, fun h => absurd h (by simp)⟩
end Go.Proofs.YtooeahpkhocaeaaDoor
/- How slices of vertices come in. No condition. -/
namespace Go.Proofs.YtooeahpkhocaeaaDoor
open Go.ChangeShapes Go.WideShapes Go.ChangeAt Go.RowKit
set_option maxRecDepth 100000

theorem ce4 : Tryd.prog.cellsOf 4 = 1 := by kernel_rfl
theorem ce28 : Tryd.prog.cellsOf 88 = 5 := by kernel_rfl

section
variable {H : Type} {enc : TypeId × Value → H} {W : World} {base b0 : Nat} {r : Reach} {sp : Nat → Bool} {held : Bool} {v : Value} {d : DataW H} {p : List MemPlace}
theorem open_vx0 {fuel : Nat} {cs : List Value} {x : DataW H × List MemPlace} (h : DataW.trod enc Tryd.prog W base sp held fuel 88 cs = some x) : ∃ e : Vx, cs = vc e := by
  obtain ⟨xs, n, _, _, hl, hlen, hf⟩ := DataW.trod_struct Tryd.underlying88 h
  rw [ce28] at hl
  match cs, hl with
  | [c0, c1, c2, c3, c4], _ =>
    have f0 : DataW.trod enc Tryd.prog W base sp held n 3 (([c0, c1, c2, c3, c4].drop 0).take (Tryd.prog.cellsOf 3)) = xs[0]? := hf 0 _ rfl
    have f1 : DataW.trod enc Tryd.prog W base sp held n 2 (([c0, c1, c2, c3, c4].drop 1).take (Tryd.prog.cellsOf 2)) = xs[1]? := hf 1 _ rfl
    have f2 : DataW.trod enc Tryd.prog W base sp held n 4 (([c0, c1, c2, c3, c4].drop 2).take (Tryd.prog.cellsOf 4)) = xs[2]? := hf 2 _ rfl
    have f3 : DataW.trod enc Tryd.prog W base sp held n 4 (([c0, c1, c2, c3, c4].drop 3).take (Tryd.prog.cellsOf 4)) = xs[3]? := hf 3 _ rfl
    have f4 : DataW.trod enc Tryd.prog W base sp held n 2 (([c0, c1, c2, c3, c4].drop 4).take (Tryd.prog.cellsOf 2)) = xs[4]? := hf 4 _ rfl
    rw [ce3] at f0
    rw [ce2] at f1 f4
    rw [ce4] at f2 f3
    match xs, hlen with
    | [x0, x1, x2, x3, x4], _ =>
      obtain ⟨a, ha, _, _⟩ := DataW.trod_int und3 f0
      obtain ⟨b, hb, _, _⟩ := DataW.trod_int und2 f1
      obtain ⟨c, hc, _⟩ := DataW.trod_bool und4 f2
      obtain ⟨e, he, _⟩ := DataW.trod_bool und4 f3
      obtain ⟨f, hf, _, _⟩ := DataW.trod_int und2 f4
      simp at ha hb hc he hf
      exact ⟨⟨a, b, c, e, f⟩, by simp [vc, ha, hb, hc, he, hf]⟩
theorem cells5 {a : Addr} {cs : List Value} (h : W.cells? base a 5 = some cs) : ∀ j u, cs[j]? = some u → W.cell? (a.add j) = some u := by
  unfold World.cells? at h
  split at h
  · intro j u hj
    have hlen : cs.length = 5 := by simpa using Lib.mapM_length h
    have hj3 : j < 5 := by have := (List.getElem?_eq_some_iff.1 hj).1; omega
    obtain ⟨b, hb, hf⟩ := Lib.mapM_at h j j (by simp [hj3])
    rw [hb] at hj
    rw [hf, ← hj]
  · cases h
theorem open_vxs {fuel : Nat} {c1 : Value} {x : DataW H × List MemPlace} (h : DataW.trod enc Tryd.prog W base sp held fuel 38 [c1] = some x) (hlt : ∀ q ∈ x.2, q.block < W.heap.size) : ∃ es : List Vx, Verts W c1 es := by
  rcases DataW.trod_slice undVx h with ⟨hc, _⟩ | ⟨a, len, cap, elems, rest, n, _, hc, hx, _, hl, hm, hel, hcell, _⟩
  · simp only [List.cons.injEq, and_true] at hc
    subst hc
    exact ⟨[], verts_nil W⟩
  · simp only [List.cons.injEq, and_true] at hc
    subst hc
    rw [ce28] at hcell hx
    have hget : ∀ i, i < len → ∃ e : Vx, (∀ j u, (vc e)[j]? = some u → W.cell? ((a.add (i * 5)).add j) = some u) := fun i hi => by
      have h1 := hcell i hi
      rw [List.getElem?_eq_getElem (by omega)] at h1
      rw [Option.bind_eq_some_iff] at h1
      obtain ⟨cs, hcs, ht⟩ := h1
      obtain ⟨e, rfl⟩ := open_vx0 ht
      exact ⟨e, cells5 hcs⟩
    obtain ⟨f, hf⟩ : ∃ f : Nat → Vx, (∀ i, i < len → ∀ j u, (vc (f i))[j]? = some u → W.cell? ((a.add (i * 5)).add j) = some u) :=
      ⟨fun i => if h : i < len then (hget i h).choose else noVx, fun i hi => by simp only [hi, dif_pos]; exact (hget i hi).choose_spec⟩
    refine ⟨(List.range len).map f, ⟨some a, cap, by simp, by simpa using hl, hm, fun h0 => ?_⟩⟩
    simp only [List.length_map, List.length_range] at h0
    obtain ⟨b, off, spot⟩ := a
    have hspot : spot = none := by
      have := hf 0 h0 0 _ rfl
      simpa [Addr.add] using World.cell?_spot this
    subst hspot
    refine ⟨b, off, rfl, ?_, fun j u hj => ?_⟩
    · refine hlt (.cell b off) ?_
      rw [hx]
      exact List.mem_append_left _ (MemPlace.mem_row.2 ⟨0, by omega, by simp⟩)
    · have hj3 : j < len * 5 := by have := (List.getElem?_eq_some_iff.1 hj).1; rw [cellsV_length] at this; simpa using this
      have hq : j / 5 < len := by omega
      have h1 := cellsV_get ((List.range len).map f) (j / 5) (f (j / 5)) (by simp [hq])
      have h2 : (vc (f (j / 5)))[j % 5]? = some u := by
        rw [← h1, List.getElem?_take, if_pos (Nat.mod_lt _ (by omega)), List.getElem?_drop, show j / 5 * 5 + j % 5 = j by omega]
        exact hj
      have h3 := hf (j / 5) hq (j % 5) u h2
      rw [add_lit', add_lit'] at h3
      rw [show off + j / 5 * 5 + j % 5 = off + j by omega] at h3
      exact h3
theorem open_verts (hv : Value.okWide Tryd.prog W r b0 38 v) (h : DataW.Trod enc Tryd.prog W base sp held 38 v d p) (hlt : ∀ x ∈ p, x.block < W.heap.size) : ∃ es : List Vx, Verts W v es := by
  obtain ⟨a, len, cap, rfl⟩ := okWide_slice undVx hv
  obtain ⟨fuel, hf⟩ := h
  have hf' : DataW.trod enc Tryd.prog W base sp held fuel 38 [.slice a len cap] = some (d, p) := hf
  exact open_vxs hf' hlt
end
end Go.Proofs.YtooeahpkhocaeaaDoor
