/- How graphs, messages and numbers come in. No condition. -/
import Derived.Test.YtapcpmalgdhakaaFCame
import Derived.Test.YtapcpmalgdhakaaSOpen
import Derived.ProofKit
import Derived.OpenShut
import Derived.ShutString
import Derived.Lib.LaidTab
import Derived.ChangeOld
import Derived.ChangeSame
import Derived.Below
import Derived.Deep.Slices
namespace Go.Proofs.Ytapcpmalgdhakaa
open Go.ChangeShapes Go.WideShapes Go.ChangeAt Go.RowKit
set_option maxRecDepth 100000

theorem ce41 : Try.prog.cellsOf 48 = 3 := by kernel_rfl
section
variable {H : Type} {enc : TypeId × Value → H} {W : World} {base b0 : Nat} {r : Reach} {sp : Nat → Bool} {held : Bool} {v : Value} {d : DataW H} {p : List MemPlace}
theorem open_msg0 {fuel : Nat} {cs : List Value} {x : DataW H × List MemPlace} (h : DataW.trod enc Try.prog W base sp held fuel 48 cs = some x) : ∃ e : E, cs = encE e ∧ e.2.1 < 9223372036854775808 := by
  obtain ⟨xs, n, _, _, hl, hlen, hf⟩ := DataW.trod_struct Try.underlying48 h
  rw [ce41] at hl
  match cs, hl with
  | [c0, c1, c2], _ =>
    have f0 : DataW.trod enc Try.prog W base sp held n 3 (([c0, c1, c2].drop 0).take (Try.prog.cellsOf 3)) = xs[0]? := hf 0 _ rfl
    have f1 : DataW.trod enc Try.prog W base sp held n 3 (([c0, c1, c2].drop 1).take (Try.prog.cellsOf 3)) = xs[1]? := hf 1 _ rfl
    have f2 : DataW.trod enc Try.prog W base sp held n 2 (([c0, c1, c2].drop 2).take (Try.prog.cellsOf 2)) = xs[2]? := hf 2 _ rfl
    rw [ce3] at f0 f1
    rw [ce2] at f2
    match xs, hlen with
    | [x0, x1, x2], _ =>
      obtain ⟨a, ha, _, _⟩ := DataW.trod_int und3 f0
      obtain ⟨b, hb, _, hbw⟩ := DataW.trod_int und3 f1
      obtain ⟨c, hc, _, _⟩ := DataW.trod_int und2 f2
      simp at ha hb hc
      exact ⟨(a, b, c), by simp [encE, ha, hb, hc], by simp [Lit.wf] at hbw; show b < 9223372036854775808; omega⟩
theorem open_msgs {fuel : Nat} {c1 : Value} {x : DataW H × List MemPlace} (h : DataW.trod enc Try.prog W base sp held fuel 37 [c1] = some x) (hlt : ∀ q ∈ x.2, q.block < W.heap.size) : ∃ es : List E, Edges W c1 es ∧ ∀ e ∈ es, e.2.1 < 9223372036854775808 := by
  rcases DataW.trod_slice und32 h with ⟨hc, _⟩ | ⟨a, len, cap, elems, rest, n, _, hc, hx, _, hl, hm, hel, hcell, _⟩
  · simp only [List.cons.injEq, and_true] at hc
    subst hc
    exact ⟨[], edges_nil W, fun e he => by simp at he⟩
  · simp only [List.cons.injEq, and_true] at hc
    subst hc
    rw [ce41] at hcell hx
    have hget : ∀ i, i < len → ∃ e : E, (∀ j u, (encE e)[j]? = some u → W.cell? ((a.add (i * 3)).add j) = some u) ∧ e.2.1 < 9223372036854775808 := fun i hi => by
      have h1 := hcell i hi
      rw [List.getElem?_eq_getElem (by omega)] at h1
      rw [Option.bind_eq_some_iff] at h1
      obtain ⟨cs, hcs, ht⟩ := h1
      obtain ⟨e, rfl, hew⟩ := open_msg0 ht
      exact ⟨e, cells3 hcs, hew⟩
    obtain ⟨f, hf, hfw⟩ : ∃ f : Nat → E, (∀ i, i < len → ∀ j u, (encE (f i))[j]? = some u → W.cell? ((a.add (i * 3)).add j) = some u) ∧ ∀ i, i < len → (f i).2.1 < 9223372036854775808 :=
      ⟨fun i => if h : i < len then (hget i h).choose else (0, 0, 0), fun i hi => by simp only [hi, dif_pos]; exact (hget i hi).choose_spec.1, fun i hi => by simp only [hi, dif_pos]; exact (hget i hi).choose_spec.2⟩
    refine ⟨(List.range len).map f, ⟨some a, cap, by simp, by simpa using hl, hm, fun h0 => ?_⟩, fun e he => by obtain ⟨i, hi, rfl⟩ := List.mem_map.1 he; exact hfw i (List.mem_range.1 hi)⟩
    simp only [List.length_map, List.length_range] at h0
    obtain ⟨b, off, spot⟩ := a
    have hspot : spot = none := by
      have := hf 0 h0 0 _ rfl
      simpa [Addr.add] using World.cell?_spot this
    subst hspot
    refine ⟨b, off, rfl, ?_, fun j u hj => ?_⟩
    · refine hlt (.cell b off) ?_
      rw [hx]
      exact List.mem_append_left _ (MemPlace.mem_row.2 ⟨0, by omega, by simp⟩)
    · have hj3 : j < len * 3 := by have := (List.getElem?_eq_some_iff.1 hj).1; rw [cellsE_length] at this; simpa using this
      have hq : j / 3 < len := by omega
      have h1 := cellsE_get ((List.range len).map f) (j / 3) (f (j / 3)) (by simp [hq])
      have h2 : (encE (f (j / 3)))[j % 3]? = some u := by
        rw [← h1, List.getElem?_take, if_pos (Nat.mod_lt _ (by omega)), List.getElem?_drop, show j / 3 * 3 + j % 3 = j by omega]
        exact hj
      have h3 := hf (j / 3) hq (j % 3) u h2
      rw [add_lit', add_lit'] at h3
      rw [show off + j / 3 * 3 + j % 3 = off + j by omega] at h3
      exact h3
theorem open_list (hv : Value.okWide Try.prog W r b0 37 v) (h : DataW.Trod enc Try.prog W base sp held 37 v d p) (hlt : ∀ x ∈ p, x.block < W.heap.size) : ∃ es : List E, Edges W v es ∧ ∀ e ∈ es, e.2.1 < 9223372036854775808 := by
  obtain ⟨a, len, cap, rfl⟩ := okWide_slice und32 hv
  obtain ⟨fuel, hf⟩ := h
  have hf' : DataW.trod enc Try.prog W base sp held fuel 37 [.slice a len cap] = some (d, p) := hf
  exact open_msgs hf' hlt
theorem open_msg (hv : Value.okWide Try.prog W r b0 48 v) (h : DataW.Trod enc Try.prog W base sp held 48 v d p) : ∃ e : E, v = .agg (encE e).toArray := by
  obtain ⟨cs, rfl, hc⟩ := okWide_struct Try.underlying48 hv
  obtain ⟨fuel, hf⟩ := h
  obtain ⟨e, he, _⟩ := open_msg0 hf
  exact ⟨e, by
    have : cs = (encE e).toArray := by
      rw [← he]
      rfl
    rw [this]⟩
end
end Go.Proofs.Ytapcpmalgdhakaa
