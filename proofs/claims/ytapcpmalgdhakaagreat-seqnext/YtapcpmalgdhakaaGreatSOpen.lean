/- How graphs and numbers come in. No condition. -/
import Derived.Test.YtapcpmalgdhakaaGreatSEng
import Derived.ProofKit
import Derived.OpenShut
import Derived.ShutString
import Derived.Lib.LaidTab
import Derived.ChangeOld
import Derived.ChangeSame
import Derived.Below
import Derived.Deep.Slices
namespace Go.Proofs.YtapcpmalgdhakaaGreat
open Go.ChangeShapes Go.WideShapes Go.ChangeAt Go.RowKit
set_option maxRecDepth 100000

theorem ownK : ownKnob Tryz.prog.godebug = none := by kernel_rfl
theorem laidOut : laidOutB Tryz.prog = true := by kernel_rfl
theorem ce9 : Tryz.prog.cellsOf 9 = 1 := by kernel_rfl
theorem ce4 : Tryz.prog.cellsOf 4 = 1 := by kernel_rfl
theorem ce26 : Tryz.prog.cellsOf 26 = 3 := by kernel_rfl
theorem ce28 : Tryz.prog.cellsOf 50 = 5 := by kernel_rfl

theorem und2 : Tryz.prog.underlying 2 = some (.int .i64) := by kernel_rfl
theorem ce3 : Tryz.prog.cellsOf 3 = 1 := by kernel_rfl
theorem ce2 : Tryz.prog.cellsOf 2 = 1 := by kernel_rfl
theorem ce22 : Tryz.prog.cellsOf 22 = 1 := by kernel_rfl
theorem ce24 : Tryz.prog.cellsOf 24 = 2 := by kernel_rfl
theorem ce45 : Tryz.prog.cellsOf 48 = 3 := by kernel_rfl
section
variable {H : Type} {enc : TypeId × Value → H} {W : World} {base b0 : Nat} {r : Reach} {sp : Nat → Bool} {held : Bool} {v : Value} {d : DataW H} {p : List MemPlace}
theorem open_edge {fuel : Nat} {cs : List Value} {x : DataW H × List MemPlace} (h : DataW.trod enc Tryz.prog W base sp held fuel 48 cs = some x) : ∃ e : E, cs = encE e := by
  obtain ⟨xs, n, _, _, hl, hlen, hf⟩ := DataW.trod_struct Tryz.underlying48 h
  rw [ce45] at hl
  match cs, hl with
  | [c0, c1, c2], _ =>
    have f0 : DataW.trod enc Tryz.prog W base sp held n 3 (([c0, c1, c2].drop 0).take (Tryz.prog.cellsOf 3)) = xs[0]? := hf 0 _ rfl
    have f1 : DataW.trod enc Tryz.prog W base sp held n 3 (([c0, c1, c2].drop 1).take (Tryz.prog.cellsOf 3)) = xs[1]? := hf 1 _ rfl
    have f2 : DataW.trod enc Tryz.prog W base sp held n 2 (([c0, c1, c2].drop 2).take (Tryz.prog.cellsOf 2)) = xs[2]? := hf 2 _ rfl
    rw [ce3] at f0 f1
    rw [ce2] at f2
    match xs, hlen with
    | [x0, x1, x2], _ =>
      obtain ⟨a, ha, _, _⟩ := DataW.trod_int und3 f0
      obtain ⟨b, hb, _, _⟩ := DataW.trod_int und3 f1
      obtain ⟨c, hc, _, _⟩ := DataW.trod_int und2 f2
      simp at ha hb hc
      exact ⟨(a, b, c), by simp [encE, ha, hb, hc]⟩
theorem cells3 {a : Addr} {cs : List Value} (h : W.cells? base a 3 = some cs) : ∀ j u, cs[j]? = some u → W.cell? (a.add j) = some u := by
  unfold World.cells? at h
  split at h
  · intro j u hj
    have hlen : cs.length = 3 := by simpa using Lib.mapM_length h
    have hj3 : j < 3 := by have := (List.getElem?_eq_some_iff.1 hj).1; omega
    obtain ⟨b, hb, hf⟩ := Lib.mapM_at h j j (by simp [hj3])
    rw [hb] at hj
    rw [hf, ← hj]
  · cases h
theorem open_edges {fuel : Nat} {c1 : Value} {x : DataW H × List MemPlace} (h : DataW.trod enc Tryz.prog W base sp held fuel 22 [c1] = some x) (hlt : ∀ q ∈ x.2, q.block < W.heap.size) : ∃ es : List E, Edges W c1 es := by
  rcases DataW.trod_slice und22 h with ⟨hc, _⟩ | ⟨a, len, cap, elems, rest, n, _, hc, hx, _, hl, hm, hel, hcell, _⟩
  · simp only [List.cons.injEq, and_true] at hc
    subst hc
    exact ⟨[], edges_nil W⟩
  · simp only [List.cons.injEq, and_true] at hc
    subst hc
    rw [ce45] at hcell hx
    have hget : ∀ i, i < len → ∃ e : E, ∀ j u, (encE e)[j]? = some u → W.cell? ((a.add (i * 3)).add j) = some u := fun i hi => by
      have h1 := hcell i hi
      rw [List.getElem?_eq_getElem (by omega)] at h1
      rw [Option.bind_eq_some_iff] at h1
      obtain ⟨cs, hcs, ht⟩ := h1
      obtain ⟨e, rfl⟩ := open_edge ht
      exact ⟨e, cells3 hcs⟩
    obtain ⟨f, hf⟩ : ∃ f : Nat → E, ∀ i, i < len → ∀ j u, (encE (f i))[j]? = some u → W.cell? ((a.add (i * 3)).add j) = some u :=
      ⟨fun i => if h : i < len then (hget i h).choose else (0, 0, 0), fun i hi => by simp only [hi, dif_pos]; exact (hget i hi).choose_spec⟩
    refine ⟨(List.range len).map f, some a, cap, by simp, by simpa using hl, hm, fun h0 => ?_⟩
    simp only [List.length_map, List.length_range] at h0
    obtain ⟨b, off, spot⟩ := a
    have hspot : spot = none := by
      have := hf 0 h0 0 _ rfl
      simpa [Addr.add] using World.cell?_spot this
    subst hspot
    refine ⟨b, off, rfl, ?_, fun j u hj => ?_⟩
    · refine hlt (.cell b off) ?_
      rw [hx]
      exact List.mem_append_left _ (MemPlace.mem_row.2 ⟨0, by omega, by simp⟩)
    · have hj3 : j < len * 3 := by have := (List.getElem?_eq_some_iff.1 hj).1; rw [cellsE_length] at this; simpa using this
      have hq : j / 3 < len := by omega
      have h1 := cellsE_get ((List.range len).map f) (j / 3) (f (j / 3)) (by simp [hq])
      have h2 : (encE (f (j / 3)))[j % 3]? = some u := by
        rw [← h1, List.getElem?_take, if_pos (Nat.mod_lt _ (by omega)), List.getElem?_drop, show j / 3 * 3 + j % 3 = j by omega]
        exact hj
      have h3 := hf (j / 3) hq (j % 3) u h2
      rw [add_lit', add_lit'] at h3
      rw [show off + j / 3 * 3 + j % 3 = off + j by omega] at h3
      exact h3
theorem open_graph (hv : Value.okWide Tryz.prog W r b0 24 v) (h : DataW.Trod enc Tryz.prog W base sp held 24 v d p) (hlt : ∀ x ∈ p, x.block < W.heap.size) : ∃ (n : Int) (x : Value) (es : List E), v = gv n x ∧ Edges W x es := by
  obtain ⟨cs, rfl, hc⟩ := okWide_struct Tryz.underlying24 hv
  obtain ⟨fuel, hf⟩ := h
  obtain ⟨y0, y1, n, hx, hl, h0, h1⟩ := trod_struct2 Tryz.underlying24 hf
  rw [ce24] at hc
  obtain ⟨c0, c1, rfl⟩ : ∃ c0 c1, cs = #[c0, c1] := by
    obtain ⟨l⟩ := cs
    match l, hc with
    | [c0, c1], _ => exact ⟨c0, c1, rfl⟩
  simp only [Value.cells, ce3, ce22] at h0 h1
  obtain ⟨k, hk, _, _⟩ := DataW.trod_int und3 h0
  simp at hk
  have h1' : DataW.trod enc Tryz.prog W base sp held n 22 [c1] = some y1 := h1
  simp only [Prod.mk.injEq] at hx
  obtain ⟨es, hes⟩ := open_edges h1' (fun q hq => hlt q (by rw [hx.2]; exact List.mem_append_right _ hq))
  exact ⟨k, c1, es, by rw [hk], hes⟩
theorem open_job (hv : Value.okWide Tryz.prog W r b0 26 v) (h : DataW.Trod enc Tryz.prog W base sp held 26 v d p) : ∃ (tg : ByteArray) (a b : Int), v = jv tg a b := by
  obtain ⟨cs, rfl, hc⟩ := okWide_struct Tryz.underlying26 hv
  obtain ⟨fuel, hf⟩ := h
  obtain ⟨xs, n, _, _, hl, hlen, hf⟩ := DataW.trod_struct Tryz.underlying26 hf
  rw [ce26] at hc
  obtain ⟨l⟩ := cs
  match l, hc with
  | [c0, c1, c2], _ =>
    have f0 : DataW.trod enc Tryz.prog W base sp held n 9 (([c0, c1, c2].drop 0).take (Tryz.prog.cellsOf 9)) = xs[0]? := hf 0 _ rfl
    have f1 : DataW.trod enc Tryz.prog W base sp held n 3 (([c0, c1, c2].drop 1).take (Tryz.prog.cellsOf 3)) = xs[1]? := hf 1 _ rfl
    have f2 : DataW.trod enc Tryz.prog W base sp held n 3 (([c0, c1, c2].drop 2).take (Tryz.prog.cellsOf 3)) = xs[2]? := hf 2 _ rfl
    rw [ce9] at f0
    rw [ce3] at f1 f2
    match xs, hlen with
    | [x0, x1, x2], _ =>
      obtain ⟨a, ha, _, _⟩ := DataW.trod_string und9 f0
      obtain ⟨b, hb, _, _⟩ := DataW.trod_int und3 f1
      obtain ⟨c, hc, _, _⟩ := DataW.trod_int und3 f2
      simp at ha hb hc
      exact ⟨a, b, c, by rw [ha, hb, hc]⟩
end
end Go.Proofs.YtapcpmalgdhakaaGreat
