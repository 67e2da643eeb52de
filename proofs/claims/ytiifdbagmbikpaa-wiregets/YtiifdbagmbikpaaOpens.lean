/- How fields, and slices, come in. No condition. -/
import Derived.Test.YtiifdbagmbikpaaOpen
import Derived.Test.YtiifdbagmbikpaaFld
import Derived.Test.YtiifdbagmbikpaaWCuts
import Derived.Deep.Slices
import Derived.Deep.Fields
import Derived.ChangeSame
namespace Go.Proofs.Ytiifdbagmbikpaa
open Go.ChangeShapes Go.WideShapes Go.ChangeAt Go.RowKit Go.Deep

theorem und2 : Try.prog.underlying 2 = some (.int .i64) := by kernel_rfl
theorem und22 : Try.prog.underlying 22 = some (.slice 32) := by kernel_rfl
theorem und47 : Try.prog.underlying 47 = some (.slice 28) := by kernel_rfl
theorem und30 : Try.prog.underlying 30 = some (.array 32 5) := by kernel_rfl
theorem c3 : Try.prog.cellsOf 3 = 1 := by kernel_rfl
theorem c2 : Try.prog.cellsOf 2 = 1 := by kernel_rfl
theorem c9 : Try.prog.cellsOf 9 = 1 := by kernel_rfl
theorem c5 : Try.prog.cellsOf 5 = 1 := by kernel_rfl
theorem c28 : Try.prog.cellsOf 28 = 1 := by kernel_rfl
theorem c30 : Try.prog.cellsOf 30 = 32 := by kernel_rfl
theorem c32 : Try.prog.cellsOf 32 = 37 := by kernel_rfl
section
variable {H : Type} {enc : TypeId × Value → H} {W : World} {base b0 : Nat} {r : Reach} {sp : Nat → Bool} {held : Bool} {v : Value} {d : DataW H} {p : List MemPlace}
theorem hash_cells {m : Nat} {cs : List Value} {x : DataW H × List MemPlace} (hf : DataW.trod enc Try.prog W base sp held m 30 cs = some x) : ∃ l : List Nat, l.length = 32 ∧ (∀ c ∈ l, c < 256) ∧ cs = U8 l := by
  obtain ⟨xs, m, _, _, hlen, hn, hel⟩ := DataW.trod_array und30 hf
  have hcs : cs.length = 32 := by rw [← c30]; exact hlen
  have hcell : ∀ i, i < 32 → ∃ n : Nat, n < 256 ∧ cs[i]? = some (.int .u8 (n : Int)) := fun i hi => by
    have h1 := hel i hi
    rw [c5] at h1
    have hxi : xs[i]? = some (xs[i]'(by omega)) := List.getElem?_eq_getElem _
    rw [hxi] at h1
    obtain ⟨n, e1, _, wf⟩ := DataW.trod_int und5 h1
    have hb : 0 ≤ n ∧ n ≤ 255 := bounds_u8 wf
    refine ⟨n.toNat, by omega, ?_⟩
    have := congrArg (fun l => l[0]?) e1
    simp only [List.getElem?_take, List.getElem?_drop, Nat.mul_one, Nat.add_zero] at this
    rw [Int.toNat_of_nonneg hb.1]
    simpa using this
  refine ⟨cs.map (fun u => match u with | .int _ n => n.toNat | _ => 0), by simpa using hcs, ?_, ?_⟩
  · intro x hx
    obtain ⟨u, hu, rfl⟩ := List.mem_map.1 hx
    obtain ⟨i, hi, rfl⟩ := List.mem_iff_getElem.1 hu
    obtain ⟨n, hn256, e⟩ := hcell i (by omega)
    rw [List.getElem?_eq_getElem hi] at e
    injection e with e
    rw [e]
    simpa using hn256
  · unfold U8
    rw [List.map_map]
    apply List.ext_getElem (by simp)
    intro i h1 h2
    obtain ⟨n, _, e⟩ := hcell i (by omega)
    rw [List.getElem?_eq_getElem h1] at e
    injection e with e
    simp only [List.getElem_map, Function.comp]
    rw [e]
    simp
theorem field_cells {m : Nat} {cs : List Value} {x : DataW H × List MemPlace} (hf : DataW.trod enc Try.prog W base sp held m 32 cs = some x) : ∃ f : Fld, f.Ok ∧ cs = f.cells := by
  obtain ⟨xs, n, _, _, hlen, hxl, hel⟩ := DataW.trod_struct Try.underlying32 hf
  have hcs : cs.length = 37 := by rw [hlen]; exact c32
  have hx : ∀ i, i < 6 → ∃ y, xs[i]? = some y := fun i hi => ⟨_, List.getElem?_eq_getElem (by rw [hxl]; exact hi)⟩
  have h0 : DataW.trod enc Try.prog W base sp held n 3 ((cs.drop 0).take (Try.prog.cellsOf 3)) = xs[0]? := hel 0 _ rfl
  have h1 : DataW.trod enc Try.prog W base sp held n 3 ((cs.drop 1).take (Try.prog.cellsOf 3)) = xs[1]? := hel 1 _ rfl
  have h2 : DataW.trod enc Try.prog W base sp held n 28 ((cs.drop 2).take (Try.prog.cellsOf 28)) = xs[2]? := hel 2 _ rfl
  have h3 : DataW.trod enc Try.prog W base sp held n 2 ((cs.drop 3).take (Try.prog.cellsOf 2)) = xs[3]? := hel 3 _ rfl
  have h4 : DataW.trod enc Try.prog W base sp held n 9 ((cs.drop 4).take (Try.prog.cellsOf 9)) = xs[4]? := hel 4 _ rfl
  have h5 : DataW.trod enc Try.prog W base sp held n 30 ((cs.drop 5).take (Try.prog.cellsOf 30)) = xs[5]? := hel 5 _ rfl
  obtain ⟨y0, e0⟩ := hx 0 (by omega)
  obtain ⟨y1, e1⟩ := hx 1 (by omega)
  obtain ⟨y2, e2⟩ := hx 2 (by omega)
  obtain ⟨y3, e3⟩ := hx 3 (by omega)
  obtain ⟨y4, e4⟩ := hx 4 (by omega)
  obtain ⟨y5, e5⟩ := hx 5 (by omega)
  rw [e0] at h0
  rw [e1] at h1
  rw [e2] at h2
  rw [e3] at h3
  rw [e4] at h4
  rw [e5] at h5
  rw [c3] at h0 h1
  rw [c28] at h2
  rw [c2] at h3
  rw [c9] at h4
  rw [c30] at h5
  obtain ⟨k, a0, _, w0⟩ := DataW.trod_int und3 h0
  obtain ⟨mo, a1, _, w1⟩ := DataW.trod_int und3 h1
  obtain ⟨nn, a2, _, w2⟩ := DataW.trod_int und28 h2
  obtain ⟨ii, a3, _, w3⟩ := DataW.trod_int und2 h3
  obtain ⟨l, hl, hb, a5⟩ := hash_cells h5
  obtain ⟨s, a4, _, _⟩ := DataW.trod_string und9 h4
  have b0 := bounds_i64 w0
  have b1 := bounds_i64 w1
  have b2 := bounds_u64 w2
  have b3 := bounds_i64 w3
  refine ⟨⟨k, mo, nn.toNat, ii, s, l⟩, ⟨b0.1, b0.2, b1.1, b1.2, by show nn.toNat < _; omega, b3.1, b3.2, hl, hb⟩, ?_⟩
  match cs, hcs with
  | c0 :: c1 :: c2 :: c3 :: c4 :: rest, hcs =>
    simp only [List.drop_zero, List.drop_succ_cons, List.take_succ_cons, List.take_zero, List.cons.injEq, and_true] at a0 a1 a2 a3 a4 a5
    have hr : rest.length = 32 := by simp at hcs; omega
    rw [List.take_of_length_le (by omega)] at a5
    unfold Fld.cells
    rw [a0, a1, a2, a3, a4, a5]
    simp only [Int.toNat_of_nonneg b2.1]
theorem open_field (hv : Value.okWide Try.prog W r b0 32 v) (h : DataW.Trod enc Try.prog W base sp held 32 v d p) : ∃ f : Fld, f.Ok ∧ v = f.val := by
  obtain ⟨cs, rfl, hsz⟩ := okWide_struct Try.underlying32 hv
  obtain ⟨fuel, hf⟩ := h
  obtain ⟨f, hok, e⟩ := field_cells hf
  refine ⟨f, hok, ?_⟩
  unfold Fld.val
  rw [← e]
  simp [Value.cells]
theorem add_lit' (b o i : Nat) : (⟨b, o, none⟩ : Addr).add i = ⟨b, o + i, none⟩ := by unfold Addr.add; split <;> simp_all
theorem open_fields {W : World} {p : List MemPlace} (hv : Value.okWide Try.prog W r b0 22 v) (h : DataW.Trod enc Try.prog W base (fun _ => true) held 22 v d p) (hlt : ∀ x ∈ p, x.block < W.heap.size) : ∃ fs : List Fld, Flds W v fs := by
  obtain ⟨a0, len, cap, rfl⟩ := okWide_slice und22 hv
  obtain ⟨fuel, hf⟩ := h
  rcases open_slice und22 hf with ⟨hcs, hx⟩ | ⟨a, len', cap', m, n, D, Pl, hcs, hb, hl, hm, hmm, hx, hi⟩
  · simp [Value.cells] at hcs
    obtain ⟨rfl, rfl, rfl⟩ := hcs
    exact ⟨[], _, _, rfl, Nat.le_refl _, by unfold maxLen; omega, by simp, fun h => by simp at h⟩
  · simp [Value.cells] at hcs
    obtain ⟨rfl, rfl, rfl⟩ := hcs
    simp only [if_true] at hmm
    subst hmm
    simp only [Prod.mk.injEq] at hx
    have hel : ∀ i, i < len → ∃ f : Fld, f.Ok ∧ ∀ j u, f.cells[j]? = some u → W.cell? ((a.add (i * 37)).add j) = some u := fun i hil => by
      obtain ⟨cs', hc, ht'⟩ := hi i (by omega)
      rw [c32] at hc
      obtain ⟨f, hok, e⟩ := field_cells ht'
      obtain ⟨_, hcl, hat⟩ := World.cells?_some hc
      refine ⟨f, hok, fun j u hu => ?_⟩
      have hj : j < 37 := by rw [← Fld.len hok]; exact (List.getElem?_eq_some_iff.1 hu).1
      rw [hat j hj, e]; exact hu
    have hall : ∃ fs : List Fld, fs.length = len ∧ (∀ f ∈ fs, f.Ok) ∧ ∀ (i : Nat) (f : Fld), fs[i]? = some f → ∀ j u, f.cells[j]? = some u → W.cell? ((a.add (i * 37)).add j) = some u := by
      clear hl hm hx hi hf hv hb
      induction len with
      | zero => exact ⟨[], rfl, by simp, fun i f h => by simp at h⟩
      | succ k ih =>
        obtain ⟨fs, h1, h2, h3⟩ := ih (fun i hi => hel i (by omega))
        obtain ⟨f, hok, hf⟩ := hel k (by omega)
        refine ⟨fs ++ [f], by simp [h1], fun g hg => ?_, fun i g hg => ?_⟩
        · rcases List.mem_append.1 hg with hg | hg
          · exact h2 g hg
          · rw [List.mem_singleton.1 hg]; exact hok
        · by_cases hik : i < fs.length
          · rw [List.getElem?_append_left hik] at hg; exact h3 i g hg
          · rw [List.getElem?_append_right (by omega)] at hg
            have hi0 : i = k := by
              have := (List.getElem?_eq_some_iff.1 hg).1
              simp at this; omega
            subst hi0
            simp [h1] at hg
            subst hg
            exact hf
    obtain ⟨fs, h1, h2, h3⟩ := hall
    subst h1
    refine ⟨fs, some a, _, rfl, hl, hm, h2, fun h0 => ?_⟩
    obtain ⟨b, off, spot⟩ := a
    obtain ⟨f0, hf0⟩ : ∃ f, fs[0]? = some f := ⟨_, List.getElem?_eq_getElem h0⟩
    have hc0 := h3 0 f0 hf0 0 _ rfl
    have hspot : spot = none := by simpa [Addr.add] using World.cell?_spot hc0
    subst hspot
    refine ⟨b, off, rfl, hlt (.cell b off) ?_, fun i f hif j u hu => ?_⟩
    · rw [hx.2]
      exact List.mem_append_left _ (MemPlace.mem_row.2 ⟨0, by rw [c32]; omega, by simp⟩)
    · have := h3 i f hif j u hu
      rwa [add_lit', add_lit'] at this
theorem open_nums {W : World} {p : List MemPlace} (hv : Value.okWide Try.prog W r b0 47 v) (h : DataW.Trod enc Try.prog W base (fun _ => true) held 47 v d p) (hlt : ∀ x ∈ p, x.block < W.heap.size) : ∃ ns : List Nat, Nums W v ns := by
  obtain ⟨a0, len, cap, rfl⟩ := okWide_slice und47 hv
  obtain ⟨fuel, hf⟩ := h
  rcases open_slice und47 hf with ⟨hcs, hx⟩ | ⟨a, len', cap', m, n, D, Pl, hcs, hb, hl, hm, hmm, hx, hi⟩
  · simp [Value.cells] at hcs
    obtain ⟨rfl, rfl, rfl⟩ := hcs
    exact ⟨[], _, _, rfl, Nat.le_refl _, by unfold maxLen; omega, by simp, fun h => by simp at h⟩
  · simp [Value.cells] at hcs
    obtain ⟨rfl, rfl, rfl⟩ := hcs
    simp only [if_true] at hmm
    subst hmm
    simp only [Prod.mk.injEq] at hx
    have hel : ∀ i, i < len → ∃ n : Nat, n < 18446744073709551616 ∧ W.cell? (a.add i) = some (.int .u64 (n : Int)) := fun i hil => by
      obtain ⟨cs', hc, ht'⟩ := hi i (by omega)
      rw [c28] at hc
      obtain ⟨z, e1, _, wf⟩ := DataW.trod_int und28 ht'
      have hb := bounds_u64 wf
      obtain ⟨_, hcl, hat⟩ := World.cells?_some hc
      have := hat 0 (by omega)
      refine ⟨z.toNat, by omega, ?_⟩
      rw [Int.toNat_of_nonneg hb.1]
      rw [e1] at this
      simpa [Addr.add] using this
    have hall : ∃ ns : List Nat, ns.length = len ∧ (∀ n ∈ ns, n < 18446744073709551616) ∧ ∀ i, i < len → W.cell? (a.add i) = some (.int .u64 (ns.getD i 0 : Nat)) := by
      clear hl hm hx hi hf hv hb
      induction len with
      | zero => exact ⟨[], rfl, by simp, fun i h => by omega⟩
      | succ k ih =>
        obtain ⟨ns, h1, h2, h3⟩ := ih (fun i hi => hel i (by omega))
        obtain ⟨n, hn, hf⟩ := hel k (by omega)
        refine ⟨ns ++ [n], by simp [h1], fun g hg => ?_, fun i hg => ?_⟩
        · rcases List.mem_append.1 hg with hg | hg
          · exact h2 g hg
          · rw [List.mem_singleton.1 hg]; exact hn
        · by_cases hik : i < k
          · rw [h3 i hik, List.getD_eq_getElem?_getD, List.getD_eq_getElem?_getD, List.getElem?_append_left (by omega)]
          · obtain rfl : i = k := by omega
            rw [hf, List.getD_eq_getElem?_getD, List.getElem?_append_right (by omega)]
            simp [h1]
    obtain ⟨ns, h1, h2, h3⟩ := hall
    subst h1
    refine ⟨ns, some a, _, rfl, hl, hm, h2, fun h0 => ?_⟩
    obtain ⟨b, off, spot⟩ := a
    have hspot : spot = none := by simpa [Addr.add] using World.cell?_spot (h3 0 h0)
    subst hspot
    refine ⟨b, off, rfl, hlt (.cell b off) ?_, fun i hi => ?_⟩
    · rw [hx.2]
      exact List.mem_append_left _ (MemPlace.mem_row.2 ⟨0, by rw [c28]; omega, by simp⟩)
    · have := h3 i hi
      rwa [add_lit'] at this
end
end Go.Proofs.Ytiifdbagmbikpaa
