/- How slices of whole numbers, and bytes, come in. No condition. -/
import Derived.Test.YtdemoidmhmdgkaaDoorMInts
namespace Go.Proofs.YtdemoidmhmdgkaaDoor
open Go.ChangeShapes Go.WideShapes Go.ChangeAt Go.RowKit Go.Deep
set_option maxRecDepth 100000

theorem open_u8 {H : Type} {enc : TypeId × Value → H} {W : World} {base b0 : Nat} {r : Reach} {sp : Nat → Bool} {held : Bool} {v : Value} {d : DataW H} {p : List MemPlace} (hv : Value.okWide Tryd.prog W r b0 5 v) (h : DataW.Trod enc Tryd.prog W base sp held 5 v d p) : ∃ n : Nat, n < 256 ∧ v = .int .u8 (n : Int) := by
  obtain ⟨n, rfl, _, _, wf⟩ := open_int undByte hv h
  have := bounds_u8 wf
  exact ⟨n.toNat, by omega, by rw [Int.toNat_of_nonneg this.1]⟩
theorem open_ints {H : Type} {enc : TypeId × Value → H} {W : World} {base b0 : Nat} {r : Reach} {held : Bool} {v : Value} {d : DataW H} {p : List MemPlace}
    (hv : Value.okWide Tryd.prog W r b0 39 v) (h : DataW.Trod enc Tryd.prog W base (fun _ => true) held 39 v d p) (hlt : ∀ x ∈ p, x.block < W.heap.size) : ∃ xs : List Int, Ints W v xs := by
  obtain ⟨a0, len, cap, rfl⟩ := okWide_slice undInts hv
  obtain ⟨fuel, hf⟩ := h
  rcases open_slice undInts hf with ⟨hcs, hx⟩ | ⟨a, len', cap', m, n, D, Pl, hcs, hb, hl, hm, hmm, hx, hi⟩
  · simp [Value.cells] at hcs
    obtain ⟨rfl, rfl, rfl⟩ := hcs
    exact ⟨[], _, _, rfl, Nat.le_refl _, by unfold maxLen; omega, fun h => by simp at h⟩
  · simp [Value.cells] at hcs
    obtain ⟨rfl, rfl, rfl⟩ := hcs
    simp only [if_true] at hmm
    subst hmm
    simp only [Prod.mk.injEq] at hx
    have hel : ∀ i, i < len → ∃ x : Int, W.cell? (a.add (i * 1)) = some (.int .i64 x) := fun i hil => by
      obtain ⟨cs', hc, ht'⟩ := hi i (by omega)
      rw [c3] at hc
      obtain ⟨x, e1, _⟩ := DataW.trod_int undInt ht'
      obtain ⟨_, hcl, hat⟩ := World.cells?_some hc
      have := hat 0 (by omega)
      refine ⟨x, ?_⟩
      rw [e1] at this
      have ha0 : (a.add (i * 1)).add 0 = a.add (i * 1) := by obtain ⟨b, o, s⟩ := a; cases s <;> rfl
      rw [ha0] at this
      exact this
    by_cases h0 : len = 0
    · subst h0
      exact ⟨[], some a, _, rfl, hl, hm, fun h => by simp at h⟩
    obtain ⟨b, off, spot⟩ := a
    have hspot : spot = none := by
      obtain ⟨x, hc⟩ := hel 0 (by omega)
      simpa [Addr.add] using World.cell?_spot hc
    subst hspot
    have hel2 : ∀ i, i < len → ∃ x : Int, W.cell? ⟨b, off + i, none⟩ = some (.int .i64 x) := fun i h => by
      obtain ⟨x, hx⟩ := hel i h
      rw [add_lit', Nat.mul_one] at hx
      exact ⟨x, hx⟩
    refine ⟨(List.range len).map (fun i => if h : i < len then (hel2 i h).choose else 0), some ⟨b, off, none⟩, _, by simp, by simpa using hl, hm, fun _ => ⟨b, off, rfl, hlt (.cell b off) ?_, fun i hi' => ?_⟩⟩
    · rw [hx.2]
      exact List.mem_append_left _ (MemPlace.mem_row.2 ⟨0, by rw [c3]; omega, by simp⟩)
    · simp only [List.length_map, List.length_range] at hi'
      rw [(hel2 i hi').choose_spec]
      simp [hi']
end Go.Proofs.YtdemoidmhmdgkaaDoor
