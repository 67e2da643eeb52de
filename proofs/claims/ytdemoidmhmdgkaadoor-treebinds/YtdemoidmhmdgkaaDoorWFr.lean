/- Words for memory: what is written, and what is read, and what a call leaves alone. No condition. -/
import Derived.Test.YtdemoidmhmdgkaaDoorRows
import Derived.Test.YtdemoidmhmdgkaaDoorMem
import Derived.Test.YtdemoidmhmdgkaaDoorWMath
import Derived.Maps.AppendAt
import Derived.Lib.AppendStr
import Derived.Lib.ConvBytes
namespace Go.Proofs.YtdemoidmhmdgkaaDoor
open Go.RowKit

theorem und59 : Tryd.prog.underlying 37 = some (.slice 5) := by kernel_rfl
theorem und9 : Tryd.prog.underlying 9 = some .string := by kernel_rfl
theorem und5 : Tryd.prog.underlying 5 = some (.int .u8) := by kernel_rfl
theorem infoW5 : (Tryd.prog.info? 5).map (fun i => (i.zero, i.size, i.bytes)) = some (some (.int .u8 0), 1, 1) := by kernel_rfl

/-- Nothing that was there has turned, but block b and the row of v. -/
structure Fr (b : Nat) (v : Value) (w w' : World) : Prop where
  os : w'.os = w.os
  tape : w'.tape = w.tape
  output : w'.output = w.output
  size : w.heap.size ≤ w'.heap.size
  block : ∀ k, k < w.heap.size → k ≠ b → some k ≠ v.ownBlock → w'.heap[k]? = w.heap[k]?
/-- The row of v' is that of v, or a new one. -/
def Later (n : Nat) (v v' : Value) : Prop := v'.ownBlock = v.ownBlock ∨ ∃ k, v'.ownBlock = some k ∧ n ≤ k
theorem Later.refl (n : Nat) (v : Value) : Later n v v := .inl rfl
theorem Later.trans {n m : Nat} {a b c : Value} (h : Later n a b) (k : Later m b c) (hm : n ≤ m) : Later n a c := by
  rcases k with k | ⟨x, k, hx⟩
  · rcases h with h | ⟨y, h, hy⟩
    · exact .inl (k.trans h)
    · exact .inr ⟨y, k.trans h, hy⟩
  · exact .inr ⟨x, k, by omega⟩
theorem Fr.refl (b : Nat) (v : Value) (w : World) : Fr b v w w := ⟨rfl, rfl, rfl, Nat.le_refl _, fun _ _ _ _ => rfl⟩
theorem Fr.trans {b : Nat} {v v1 : Value} {w w1 w2 : World} (h : Fr b v w w1) (hl : Later w.heap.size v v1) (k : Fr b v1 w1 w2) : Fr b v w w2 :=
  ⟨k.os.trans h.os, k.tape.trans h.tape, k.output.trans h.output, Nat.le_trans h.size k.size, fun i hi hb hv => by
    rw [k.block i (Nat.lt_of_lt_of_le hi h.size) hb (fun e => by
      rcases hl with hl | ⟨x, hl, hx⟩
      · exact hv (e.trans hl)
      · rw [hl] at e; injection e with e; omega)]
    exact h.block i hi hb hv⟩
theorem Fr.alloc {b : Nat} {v : Value} {w w1 : World} (h : Fr b v w w1) (o : Obj) : Fr b v w (w1.alloc o) :=
  ⟨h.os, h.tape, h.output, by have := h.size; simp; omega, fun i hi hb hv => by rw [Below.heap_alloc _ _ _ (Nat.lt_of_lt_of_le hi h.size)]; exact h.block i hi hb hv⟩
theorem Fr.drew {b : Nat} {v : Value} {w w1 : World} (h : Fr b v w w1) : Fr b v w w1.drew := ⟨h.os, h.tape, h.output, h.size, h.block⟩
theorem Fr.set {b : Nat} {v : Value} {w w1 : World} (h : Fr b v w w1) (i : Nat) (u : Value) : Fr b v w (w1.setCell ⟨b, i, none⟩ u) :=
  ⟨h.os, h.tape, h.output, by have := h.size; simpa [World.setCell] using this, fun k hk hb hv => by rw [Below.heap_setCell w1 ⟨b, i, none⟩ u k hb]; exact h.block k hk hb hv⟩
theorem Fr.below {b B : Nat} {v : Value} {w w' : World} (h : Fr b v w w') (hb : B ≤ b) (hB : B ≤ w.heap.size) (hv : ∀ k, v.ownBlock = some k → B ≤ k) : Below B w w' :=
  ⟨h.os, h.tape, h.output, h.size, fun k hk => h.block k (by omega) (by omega) (fun e => by have := hv k e.symm; omega)⟩
theorem Fr.of_below {b : Nat} {v : Value} {w w1 w2 : World} (h : Fr b v w w1) (k : Below w1.heap.size w1 w2) : Fr b v w w2 :=
  ⟨k.os.trans h.os, k.tape.trans h.tape, k.output.trans h.output, Nat.le_trans h.size k.size, fun i hi hb hv => (k.block i (Nat.lt_of_lt_of_le hi h.size)).trans (h.block i hi hb hv)⟩
theorem Has.fr {b g : Nat} {v : Value} {w w' : World} {t : TypeId} {cs : List Value} (h : Has w g t cs) (k : Fr b v w w') (hb : g ≠ b) (hv : some g ≠ v.ownBlock) : Has w' g t cs := (k.block g h.lt hb hv).trans h
theorem Has.ne {w : World} {g g' : Nat} {t t' : TypeId} {cs cs' : List Value} (h : Has w g t cs) (h' : Has w g' t' cs') (hne : t ≠ t') : g ≠ g' := by
  rintro rfl
  unfold Has at h h'
  rw [h] at h'
  injection h' with h'
  injection h' with _ ht
  exact hne ht
theorem own_ne {w : World} {base g n : Nat} {e t : TypeId} {size : Nat} {v : Value} {xs cs : List Value} (h : w.ownsRow base e size v n xs) (hg : Has w g t cs) (hne : e ≠ t) : some g ≠ v.ownBlock := by
  rcases h.2 with ⟨rfl, _⟩ | ⟨g', cap, cur, rfl, _, hh, _⟩
  · simp [Value.ownBlock]
  · intro he
    have : g = g' := by simpa [Value.ownBlock] using he
    subst this
    unfold Has at hg
    rw [hh] at hg
    injection hg with hg
    injection hg with _ ht
    exact hne ht

/-- What is written: block b holds v, whose row is l. -/
def Out (w : World) (b : Nat) (v : Value) (l : List Nat) : Prop := Has w b 110 [v] ∧ w.ownsRow 0 5 1 v l.length (U8 l)
/-- Behind a call that writes. -/
def Wrote (w : World) (b : Nat) (v : Value) (l : List Nat) (w' : World) : Prop := ∃ v', Out w' b v' l ∧ Fr b v w w' ∧ Later w.heap.size v v'
theorem Wrote.refl {w : World} {b : Nat} {v : Value} {l : List Nat} (h : Out w b v l) : Wrote w b v l w := ⟨v, h, Fr.refl _ _ _, Later.refl _ _⟩
theorem Wrote.trans {w w1 w2 : World} {b : Nat} {v v1 : Value} {l : List Nat} (h : Fr b v w w1) (hl : Later w.heap.size v v1) (k : Wrote w1 b v1 l w2) : Wrote w b v l w2 := by
  obtain ⟨v2, k1, k2, k3⟩ := k
  exact ⟨v2, k1, h.trans hl k2, hl.trans k3 h.size⟩
/-- What another writes. -/
theorem Out.fr {w w' : World} {b b2 : Nat} {v v2 : Value} {l : List Nat} (h : Out w b v l) (k : Fr b2 v2 w w') (hb : b ≠ b2) (h1 : some b ≠ v2.ownBlock) (h2 : v.ownBlock ≠ some b2) (h3 : v.ownBlock = none ∨ v.ownBlock ≠ v2.ownBlock) : Out w' b v l := by
  refine ⟨h.1.fr k hb h1, ?_⟩
  obtain ⟨hl, hr⟩ := h.2
  refine ⟨hl, ?_⟩
  rcases hr with hr | ⟨g, cap, cur, rfl, hg, hh, r⟩
  · exact .inl hr
  · refine .inr ⟨g, cap, cur, rfl, hg, ?_, r⟩
    simp only [Value.ownBlock] at h2 h3
    rw [k.block g (Array.getElem?_eq_some_iff.1 hh).1 (fun e => h2 (by rw [e])) (fun e => by simp at h3; exact h3 e)]
    exact hh
theorem Out.below {w w' : World} {b : Nat} {v : Value} {l : List Nat} (h : Out w b v l) (k : Below w.heap.size w w') : Out w' b v l := by
  refine ⟨h.1.below k h.1.lt, h.2.1, ?_⟩
  rcases h.2.2 with hr | ⟨g, cap, cur, rfl, hg, hh, r⟩
  · exact .inl hr
  · exact .inr ⟨g, cap, cur, rfl, hg, (k.block g (Array.getElem?_eq_some_iff.1 hh).1).trans hh, r⟩
theorem Out.own_lt {w : World} {b : Nat} {v : Value} {l : List Nat} (h : Out w b v l) : ∀ k, v.ownBlock = some k → k < w.heap.size ∧ k ≠ b := fun k hk => ⟨(h.2.lt k hk).2, fun e => own_ne h.2 h.1 (by decide) (by rw [hk, e])⟩
theorem Out.len {w : World} {b : Nat} {v : Value} {l : List Nat} (h : Out w b v l) : ∃ a c, v = .slice a l.length c := by
  rcases h.2.2 with ⟨hv, hn⟩ | ⟨g, cap, cur, hv, _⟩
  · exact ⟨none, 0, by rw [hv, hn]⟩
  · exact ⟨_, _, hv⟩
/-- Behind an append onto what was written, stored. -/
theorem out_store {w V V2 : World} {b : Nat} {v v2 : Value} {l x : List Nat} (h : Out w b v l) (hB : Below w.heap.size w V) (hown : V2.ownsRow 0 5 1 v2 (l ++ x).length (U8 (l ++ x))) (hg : V.grownBy V2 v.ownBlock) (hat : v2.ownBlock = v.ownBlock ∨ v2.ownBlock = some V.heap.size) :
    Wrote w b v (l ++ x) (V2.setCell ⟨b, 0, none⟩ v2) ∧ V2.cell? ⟨b, 0, none⟩ = some v ∧ V2.frozen? ⟨b, 0, none⟩ = false := by
  have hbV : b < V.heap.size := Nat.lt_of_lt_of_le h.1.lt hB.size
  have hV2 : Has V2 b 110 [v] := (hg.block b hbV (own_ne h.2 h.1 (by decide))).trans (h.1.below hB h.1.lt)
  have hfr : Fr b v w V2 := ⟨hg.os.trans hB.os, hg.tape.trans hB.tape, hg.output.trans hB.output, Nat.le_trans hB.size hg.size, fun k hk _ hv => (hg.block k (Nat.lt_of_lt_of_le hk hB.size) hv).trans (hB.block k hk)⟩
  have hne : some b ≠ v2.ownBlock := own_ne hown hV2 (by decide)
  refine ⟨⟨v2, ⟨by simpa using hV2.set_ 0 v2, hown.1, ?_⟩, hfr.set 0 v2, ?_⟩, hV2.cell 0, hV2.open_ 0⟩
  · rcases hown.2 with hr | ⟨g, cap, cur, rfl, hg, hh, r⟩
    · exact .inl hr
    · refine .inr ⟨g, cap, cur, rfl, hg, ?_, r⟩
      rw [Below.heap_setCell V2 ⟨b, 0, none⟩ _ g (fun e => hne (by simp [Value.ownBlock, e]))]
      exact hh
  · rcases hat with hat | hat
    · exact .inl hat
    · exact .inr ⟨_, hat, hB.size⟩

/-- The bytes of a string. -/
def bl (s : ByteArray) : List Nat := s.data.toList.map UInt8.toNat
def S (l : List Nat) : ByteArray := ⟨(l.map UInt8.ofNat).toArray⟩
theorem bl_length (s : ByteArray) : (bl s).length = s.size := by simp [bl]
theorem bl_bytes (s : ByteArray) : ∀ c ∈ bl s, c < 256 := fun c hc => by
  obtain ⟨x, _, rfl⟩ := List.mem_map.1 hc
  exact x.toNat_lt
theorem S_bl (s : ByteArray) : S (bl s) = s := by
  obtain ⟨⟨l⟩⟩ := s
  simp only [S, bl, List.map_map]
  congr 2
  conv => rhs; rw [← List.map_id l]
  apply List.map_congr_left
  intro x _
  simp
theorem bl_S {l : List Nat} (h : ∀ c ∈ l, c < 256) : bl (S l) = l := by
  simp only [bl, S, List.map_map]
  conv => rhs; rw [← List.map_id l]
  apply List.map_congr_left
  intro x hx
  simp [Nat.mod_eq_of_lt (h x hx)]
theorem S_size (l : List Nat) : (S l).size = l.length := by simp [S, ByteArray.size]
theorem bl_append (s t : ByteArray) : bl (s ++ t) = bl s ++ bl t := by
  simp [bl, ByteArray.data_append]
theorem bl_inj {s t : ByteArray} (h : bl s = bl t) : s = t := by rw [← S_bl s, h, S_bl]
theorem strCells_bl (s : ByteArray) : Lib.strCells s = U8 (bl s) := by
  simp [Lib.strCells, U8, bl]
end Go.Proofs.YtdemoidmhmdgkaaDoor
