/- Rows of numbers in memory. No condition. -/
import Derived.Test.YtapcpmalgdhakaaGreatFApp
namespace Go.Proofs.YtapcpmalgdhakaaGreat
open Go.RowKit
set_option maxRecDepth 100000

abbrev ic (x : Int) : List Value := [.int .i64 x]
theorem undI64 : Tryz.prog.underlying 38 = some (.slice 2) := by kernel_rfl
theorem infI64 : (Tryz.prog.info? 2).map (fun i => (i.zero, i.size, i.bytes)) = some (some (.int .i64 0), 1, 8) := by kernel_rfl
def cellsI (es : List Int) : List Value := es.flatMap ic
theorem cellsI_append (a b : List Int) : cellsI (a ++ b) = cellsI a ++ cellsI b := by unfold cellsI; rw [List.flatMap_append]
theorem cellsI_one (e : Int) : cellsI [e] = ic e := by simp [cellsI]
theorem cellsI_get : ∀ (es : List Int) (i : Nat) (e : Int), es[i]? = some e → ((cellsI es).drop (i * 1)).take 1 = ic e
  | x :: es, 0, e, h => by obtain rfl : x = e := by simpa using h
                           simp [cellsI, ic]
  | x :: es, i + 1, e, h => by
    have := cellsI_get es i e (by simpa using h)
    unfold cellsI at this ⊢
    rw [List.flatMap_cons, show (i + 1) * 1 = (ic x).length + i * 1 by simp [ic]; omega, List.drop_append, List.drop_eq_nil_of_le (by omega), List.nil_append, show (ic x).length + i * 1 - (ic x).length = i * 1 by omega]
    exact this
/-- The value v is a slice of the nums es. -/
def Nums (w : World) (v : Value) (es : List Int) : Prop :=
  ∃ (A : Option Addr) (c : Nat), v = .slice A es.length c ∧ es.length ≤ c ∧ c ≤ maxLen ∧ (0 < es.length → ∃ b o, A = some ⟨b, o, none⟩ ∧ b < w.heap.size ∧ w.rangeAt b o (cellsI es))
theorem Nums.kept {w w' : World} {v : Value} {es : List Int} (h : Nums w v es) (k : Below w.heap.size w w') : Nums w' v es := by
  obtain ⟨A, c, rfl, h1, h2, h4⟩ := h
  refine ⟨A, c, rfl, h1, h2, fun hp => ?_⟩
  obtain ⟨b, o, rfl, hb, hr⟩ := h4 hp
  exact ⟨b, o, rfl, Nat.lt_of_lt_of_le hb k.size, range_below hr k hb⟩
theorem nums_nil (w : World) : Nums w (.slice none 0 0) [] := ⟨none, 0, rfl, Nat.le_refl _, by unfold maxLen; omega, fun h => absurd h (by simp)⟩
theorem nums_own {w : World} {base : Nat} {v : Value} {n : Nat} {es : List Int} (h : w.ownsRow base 2 1 v n (cellsI es)) (hn : es.length = n) : Nums w v es := by
  subst hn
  rcases h.2 with ⟨rfl, h0⟩ | ⟨g, cap, cur, rfl, hb, hg, h1, h2, h3, h4⟩
  · exact ⟨none, 0, by rw [h0], by omega, by unfold maxLen; omega, fun h => by omega⟩
  · refine ⟨_, cap, rfl, h1, h2, fun _ => ⟨g, 0, rfl, (Array.getElem?_eq_some_iff.1 hg).1, fun j v hv => ?_⟩⟩
    rw [← h4, List.getElem?_take] at hv
    split at hv
    · simp only [World.cell?, hg, Nat.zero_add]; simpa using hv
    · cases hv
theorem nums_has {w : World} {g : Nat} {es : List Int} (h : Has w g 2 (cellsI es)) (hc : es.length ≤ maxLen) : Nums w (.slice (some ⟨g, 0, none⟩) es.length es.length) es :=
  ⟨_, _, rfl, Nat.le_refl _, hc, fun _ => ⟨g, 0, rfl, h.lt, fun j v hv => by rw [Nat.zero_add, h.cell]; exact hv⟩⟩
theorem nums_at {w : World} {b o : Nat} {es : List Int} (h : w.rangeAt b o (cellsI es)) {i : Nat} {e : Int} (hi : es[i]? = some e) : w.rangeAt b (o + i * 1) (ic e) := by
  rw [← cellsI_get es i e hi]
  exact range_sub h (i * 1) 1
/-- As Nums, and its cells lie at or behind B. -/
def NumsB (B : Nat) (w : World) (v : Value) (es : List Int) : Prop :=
  ∃ (A : Option Addr) (c : Nat), v = .slice A es.length c ∧ es.length ≤ c ∧ c ≤ maxLen ∧ (0 < es.length → ∃ b o, A = some ⟨b, o, none⟩ ∧ B ≤ b ∧ b < w.heap.size ∧ w.rangeAt b o (cellsI es))
theorem NumsB.nums {B : Nat} {w : World} {v : Value} {es : List Int} (h : NumsB B w v es) : Nums w v es := by
  obtain ⟨A, c, rfl, h1, h2, h3⟩ := h
  exact ⟨A, c, rfl, h1, h2, fun h0 => by obtain ⟨b, o, rfl, _, hb, hr⟩ := h3 h0; exact ⟨b, o, rfl, hb, hr⟩⟩
theorem NumsB.kept {B : Nat} {w w' : World} {v : Value} {es : List Int} (h : NumsB B w v es) (k : Below w.heap.size w w') : NumsB B w' v es := by
  obtain ⟨A, c, rfl, h1, h2, h3⟩ := h
  exact ⟨A, c, rfl, h1, h2, fun h0 => by obtain ⟨b, o, rfl, hB, hb, hr⟩ := h3 h0; exact ⟨b, o, rfl, hB, Nat.lt_of_lt_of_le hb k.size, range_below hr k hb⟩⟩
theorem NumsB.mono {B B' : Nat} {w : World} {v : Value} {es : List Int} (h : NumsB B w v es) (k : B' ≤ B) : NumsB B' w v es := by
  obtain ⟨A, c, rfl, h1, h2, h3⟩ := h
  exact ⟨A, c, rfl, h1, h2, fun h0 => by obtain ⟨b, o, rfl, hB, hb, hr⟩ := h3 h0; exact ⟨b, o, rfl, Nat.le_trans k hB, hb, hr⟩⟩
theorem NumsB.setRow {B : Nat} {w : World} {v : Value} {es : List Int} (h : NumsB B w v es) {g : Nat} (hg : g < B) (cs : Array Value) : NumsB B (w.setRow g cs) v es := by
  obtain ⟨A, c, rfl, h1, h2, h3⟩ := h
  refine ⟨A, c, rfl, h1, h2, fun h0 => ?_⟩
  obtain ⟨b, o, rfl, hB, hb, hr⟩ := h3 h0
  refine ⟨b, o, rfl, hB, by simpa [World.setRow] using hb, fun j u hj => ?_⟩
  have := setRow_other w g b cs (by omega)
  have h5 := hr j u hj
  simp only [World.cell?] at h5 ⊢
  rw [this]; exact h5
/-- What stays where a row of numbers that is made ends as Y. -/
def KYI (B : Nat) (Y : List Value) (a b : World) : Prop := Below B a b ∧ (∀ v k ys, ys <+: Y → a.ownsRow B 2 1 v k ys → b.ownsRow B 2 1 v k ys) ∧ (∀ i t cs, t ≠ 2 → Has a i t cs → Has b i t cs) ∧ (∀ i cs, cs.length = 1 → Has a i 2 cs → Has b i 2 cs)
theorem KYI.of_below {B : Nat} {Y : List Value} {a b : World} (h : Below a.heap.size a b) (hB : B ≤ a.heap.size) : KYI B Y a b :=
  ⟨h.mono hB, fun _ _ _ _ ho => owns_kept ho h, fun _ _ _ _ hg => hg.below h hg.lt, fun _ _ _ hg => hg.below h hg.lt⟩
theorem KYI.refl {B : Nat} {Y : List Value} {a : World} : KYI B Y a a := ⟨Below.refl _ _, fun _ _ _ _ h => h, fun _ _ _ _ h => h, fun _ _ _ h => h⟩
theorem KYI.trans {B : Nat} {Y : List Value} {a b c : World} (h : KYI B Y a b) (k : KYI B Y b c) : KYI B Y a c :=
  ⟨h.1.trans k.1, fun v n ys hy ho => k.2.1 v n ys hy (h.2.1 v n ys hy ho), fun i t cs ht ho => k.2.2.1 i t cs ht (h.2.2.1 i t cs ht ho), fun i cs ht ho => k.2.2.2 i cs ht (h.2.2.2 i cs ht ho)⟩
theorem KYI.drew {B : Nat} {Y : List Value} {a b : World} (h : KYI B Y a b) : KYI B Y a b.drew := ⟨h.1.drew, h.2.1, h.2.2.1, h.2.2.2⟩
section
variable {L : List (Nat × Value)} {w : World} {ty : TypeId}
/-- An empty row of numbers. -/
theorem owns_emptyI {g B : Nat} (h : w.heap[g]? = some (.cells #[] 2 (0, 0))) (hB : B ≤ g) : w.ownsRow B 2 1 (.slice (some ⟨g, 0, none⟩) 0 0) 0 [] :=
  ⟨rfl, .inr ⟨g, 0, #[], rfl, hB, h, Nat.le_refl _, by unfold maxLen; omega, rfl, rfl⟩⟩
theorem none_ownI {B : Nat} (hB : B ≤ w.heap.size) : Runs Tryz.prog (.buildSlice 38 0 #[]) ty L w (fun v w' => (∃ g, v = .slice (some ⟨g, 0, none⟩) 0 0 ∧ w'.ownsRow B 2 1 v 0 []) ∧ Below w.heap.size w w') := by
  obtain ⟨i48, hi48, hz48, hs48, hb48⟩ := info_parts infI64
  exact (runs_buildNone undI64 hi48).mono (by rintro v w3 ⟨rfl, rfl⟩; exact ⟨⟨_, rfl, owns_emptyI (heap_alloc_new _ _) hB⟩, (Below.refl _ _).alloc (Nat.le_refl _) _⟩)
/-- A slice of one number. -/
theorem runs_oneN {x : Operand} {e : Int} (hx : vals L x = some (.int .i64 e)) : Runs Tryz.prog (.buildSlice 38 1 #[(0, x)]) ty L w (fun v w' => ∃ g2, v = .slice (some ⟨g2, 0, none⟩) 1 1 ∧ Has w' g2 2 (ic e) ∧ Below w.heap.size w w') := by
  obtain ⟨i48, hi48, hz48, hs48, hb48⟩ := info_parts infI64
  exact (runs_buildSliceG (sz := 1) (pv := [(0, .int .i64 e)]) (by simp [hx]) undI64 hi48 hz48 hs48 (by omega) (by omega) (cells := (ic e).toArray) (by kernel_rfl)).mono (by rintro v w5 ⟨rfl, rfl⟩; exact ⟨_, rfl, Has.new w 2 (ic e), (Below.refl _ _).alloc (Nat.le_refl _) _⟩)
end
end Go.Proofs.YtapcpmalgdhakaaGreat
