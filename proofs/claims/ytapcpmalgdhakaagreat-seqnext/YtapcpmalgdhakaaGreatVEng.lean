/- Layer 9: vertices, rows of vertices and of numbers, and what a call of a closure may change. Conditions: none of our own. -/
import Derived.Test.YtapcpmalgdhakaaGreatVMem
import Derived.Test.YtapcpmalgdhakaaGreatIMem
import Derived.Test.YtapcpmalgdhakaaGreatSAwake
import Derived.Test.YtapcpmalgdhakaaGreatFAll
namespace Go.Proofs.YtapcpmalgdhakaaGreat
open Go.RowKit
set_option maxRecDepth 100000

theorem goes5 : Goes Tryz.prog 5 := goes_of Tryz.func5 (by kernel_rfl) rfl
theorem goes6 : Goes Tryz.prog 6 := goes_of Tryz.func6 (by kernel_rfl) rfl
theorem goes8 : Goes Tryz.prog 8 := goes_of Tryz.func8 (by kernel_rfl) rfl
theorem goes11 : Goes Tryz.prog 11 := goes_of Tryz.func11 (by kernel_rfl) rfl
theorem goes12 : Goes Tryz.prog 12 := goes_of Tryz.func12 (by kernel_rfl) rfl
theorem goes14 : Goes Tryz.prog 14 := goes_of Tryz.func14 (by kernel_rfl) rfl
theorem goes15 : Goes Tryz.prog 15 := goes_of Tryz.func15 (by kernel_rfl) rfl
theorem goes16 : Goes Tryz.prog 16 := goes_of Tryz.func16 (by kernel_rfl) rfl
theorem goes17 : Goes Tryz.prog 17 := goes_of Tryz.func17 (by kernel_rfl) rfl
theorem goes18 : Goes Tryz.prog 18 := goes_of Tryz.func18 (by kernel_rfl) rfl
theorem goes20 : Goes Tryz.prog 20 := goes_of Tryz.func20 (by kernel_rfl) rfl
theorem goes22 : Goes Tryz.prog 22 := goes_of Tryz.func22 (by kernel_rfl) rfl
theorem goes23 : Goes Tryz.prog 23 := goes_of Tryz.func23 (by kernel_rfl) rfl
theorem goes24 : Goes Tryz.prog 24 := goes_of Tryz.func24 (by kernel_rfl) rfl
theorem goes26 : Goes Tryz.prog 26 := goes_of Tryz.func26 (by kernel_rfl) rfl
theorem goes30 : Goes Tryz.prog 30 := goes_of Tryz.func30 (by kernel_rfl) rfl
theorem goes32 : Goes Tryz.prog 32 := goes_of Tryz.func32 (by kernel_rfl) rfl
theorem goes33 : Goes Tryz.prog 33 := goes_of Tryz.func33 (by kernel_rfl) rfl
theorem goes34 : Goes Tryz.prog 34 := goes_of Tryz.func34 (by kernel_rfl) rfl
theorem goes58 : Goes Tryz.prog 58 := goes_of Tryz.func58 (by kernel_rfl) rfl
section
variable {L : List (Nat × Value)} {w : World} {ty : TypeId}
theorem push_ownV {B g2 : Nat} {s x : Operand} {sv : Value} {acc : List Vx} {e : Vx} (hs : vals L s = some sv) (hown : w.ownsRow B 50 5 sv acc.length (cellsV acc)) (hx : vals L x = some (.slice (some ⟨g2, 0, none⟩) 1 1)) (hX : Has w g2 50 (vc e)) (hn : acc.length ≤ 10000000) (hB : B ≤ w.heap.size) :
    Runs Tryz.prog (.call { callee := .builtin .append, args := #[s, x], argTypes := #[27, 27] }) ty L w (fun v w' => (∃ g3 c3, v = .slice (some ⟨g3, 0, none⟩) (acc.length + 1) c3) ∧ w'.ownsRow B 50 5 v (acc.length + 1) (cellsV (acc ++ [e])) ∧ (∀ i t cs, t ≠ 50 → Has w i t cs → Has w' i t cs) ∧ Below B w w') := by
  obtain ⟨i48, hi48, hz48, hs48, hb48⟩ := info_parts infVx
  refine (runs_appendN (news := vc e) undVx hi48 hz48 hs48 hb48 rfl (by omega) hs hown hx rfl (fun j u hj => by rw [add_zero_addr, Nat.zero_add, hX.cell]; exact hj) (by simp [vc, Value.oneCell']) (by unfold maxLen; omega) (by omega) hB (by omega)).mono ?_
  rintro v w' ⟨hown3, hgr3, hne3⟩
  refine ⟨?_, by rw [cellsV_append, cellsV_one]; exact hown3, fun i t cs ht hi => ?_, ?_⟩
  · rcases hown3.2 with ⟨rfl, h0⟩ | ⟨g3, c3, _, rfl, _⟩
    · omega
    · exact ⟨g3, c3, rfl⟩
  · have hne : some i ≠ sv.ownBlock := fun hsv => by
      rcases hown.2 with ⟨rfl, _⟩ | ⟨g0, cap, cur, rfl, _, hh, _⟩
      · simp [Value.ownBlock] at hsv
      · simp only [Value.ownBlock, Option.some.injEq] at hsv
        subst hsv
        unfold Has at hi
        rw [hi] at hh
        simp only [Option.some.injEq, Obj.cells.injEq] at hh
        exact ht hh.2.1
    unfold Has
    rw [hgr3.block i hi.lt hne]
    exact hi
  · exact below_grown (Below.refl _ _) hgr3 (fun g hg => by rcases hown.2 with ⟨rfl, _⟩ | ⟨g0, cap, _, rfl, hg0, _⟩ <;> simp [Value.ownBlock] at hg; omega) hB
theorem push_ownI {B g2 : Nat} {s x : Operand} {sv : Value} {acc : List Int} {e : Int} (hs : vals L s = some sv) (hown : w.ownsRow B 2 1 sv acc.length (cellsI acc)) (hx : vals L x = some (.slice (some ⟨g2, 0, none⟩) 1 1)) (hX : Has w g2 2 (ic e)) (hn : acc.length ≤ 10000000) (hB : B ≤ w.heap.size) :
    Runs Tryz.prog (.call { callee := .builtin .append, args := #[s, x], argTypes := #[38, 38] }) ty L w (fun v w' => (∃ g3 c3, v = .slice (some ⟨g3, 0, none⟩) (acc.length + 1) c3) ∧ w'.ownsRow B 2 1 v (acc.length + 1) (cellsI (acc ++ [e])) ∧ (∀ i t cs, t ≠ 2 → Has w i t cs → Has w' i t cs) ∧ Below B w w') := by
  obtain ⟨i48, hi48, hz48, hs48, hb48⟩ := info_parts infI64
  refine (runs_appendN (news := ic e) undI64 hi48 hz48 hs48 hb48 rfl (by omega) hs hown hx rfl (fun j u hj => by rw [add_zero_addr, Nat.zero_add, hX.cell]; exact hj) (by simp [ic, Value.oneCell']) (by unfold maxLen; omega) (by omega) hB (by omega)).mono ?_
  rintro v w' ⟨hown3, hgr3, hne3⟩
  refine ⟨?_, by rw [cellsI_append, cellsI_one]; exact hown3, fun i t cs ht hi => ?_, ?_⟩
  · rcases hown3.2 with ⟨rfl, h0⟩ | ⟨g3, c3, _, rfl, _⟩
    · omega
    · exact ⟨g3, c3, rfl⟩
  · have hne : some i ≠ sv.ownBlock := fun hsv => by
      rcases hown.2 with ⟨rfl, _⟩ | ⟨g0, cap, cur, rfl, _, hh, _⟩
      · simp [Value.ownBlock] at hsv
      · simp only [Value.ownBlock, Option.some.injEq] at hsv
        subst hsv
        unfold Has at hi
        rw [hi] at hh
        simp only [Option.some.injEq, Obj.cells.injEq] at hh
        exact ht hh.2.1
    unfold Has
    rw [hgr3.block i hi.lt hne]
    exact hi
  · exact below_grown (Below.refl _ _) hgr3 (fun g hg => by rcases hown.2 with ⟨rfl, _⟩ | ⟨g0, cap, _, rfl, hg0, _⟩ <;> simp [Value.ownBlock] at hg; omega) hB
/-- append of a row of messages, of any length, upon a row of the call's own. -/
theorem app_ownG {B : Nat} {s x : Operand} {sv v : Value} {xs es : List E} (hE : Edges w v es) (hn : xs.length + es.length ≤ 100000) (hB : B ≤ w.heap.size) (hs : vals L s = some sv) (hown : w.ownsRow B 61 3 sv xs.length (cellsE xs)) (hx : vals L x = some v) :
    Runs Tryz.prog (.call { callee := .builtin .append, args := #[s, x], argTypes := #[29, 29] }) ty L w (fun u w2 => w2.ownsRow B 61 3 u (xs ++ es).length (cellsE (xs ++ es)) ∧ (∀ i t cs, t ≠ 61 → Has w i t cs → Has w2 i t cs) ∧ Below B w w2) := by
  obtain ⟨i48, hi48, hz48, hs48, hb48⟩ := info_parts inf48
  obtain ⟨A, c, rfl, hc1, hc2, hA⟩ := hE
  by_cases hz : es.length = 0
  · obtain rfl : es = [] := List.eq_nil_of_length_eq_zero hz
    rw [List.append_nil]
    rcases hown.2 with ⟨rfl, h0⟩ | ⟨g0, c0, cur, rfl, hg0, hh, hc3, hrest⟩
    · exact (runs_appendNil und32 hi48 hs hx).mono (by rintro u w2 ⟨rfl, rfl⟩; exact ⟨hown, fun _ _ _ _ h => h, Below.refl _ _⟩)
    · exact (runs_appendNone und32 hi48 hs hc3 (by simp) hx).mono (by rintro u w2 ⟨rfl, rfl⟩; exact ⟨hown, fun _ _ _ _ h => h, Below.refl _ _⟩)
  · obtain ⟨b, o, rfl, hb, hr⟩ := hA (Nat.pos_of_ne_zero hz)
    refine (runs_appendN (news := cellsE es) und32 hi48 hz48 hs48 hb48 rfl (by omega) hs hown hx (cellsE_length es) (fun j u hu => by rw [add_lit']; exact hr j u hu) (cellsE_onecell es) (by unfold maxLen; omega) (by omega) hB (Nat.pos_of_ne_zero hz)).mono ?_
    rintro u w2 ⟨h2, h3, h4⟩
    rw [cellsE_append, List.length_append]
    refine ⟨h2, fun i t cs ht hi => ?_, below_grown (Below.refl _ _) h3 (fun k hk => (hown.lt k hk).1) hB⟩
    have hne : some i ≠ sv.ownBlock := fun hsv => by
      rcases hown.2 with ⟨rfl, _⟩ | ⟨g0, cap, cur, rfl, _, hh, _⟩
      · simp [Value.ownBlock] at hsv
      · simp only [Value.ownBlock, Option.some.injEq] at hsv
        subst hsv
        unfold Has at hi
        rw [hi] at hh
        simp only [Option.some.injEq, Obj.cells.injEq] at hh
        exact ht hh.2.1
    unfold Has
    rw [h3.block i hi.lt hne]
    exact hi
end
/-- All below B is kept, and all objects but those of messages and the variable that holds them. -/
structure KT (B : Nat) (a b : World) : Prop where
  below : Below B a b
  other : ∀ i t cs, t ≠ 29 → t ≠ 61 → Has a i t cs → Has b i t cs
/-- The same, of what lies below N. -/
structure KE (B N : Nat) (a b : World) : Prop where
  below : Below B a b
  other : ∀ i t cs, i < N → t ≠ 29 → t ≠ 61 → Has a i t cs → Has b i t cs
section
variable {B N : Nat} {a b c : World}
theorem KT.refl (B : Nat) (a : World) : KT B a a := ⟨Below.refl _ _, fun _ _ _ _ _ h => h⟩
theorem KT.trans (h : KT B a b) (k : KT B b c) : KT B a c := ⟨h.below.trans k.below, fun i t cs h1 h2 hi => k.other i t cs h1 h2 (h.other i t cs h1 h2 hi)⟩
theorem KT.of (h : Below a.heap.size a b) (hB : B ≤ a.heap.size) : KT B a b := ⟨h.mono hB, fun _ _ _ _ _ hi => hi.below h hi.lt⟩
theorem KT.app (h : Below B a b) (k : ∀ i t cs, t ≠ 61 → Has a i t cs → Has b i t cs) : KT B a b := ⟨h, fun i t cs _ h2 hi => k i t cs h2 hi⟩
theorem KT.sto {g : Nat} {old : List Value} (hg : Has a g 29 old) (hB : B ≤ g) (hBa : B ≤ a.heap.size) (hU : But (fun k => k = g) a b) : KT B a b :=
  ⟨hU.below (fun k e => by omega) hBa, fun i t cs h1 _ hi => hi.but hU (has_ne hi hg h1)⟩
/-- Then a store into what is new. -/
theorem KT.new {g : Nat} (h : KT B a b) (hg : a.heap.size ≤ g) (hBa : B ≤ a.heap.size) (hU : But (fun k => k = g) b c) : KT B a c :=
  ⟨h.below.trans (hU.below (fun k e => by omega) (Nat.le_trans hBa h.below.size)), fun i t cs h1 h2 hi => (h.other i t cs h1 h2 hi).but hU (fun e => by have := hi.lt; omega)⟩
theorem KT.owns (h : KT B a b) {B' n sz : Nat} {e : TypeId} {v : Value} {xs : List Value} (ho : a.ownsRow B' e sz v n xs) (h1 : e ≠ 29) (h2 : e ≠ 61) : b.ownsRow B' e sz v n xs := by
  refine ⟨ho.1, ?_⟩
  rcases ho.2 with h0 | ⟨g4, c4, cur, h0, h4, hh, hrest⟩
  · exact .inl h0
  · refine .inr ⟨g4, c4, cur, h0, h4, ?_, hrest⟩
    have := h.other g4 e cur.toList h1 h2 (by unfold Has; simpa using hh)
    unfold Has at this
    simpa using this
theorem KE.refl (B N : Nat) (a : World) : KE B N a a := ⟨Below.refl _ _, fun _ _ _ _ _ _ h => h⟩
theorem KE.trans (h : KE B N a b) (k : KE B N b c) : KE B N a c := ⟨h.below.trans k.below, fun i t cs h0 h1 h2 hi => k.other i t cs h0 h1 h2 (h.other i t cs h0 h1 h2 hi)⟩
theorem KT.ke (h : KT B a b) (N : Nat) : KE B N a b := ⟨h.below, fun i t cs _ h1 h2 hi => h.other i t cs h1 h2 hi⟩
theorem KE.of (h : Below N a b) (hB : B ≤ N) : KE B N a b := ⟨h.mono hB, fun _ _ _ h0 _ _ hi => hi.below h h0⟩
theorem KE.owns (h : KE B N a b) {B' n sz : Nat} {e : TypeId} {v : Value} {xs : List Value} (ho : a.ownsRow B' e sz v n xs) (hN : a.heap.size ≤ N) (h1 : e ≠ 29) (h2 : e ≠ 61) : b.ownsRow B' e sz v n xs := by
  refine ⟨ho.1, ?_⟩
  rcases ho.2 with h0 | ⟨g4, c4, cur, h0, h4, hh, hrest⟩
  · exact .inl h0
  · refine .inr ⟨g4, c4, cur, h0, h4, ?_, hrest⟩
    have hh2 : Has a g4 e cur.toList := by unfold Has; simpa using hh
    have := h.other g4 e cur.toList (Nat.lt_of_lt_of_le hh2.lt hN) h1 h2 hh2
    unfold Has at this
    simpa using this
/-- A row of messages stays where no object of messages changes. -/
theorem owns_typed {B' n sz : Nat} {e : TypeId} {v : Value} {xs : List Value} (h : ∀ i cs, Has a i e cs → Has b i e cs) (ho : a.ownsRow B' e sz v n xs) : b.ownsRow B' e sz v n xs := by
  refine ⟨ho.1, ?_⟩
  rcases ho.2 with h0 | ⟨g4, c4, cur, h0, h4, hh, hrest⟩
  · exact .inl h0
  · refine .inr ⟨g4, c4, cur, h0, h4, ?_, hrest⟩
    have := h g4 cur.toList (by unfold Has; simpa using hh)
    unfold Has at this
    simpa using this
end
theorem verts_row {w : World} {A : Option Addr} {c : Nat} {l : List Vx} (h : Verts w (.slice A l.length c) l) (h0 : 0 < l.length) : ∃ b o, A = some ⟨b, o, none⟩ ∧ b < w.heap.size ∧ w.rangeAt b o (cellsV l) := by
  obtain ⟨A', c', e, _, _, hA⟩ := h
  simp only [Value.slice.injEq, true_and] at e
  obtain ⟨rfl, rfl⟩ := e
  exact hA h0
end Go.Proofs.YtapcpmalgdhakaaGreat
