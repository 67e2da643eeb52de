/- Layer 8: slices of slices of messages. Conditions: none of our own. -/
import Derived.Test.YthenbmalnmaofaaFRTo
import Derived.Test.YthenbmalnmaofaaFTop
import Derived.Laws.OwnMore
namespace Go.Proofs.Ythenbmalnmaofaa
open Go.RowKit
open Part (own)
set_option maxRecDepth 100000

/-- Those that go to a worker. -/
def ptL (k : Int) (d : List E) (j : Nat) : List E := d.filter fun e => own e.2.1 k == (j : Int)
def negB (l : List E) : Bool := l.any fun m : E => decide (m.2.1 < 0)
def splitOk (k : Int) (l : List E) : Bool := decide (1 ≤ k) && decide (k ≤ 64) && !negB l
/-- Messages by workers. -/
def splitL (k : Int) (l : List E) : List (List E) := (List.range k.toNat).map fun j => sortM (ptL k l j)
theorem splitL_length (k : Int) (l : List E) : (splitL k l).length = k.toNat := by simp [splitL]
theorem splitL_get {k : Int} {l : List E} {j : Nat} (h : j < k.toNat) : (splitL k l)[j]? = some (sortM (ptL k l j)) := by simp [splitL, h]
theorem ptL_snoc {k : Int} {d : List E} {e : E} {j : Nat} : ptL k (d ++ [e]) j = ptL k d j ++ (if own e.2.1 k = (j : Int) then [e] else []) := by
  unfold ptL
  rw [List.filter_append]
  by_cases h : own e.2.1 k = (j : Int)
  · rw [if_pos h, List.filter_cons_of_pos (by simpa using h)]; rfl
  · rw [if_neg h, List.filter_cons_of_neg (by simpa using h)]; rfl
theorem ptL_sort (k : Int) (l : List E) (j : Nat) : ptL k (sortM l) j = sortM (ptL k l j) := sortM_filter _ _
theorem ptL_le (k : Int) (d : List E) (j : Nat) : (ptL k d j).length ≤ d.length := List.length_filter_le _ _
theorem splitOk_iff {k : Int} {l : List E} : splitOk k l = true ↔ 1 ≤ k ∧ k ≤ 64 ∧ negB l = false := by
  unfold splitOk
  rw [Bool.and_eq_true, Bool.and_eq_true, decide_eq_true_eq, decide_eq_true_eq, Bool.not_eq_true', and_assoc]
theorem negB_no {l : List E} (h : negB l = false) {e : E} (he : e ∈ l) : 0 ≤ e.2.1 := by
  unfold negB at h
  rw [List.any_eq_false] at h
  have := h e he
  simpa using this
/-- A slice of slices of messages. -/
def RowsM (w : World) (v : Value) (ls : List (List E)) : Prop :=
  ∃ g o c, v = .slice (some ⟨g, o, none⟩) ls.length c ∧ ls.length ≤ c ∧ g < w.heap.size ∧ ∃ vs : List Value, vs.length = ls.length ∧ w.rangeAt g o vs ∧ ∀ (j : Nat) (u : Value) (l : List E), vs[j]? = some u → ls[j]? = some l → Edges w u l
theorem RowsM.kept {w w' : World} {v : Value} {ls : List (List E)} (h : RowsM w v ls) (k : Below w.heap.size w w') : RowsM w' v ls := by
  obtain ⟨g, o, c, h1, h2, h3, vs, h4, h5, h6⟩ := h
  exact ⟨g, o, c, h1, h2, Nat.lt_of_lt_of_le h3 k.size, vs, h4, range_below h5 k h3, fun j u l hu hl => (h6 j u l hu hl).kept k⟩
/-- What stays while a row of messages that is made ends as Y, and lies in the block s or a new one. -/
def KZ (B : Nat) (Y : List Value) (s : Option Nat) (a b : World) : Prop := KY B Y a b ∧ ∀ (v : Value) (k : Nat) (ys : List Value), (v.ownBlock = none ∨ v.ownBlock ≠ s) → a.ownsRow B 41 3 v k ys → b.ownsRow B 41 3 v k ys
theorem KZ.of_below {B : Nat} {Y : List Value} {s : Option Nat} {a b : World} (h : Below a.heap.size a b) (hB : B ≤ a.heap.size) : KZ B Y s a b := ⟨KY.of_below h hB, fun _ _ _ _ ho => owns_kept ho h⟩
theorem KZ.refl {B : Nat} {Y : List Value} {s : Option Nat} {a : World} : KZ B Y s a a := ⟨KY.refl, fun _ _ _ _ h => h⟩
theorem KZ.trans {B : Nat} {Y : List Value} {s : Option Nat} {a b c : World} (h : KZ B Y s a b) (k : KZ B Y s b c) : KZ B Y s a c := ⟨h.1.trans k.1, fun v n ys hy ho => k.2 v n ys hy (h.2 v n ys hy ho)⟩
theorem KZ.drew {B : Nat} {Y : List Value} {s : Option Nat} {a b : World} (h : KZ B Y s a b) : KZ B Y s a b.drew := ⟨h.1.drew, h.2⟩
/-- The parts: a row of its own for each worker. -/
def PartsI (w : World) (B : Nat) (k : Int) (d : List E) (vs : List Value) : Prop :=
  (∀ (j : Nat) (u : Value), vs[j]? = some u → w.ownsRow B 41 3 u (ptL k d j).length (cellsE (ptL k d j))) ∧ (∀ (j : Nat) (u : Value), vs[j]? = some u → (ptL k d j).length = 0 → u = .slice none 0 0) ∧ ∀ (j j' : Nat) (u u' : Value), j ≠ j' → vs[j]? = some u → vs[j']? = some u' → (u.ownBlock = none ∨ u.ownBlock ≠ u'.ownBlock)
theorem PartsI.kept {w w' : World} {B : Nat} {k : Int} {d : List E} {vs : List Value} (h : PartsI w B k d vs) (hb : Below w.heap.size w w') : PartsI w' B k d vs :=
  ⟨fun j u hu => owns_kept (h.1 j u hu) hb, h.2⟩
theorem PartsI.but {w w' : World} {B : Nat} {k : Int} {d : List E} {vs : List Value} {S : Nat → Prop} (h : PartsI w B k d vs) (hb : But S w w') (hn : ∀ i old, Has w i 41 old → ¬ S i) : PartsI w' B k d vs :=
  ⟨fun j u hu => owns_but (h.1 j u hu) hb hn, h.2⟩
theorem PartsI.step {w w' : World} {B : Nat} {k : Int} {d : List E} {vs : List Value} {e : E} {j : Nat} {sv u : Value} (h : PartsI w B k d vs) (hj : own e.2.1 k = (j : Int)) (hsv : vs[j]? = some sv)
    (hu : w'.ownsRow B 41 3 u (ptL k (d ++ [e]) j).length (cellsE (ptL k (d ++ [e]) j))) (hk : ∀ (v : Value) (n : Nat) (ys : List Value), (v.ownBlock = none ∨ v.ownBlock ≠ sv.ownBlock) → w.ownsRow B 41 3 v n ys → w'.ownsRow B 41 3 v n ys)
    (hloc : u.ownBlock = sv.ownBlock ∨ ∃ g, u.ownBlock = some g ∧ w.heap.size ≤ g) : PartsI w' B k (d ++ [e]) (vs.set j u) := by
  have hjl := (List.getElem?_eq_some_iff.1 hsv).1
  have oth : ∀ i x, i ≠ j → (vs.set j u)[i]? = some x → vs[i]? = some x := fun i x hij hx => by
    rw [List.getElem?_set_ne (fun e => hij e.symm)] at hx; exact hx
  have far : ∀ i x, i ≠ j → vs[i]? = some x → (x.ownBlock = none ∨ x.ownBlock ≠ u.ownBlock) ∧ (u.ownBlock = none ∨ u.ownBlock ≠ x.ownBlock) := fun i x hij hx => by
    rcases hloc with hl | ⟨g, hl, hg⟩
    · rw [hl]
      exact ⟨h.2.2 i j x sv hij hx hsv, h.2.2 j i sv x (fun e => hij e.symm) hsv hx⟩
    · have hne : x.ownBlock ≠ u.ownBlock := fun e => by
        rw [hl] at e
        have := ((h.1 i x hx).lt g e).2
        omega
      exact ⟨.inr hne, .inr hne.symm⟩
  refine ⟨fun i x hx => ?_, fun i x hx h0 => ?_, fun i i' x x' hii hx hx' => ?_⟩
  · by_cases hij : i = j
    · subst hij
      rw [List.getElem?_set_self hjl] at hx
      cases hx
      exact hu
    · have hx := oth i x hij hx
      rw [ptL_snoc, if_neg (by rw [hj]; intro e; exact hij (by omega)), List.append_nil]
      exact hk x _ _ (h.2.2 i j x sv hij hx hsv) (h.1 i x hx)
  · by_cases hij : i = j
    · subst hij
      rw [ptL_snoc, if_pos hj, List.length_append] at h0
      simp at h0
    · have hx := oth i x hij hx
      rw [ptL_snoc, if_neg (by rw [hj]; intro e; exact hij (by omega)), List.append_nil] at h0
      exact h.2.1 i x hx h0
  · by_cases hij : i = j
    · subst hij
      rw [List.getElem?_set_self hjl] at hx
      cases hx
      exact (far i' x' (fun e => hii e.symm) (oth i' x' (fun e => hii e.symm) hx')).2
    · by_cases hij' : i' = j
      · subst hij'
        rw [List.getElem?_set_self hjl] at hx'
        cases hx'
        exact (far i x hij (oth i x hij hx)).1
      · exact h.2.2 i i' x x' hii (oth i x hij hx) (oth i' x' hij' hx')
theorem But.step {S : Nat → Prop} {W a b c : World} (h : But S W a) (hb : Below W.heap.size a b) (hs : But S b c) : But S W c := by
  have h1 := h.size
  have h2 := hb.size
  have h3 := hs.size
  exact ⟨(hs.os.trans hb.os).trans h.os, (hs.tape.trans hb.tape).trans h.tape, (hs.output.trans hb.output).trans h.output, by omega, fun i hi hn => ((hs.block i (by omega) hn).trans (hb.block i hi)).trans (h.block i hi hn)⟩
section
variable {L : List (Nat × Value)} {w : World} {ty : TypeId}
theorem runs_oneMM {x : Operand} {A : Option Addr} {n c : Nat} (hx : vals L x = some (.slice A n c)) : Runs Try.prog (.buildSlice 34 1 #[(0, x)]) ty L w (fun v w' => ∃ g2, v = .slice (some ⟨g2, 0, none⟩) 1 1 ∧ Has w' g2 22 [.slice A n c] ∧ Below w.heap.size w w') := by
  obtain ⟨i5, hi5, hz5, hs5, hb5⟩ := info_parts infM
  exact (runs_buildSliceG (sz := 1) (pv := [(0, .slice A n c)]) (by simp [hx]) undMM hi5 hz5 hs5 (by omega) (by omega) (cells := #[.slice A n c]) (by kernel_rfl)).mono (by rintro v w5 ⟨rfl, rfl⟩; exact ⟨_, rfl, Has.new w 22 [.slice A n c], (Below.refl _ _).alloc (Nat.le_refl _) _⟩)
theorem push_ownMM {u : Value} {B g2 k : Nat} {s x : Operand} {sv : Value} {xs : List Value} (hs : vals L s = some sv) (hown : w.ownsRow B 22 1 sv k xs) (hx : vals L x = some (.slice (some ⟨g2, 0, none⟩) 1 1)) (hX : Has w g2 22 [u]) (hu : u.oneCell' = true) (hn : k ≤ 10000000) (hB : B ≤ w.heap.size) :
    Runs Try.prog (.call { callee := .builtin .append, args := #[s, x], argTypes := #[34, 34] }) ty L w (fun v w' => w'.ownsRow B 22 1 v (k + 1) (xs ++ [u]) ∧ Below B w w' ∧ ∀ (B' : Nat) (v' : Value) (n : Nat) (ys : List Value), w.ownsRow B' 41 3 v' n ys → w'.ownsRow B' 41 3 v' n ys) := by
  obtain ⟨i3, hi3, hz3, hs3, hb3⟩ := info_parts infM
  refine (runs_appendN (news := [u]) undMM hi3 hz3 hs3 hb3 rfl (by omega) hs hown hx rfl (fun j v hj => by rw [add_zero_addr, Nat.zero_add, hX.cell]; exact hj) (by intro v hv; rw [List.mem_singleton] at hv; rw [hv]; exact hu) (by unfold maxLen; omega) (by omega) hB (by omega)).mono ?_
  rintro v w' ⟨hown3, hgr3, hne3⟩
  refine ⟨hown3, ?_, fun B' v' n ys hv => owns_far hgr3 hv ?_⟩
  · exact below_grown (Below.refl _ _) hgr3 (fun g hg => by rcases hown.2 with ⟨rfl, _⟩ | ⟨g0, cap, _, rfl, hg0, _⟩ <;> simp [Value.ownBlock] at hg; omega) hB
  · cases hb : v'.ownBlock with
    | none => exact .inl rfl
    | some g => exact .inr (by rw [← hb]; exact own_ne2 hv hown (by decide) hb)
theorem runs_makeMM {x y : Operand} {n : Nat} (hx : vals L x = some (.int .i64 (n : Int))) (hy : vals L y = some (.int .i64 (n : Int))) (hn : n ≤ 1000) : Runs Try.prog (.makeSlice 34 x y) ty L w (fun v w' => v = .slice (some ⟨w.heap.size, 0, none⟩) n n ∧ Has w' w.heap.size 22 (List.replicate n (.slice none 0 0)) ∧ Below w.heap.size w w') := fun o a K Q ho _ hL hK => by
  obtain ⟨i3, hi3, hz3, hs3, hb3⟩ := info_parts infM
  have e1 := hL x (by simp [Op.operands]) _ hx
  have e2 := hL y (by simp [Op.operands]) _ hy
  have hr := run_make (P := Try.prog) w 34 22 i3 (.slice none 0 0) undMM hi3 hz3 .i64 .i64 n n (by omega) (Int.le_refl _) (by rw [hb3]; omega) (by omega)
  rw [hs3] at hr
  simp only [Int.toNat_natCast, Nat.mul_one] at hr
  unfold Oper.wp
  have : (execOp a.eval o).run Try.prog w = .ok (.value (.slice (some ⟨w.heap.size, 0, none⟩) n n)) (w.alloc (.cells (madeCells (Value.slice none 0 0).cells n) 22)) := by
    simp [execOp, ho, e1, e2, hr]
  rw [this]
  refine hK _ _ ⟨rfl, ?_, (Below.refl _ _).alloc (Nat.le_refl _) _⟩
  have e : madeCells (Value.slice none 0 0).cells n = (List.replicate n (Value.slice none 0 0)).toArray := by
    have h := toList_madeCells_one (Value.slice none 0 0) n
    rw [← h]
    rfl
  rw [e]
  exact Has.new w 22 (List.replicate n (.slice none 0 0))
end
end Go.Proofs.Ythenbmalnmaofaa
