/- The walk of TreeTwo, and Few. Conditions: the table of constants lies as it was laid. -/
import Derived.Test.YthkbnbnfjnliaaaDoorTTop
import Derived.ArgAppend
import Derived.Test.YthkbnbnfjnliaaaDoorJ09
import Derived.OrdersHeld
namespace Go.Proofs.YthkbnbnfjnliaaaDoor
open Go.RowKit
set_option maxRecDepth 100000

section
variable {P : Program} {L : List (Nat × Value)} {w : World} {ty : TypeId}
/-- x[:k] -/
theorem runs_sliceTo {t e : TypeId} {x hi : Operand} {g o' m c k : Nat} {i : Int} (hx : vals L x = some (.slice (some ⟨g, o', none⟩) m c)) (hhi : vals L hi = some (.int .i64 i)) (hi' : i = (k : Int)) (hu : P.underlying t = some (.slice e)) (hs : (P.info? e).isSome = true) (hkc : k ≤ c) :
    Runs P (.slice t x none (some hi) none) ty L w (Is (.slice (some ⟨g, o', none⟩) k c) w) := fun o a K Q ho _ hL hK => by
  have ex := hL x (by simp [Op.operands]) _ hx
  have eh := hL hi (by simp [Op.operands]) _ hhi
  subst hi'
  obtain ⟨ie, hie⟩ := Option.isSome_iff_exists.1 hs
  have hadd : (⟨g, o', none⟩ : Addr).add 0 = ⟨g, o', none⟩ := rfl
  unfold Oper.wp
  have : (execOp a.eval o).run P w = .ok (.value (.slice (some ⟨g, o', none⟩) k c)) w := by
    simp [execOp, ho, ex, eh, Instr.sliceAt, run_underlying hu, Instr.slice, Instr.sliceBounds, Instr.sliceBound, asIntOf, hkc, sizeOf, typeInfo, hie, hadd]
  rw [this]
  exact hK _ _ ⟨rfl, rfl⟩
/-- x[k:] -/
theorem runs_sliceFrom {t e : TypeId} {x lo : Operand} {g o' m c l : Nat} {i : Int} (hx : vals L x = some (.slice (some ⟨g, o', none⟩) m c)) (hlo : vals L lo = some (.int .i64 i)) (hi' : i = (l : Int)) (hu : P.underlying t = some (.slice e)) (hs : (P.info? e).map (·.size) = some 1) (hlm : l < m) (hmc : m ≤ c) :
    Runs P (.slice t x (some lo) none none) ty L w (Is (.slice (some ⟨g, o' + l, none⟩) (m - l) (c - l)) w) := fun o a K Q ho _ hL hK => by
  have ex := hL x (by simp [Op.operands]) _ hx
  have el := hL lo (by simp [Op.operands]) _ hlo
  subst hi'
  obtain ⟨ie, hie⟩ : ∃ ie, P.info? e = some ie := by
    cases h : P.info? e with
    | none => rw [h] at hs; cases hs
    | some ie => exact ⟨ie, rfl⟩
  have hsz : ie.size = 1 := by rw [hie] at hs; simpa using hs
  have hadd : (⟨g, o', none⟩ : Addr).add l = ⟨g, o' + l, none⟩ := by unfold Addr.add; split <;> simp_all
  have h3 : ¬ c = l := by omega
  have h4 : l ≤ m := by omega
  have h5 : l ≤ c := by omega
  unfold Oper.wp
  have : (execOp a.eval o).run P w = .ok (.value (.slice (some ⟨g, o' + l, none⟩) (m - l) (c - l))) w := by
    simp [execOp, ho, ex, el, Instr.sliceAt, run_underlying hu, Instr.slice, Instr.sliceBounds, Instr.sliceBound, asIntOf, h4, sizeOf, typeInfo, hie, hsz, h3, hadd]
  rw [this]
  exact hK _ _ ⟨rfl, rfl⟩
end
end Go.Proofs.YthkbnbnfjnliaaaDoor
/- A region that draws its order, each of its operations looked at ONCE: what a slot holds is a relation that is kept by what only adds to memory. Conditions: every operation has a slot of its own, and waits for earlier ones alone. -/
namespace Go.Proofs.YthkbnbnfjnliaaaDoor
open Go.RowKit


section
variable {P : Program} {md : Region.Mode} {ops : Array Oper} {Q : Exit → Act → World → Prop} {S : World → Prop}
/-- The operation leaves a value of which R is true, and adds to memory alone. -/
def Makes (P : Program) (ops : Array Oper) (Q : Exit → Act → World → Prop) (o : Oper) (d : Tmp) (R : Value → World → Prop) (b : Act) (w : World) : Prop :=
  Region.wanted o (yielded ops b.tmps) = true ∧ ∀ K : Act → World → Prop, (∀ v w', Below w.heap.size w w' → R v w' → K (b.put (some d) v) w') → o.wp P b w K Q
theorem Makes.wpOp {i : Nat} {o : Oper} {d : Tmp} {R : Value → World → Prop} {b : Act} {w : World} (h : Makes P ops Q o d R b w) (hi : ops[i]? = some o) {K : Act → World → Prop}
    (hK : ∀ v w', Below w.heap.size w w' → R v w' → K (b.put (some d) v) w') : wpOp P ops Q i K b w := by
  unfold Go.wpOp
  simp only [hi, h.1, if_true]
  exact .inl (h.2 K hK)
end
theorem countP_lt {p q : Nat → Bool} : ∀ (l : List Nat) (x : Nat), x ∈ l → (∀ y, q y = true → p y = true) → p x = true → q x = false → l.countP q < l.countP p
  | [], _, h, _, _, _ => by cases h
  | y :: l, x, h, hi, hp, hq => by
    have hle : l.countP q ≤ l.countP p := List.countP_mono_left fun y _ => hi y
    rw [List.countP_cons, List.countP_cons]
    rcases List.mem_cons.1 h with rfl | h
    · rw [hp, hq]; simp; omega
    · have ih := countP_lt l x h hi hp hq
      cases hqy : q y with
      | false => simp; omega
      | true => rw [hi y hqy]; simp; omega
section
variable {P : Program} {md : Region.Mode} {ops : Array Oper} {Q : Exit → Act → World → Prop} {S : World → Prop}
/-- What holds when 'listed' have come up. -/
structure So (S : World → Prop) (R : Nat → Value → World → Prop) (D : Nat → Tmp) (n : Nat) (a0 : Act) (listed : Array Bool) (a : Act) (w : World) : Prop where
  size : listed.size = n
  S : S w
  tmps : a.tmps.size = a0.tmps.size
  defers : a.defers = a0.defers
  has : ∀ i, i < n → listed.getD i true = true → R i (a.tmps.getD (D i) undef) w
  old : ∀ d, (∀ i, i < n → listed.getD i true = true → D i ≠ d) → a.tmps.getD d undef = a0.tmps.getD d undef
theorem ready_nil (hord : ∀ (i : Nat) (o : Oper), ops[i]? = some o → o.after.all (fun e => decide (e.on < i)) = true) {listed : Array Bool} (hs : listed.size = ops.size) (h : Region.ready md ops listed = []) : ∀ i, i < ops.size → listed.getD i true = true := by
  intro i
  induction i using Nat.strongRecOn with
  | _ i ih =>
    intro hi
    by_cases hl : listed.getD i true = true
    · exact hl
    · exfalso
      have hm : i ∈ Region.ready md ops listed := by
        rw [mem_ready]
        refine ⟨by simpa using hl, ops[i], Array.getElem?_eq_getElem hi, fun e he _ => ?_⟩
        have hlt : e.on < i := by
          have := hord i _ (Array.getElem?_eq_getElem hi)
          rw [Array.all_eq_true_iff_forall_mem] at this
          simpa using this e he
        have := ih e.on hlt (by omega)
        have hb : e.on < listed.size := by omega
        simpa [hb] using this
      rw [h] at hm
      cases hm
theorem held_all (R : Nat → Value → World → Prop) (D : Nat → Tmp) (a0 : Act) (hinj : ∀ i j, i < ops.size → j < ops.size → D i = D j → i = j) (hlt : ∀ i, i < ops.size → D i < a0.tmps.size)
    (hord : ∀ (i : Nat) (o : Oper), ops[i]? = some o → o.after.all (fun e => decide (e.on < i)) = true)
    (mono : ∀ i v w w', R i v w → Below w.heap.size w w' → R i v w') (kS : ∀ w w', S w → Below w.heap.size w w' → S w')
    (step : ∀ (listed : Array Bool) (a : Act) (w : World) (i : Nat) (o : Oper), So S R D ops.size a0 listed a w → ops[i]? = some o → (∀ e ∈ o.after, Region.binds md e = true → listed.getD e.on false = true) → Makes P ops Q o (D i) (R i) a w)
    (fin : ∀ (listed : Array Bool) (a : Act) (w : World), So S R D ops.size a0 listed a w → (∀ i, i < ops.size → listed.getD i true = true) → Q .normal a w) :
    ∀ (fuel : Nat) (listed : Array Bool) (a : Act) (w : World), So S R D ops.size a0 listed a w → (List.range ops.size).countP (fun i => !listed.getD i true) ≤ fuel → wpAnyH P md ops Q S fuel listed a w := by
  intro fuel
  induction fuel with
  | zero =>
    intro listed a w hs hc
    have hall : ∀ i, i < ops.size → listed.getD i true = true := fun i hi => by
      have := List.countP_eq_zero.1 (Nat.le_zero.1 hc) i (List.mem_range.2 hi)
      simpa using this
    refine ⟨?_, fin listed a w hs hall⟩
    apply List.eq_nil_iff_forall_not_mem.2
    intro j hj
    obtain ⟨h0, o, ho, _⟩ := mem_ready.1 hj
    have hjs : j < ops.size := (Array.getElem?_eq_some_iff.1 ho).1
    rw [hall j hjs] at h0
    cases h0
  | succ fuel ih =>
    intro listed a w hs hc
    refine ⟨fun h => fin listed a w hs (ready_nil hord hs.size h), fun i hi => ?_⟩
    obtain ⟨h0, o, ho, hdeps⟩ := mem_ready.1 hi
    have his : i < ops.size := (Array.getElem?_eq_some_iff.1 ho).1
    refine (step listed a w i o hs ho hdeps).wpOp ho (fun v w' hb hR => ⟨kS w w' hs.S hb, ?_⟩)
    have hget : ∀ j, (listed.setIfInBounds i true).getD j true = if i = j then true else listed.getD j true := fun j => by
      by_cases hij : i = j
      · subst hij
        rw [if_pos rfl]
        simp [hs.size, his]
      · rw [if_neg hij, getD_set_ne true hij]
    apply ih
    · refine ⟨by simp [hs.size], kS w w' hs.S hb, by simp [Act.put, hs.tmps], hs.defers, fun j hj hl => ?_, fun d hd => ?_⟩
      · rw [hget] at hl
        by_cases hij : i = j
        · subst hij
          have : D i < a.tmps.size := by rw [hs.tmps]; exact hlt i his
          simpa [Act.put, this] using hR
        · rw [if_neg hij] at hl
          have hne : D i ≠ D j := fun e => hij (hinj i j his hj e)
          have := mono _ _ _ _ (hs.has j hj hl) hb
          simpa [Act.put, Array.getElem?_setIfInBounds_ne hne] using this
      · have hdi : D i ≠ d := hd i his (by rw [hget, if_pos rfl])
        have := hs.old d (fun j hj hl => hd j hj (by rw [hget]; split; rfl; exact hl))
        simpa [Act.put, Array.getElem?_setIfInBounds_ne hdi] using this
    · have := countP_lt (p := fun j => !listed.getD j true) (q := fun j => !(listed.setIfInBounds i true).getD j true) (List.range ops.size) i (List.mem_range.2 his) (fun y hy => by
          simp only [hget] at hy
          split at hy
          · simp at hy
          · exact hy) (by simp only [h0]; rfl) (by simp only [hget, if_true]; rfl)
      omega
theorem held_all0 (R : Nat → Value → World → Prop) (D : Nat → Tmp) {a0 : Act} {w : World} (hinj : ∀ i j, i < ops.size → j < ops.size → D i = D j → i = j) (hlt : ∀ i, i < ops.size → D i < a0.tmps.size)
    (hord : ∀ (i : Nat) (o : Oper), ops[i]? = some o → o.after.all (fun e => decide (e.on < i)) = true)
    (mono : ∀ i v w w', R i v w → Below w.heap.size w w' → R i v w') (kS : ∀ w w', S w → Below w.heap.size w w' → S w') (hS : S w)
    (step : ∀ (listed : Array Bool) (a : Act) (w : World) (i : Nat) (o : Oper), So S R D ops.size a0 listed a w → ops[i]? = some o → (∀ e ∈ o.after, Region.binds md e = true → listed.getD e.on false = true) → Makes P ops Q o (D i) (R i) a w)
    (fin : ∀ (listed : Array Bool) (a : Act) (w : World), So S R D ops.size a0 listed a w → (∀ i, i < ops.size → listed.getD i true = true) → Q .normal a w) :
    wpAnyH P md ops Q S ops.size (Array.replicate ops.size false) a0 w :=
  held_all R D a0 hinj hlt hord mono kS step fin _ _ _ _ ⟨by simp, hS, rfl, rfl, fun i hi h => by simp [hi] at h, fun _ _ => rfl⟩ (by have := List.countP_le_length (p := fun i => !(Array.replicate ops.size false).getD i true) (l := List.range ops.size); simpa using this)
end
end Go.Proofs.YthkbnbnfjnliaaaDoor
