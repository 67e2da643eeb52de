/- A region that draws its order, in which several operations make objects of their own: those are not the same. Conditions: none of our own. -/
import Derived.Test.YtooeahpkhocaeaaDoorJ03
import Derived.Test.YtooeahpkhocaeaaDoorJ08
import Derived.Test.YtooeahpkhocaeaaDoorRows
import Derived.Test.YtooeahpkhocaeaaDoorJ00
import Derived.Maps.AppendAt
import Derived.Lib.AppendStr
import Derived.Lib.ConvBytes
import Derived.Test.YtooeahpkhocaeaaDoorTTop
import Derived.ArgAppend
import Derived.OrdersHeld
namespace Go.Proofs.YtooeahpkhocaeaaDoor
open Go.RowKit
set_option maxRecDepth 100000

section
variable {P : Program} {K : World → World → Prop} {ops : Array Oper} {Q : Exit → Act → World → Prop} {S : World → Prop} {L : List (Nat × Value)} {n : Nat} {nw : Nat → Bool}
end
end Go.Proofs.YtooeahpkhocaeaaDoor
/- Words for memory: what is written, and what is read, and what a call leaves alone. No condition. -/
namespace Go.Proofs.YtooeahpkhocaeaaDoor
open Go.RowKit
set_option maxRecDepth 100000

theorem info5w : (Tryd.prog.info? 5).map (fun i => (i.zero, i.size, i.bytes)) = some (some (.int .u8 0), 1, 1) := by kernel_rfl

/-- What is read: block b holds what is left, and what was wrong. -/
def In (w : World) (b : Nat) (s : ByteArray) (e : Nat) : Prop := Has w b 76 [.string s, .int .i64 (e : Int)]
def nul : Value := .bool false
/-- Behind a call that reads. -/
def Did (w : World) (b : Nat) (s : ByteArray) (e : Nat) (w' : World) : Prop := In w' b s e ∧ Fr b nul w w'
end Go.Proofs.YtooeahpkhocaeaaDoor
/- The contract of Done; NewIn. Conditions: at most 300000 bytes. -/
namespace Go.Proofs.YtooeahpkhocaeaaDoor
open Go.RowKit
set_option maxRecDepth 100000

theorem newIn_any (s : ByteArray) (w : World) : Calls Tryd.prog 23 #[.string s] w fun e w' => e = .returned (.pointer (some ⟨w.heap.size, 0, none⟩)) ∧ w' = w.alloc (.cells #[.string s, .int .i64 0] 76) := by
  go_enter Tryd.func23, Tryd.ntmps23
  go_wp2
  go_ret
  exact ⟨rfl, rfl⟩
theorem in_new (w : World) (s : ByteArray) : In (w.alloc (.cells #[.string s, .int .i64 0] 76)) w.heap.size s 0 := Has.new w 76 [.string s, .int .i64 0]
theorem err_any (b : Nat) (s : ByteArray) (x : Nat) (w : World) (h : In w b s x) :
    Calls Tryd.prog 26 #[.pointer (some ⟨b, 0, none⟩)] w fun e w' => e = .returned (.int .i64 (x : Int)) ∧ w = w' := by
  have c1 : w.cell? ⟨b, 1, none⟩ = some (.int .i64 (x : Int)) := h.cell 1
  clear h
  go_enter Tryd.func26, Tryd.ntmps26
  go_wp2
  go_ret
  exact ⟨rfl, rfl⟩
/-- What End tells. -/
def endOf (s : ByteArray) (x : Nat) : Nat := if x = 0 ∧ 0 < s.size then 22 else x
theorem end_anyw (b : Nat) (s : ByteArray) (x : Nat) (w : World) (h : In w b s x) :
    Calls Tryd.prog 27 #[.pointer (some ⟨b, 0, none⟩)] w fun e w' => e = .returned (.int .i64 (endOf s x : Int)) ∧ w = w' := by
  have c0 : w.cell? ⟨b, 0, none⟩ = some (.string s) := h.cell 0
  have c1 : w.cell? ⟨b, 1, none⟩ = some (.int .i64 (x : Int)) := h.cell 1
  clear h
  by_cases hx : x = 0
  · subst hx
    by_cases hs : 0 < s.size
    · have HE := Lib.hid (show endOf s 0 = 22 by unfold endOf; rw [if_pos ⟨rfl, hs⟩])
      go_enter Tryd.func27, Tryd.ntmps27
      go_wp2
      go_ret
      exact ⟨congrArg (fun n : Nat => Ending.returned (.int .i64 (n : Int))) HE.out.symm, rfl⟩
    · have HE := Lib.hid (show endOf s 0 = 0 by unfold endOf; rw [if_neg (by omega)])
      go_enter Tryd.func27, Tryd.ntmps27
      go_wp2
      go_ret
      exact ⟨congrArg (fun n : Nat => Ending.returned (.int .i64 (n : Int))) HE.out.symm, rfl⟩
  · have HE := Lib.hid (show endOf s x = x by unfold endOf; rw [if_neg (by omega)])
    have t1 : ((x : Int) == 0) = false := by simp; omega
    go_enter Tryd.func27, Tryd.ntmps27
    go_wp2
    go_ret
    exact ⟨congrArg (fun n : Nat => Ending.returned (.int .i64 (n : Int))) HE.out.symm, rfl⟩
end Go.Proofs.YtooeahpkhocaeaaDoor
/- Graphs as lists of edges: which may be, their order, what is the same. No condition. -/
namespace Go.Proofs.YtooeahpkhocaeaaDoor

/-- From, To, Weight. -/
abbrev E := Int × Int × Int
theorem filter_tt (l : List E) : l.filter (fun _ => true) = l := List.filter_eq_self.2 (fun _ _ => rfl)
end Go.Proofs.YtooeahpkhocaeaaDoor
/- Layer 7: programs, as mathematics. Conditions: none of our own. -/
namespace Go.Proofs.YtooeahpkhocaeaaDoor
set_option maxRecDepth 100000

def great (x : Int) : Bool := decide (x > 1125899906842624) || decide (x < -1125899906842624)
theorem great_no {x : Int} (h : great x = false) : -1125899906842624 ≤ x ∧ x ≤ 1125899906842624 := by simp [great] at h; omega
/-- A vertex: its number, its value, whether it goes on, whether something came, and what. -/
structure Vx where
  id : Int
  val : Int
  act : Bool
  has : Bool
  inn : Int
deriving DecidableEq
def noVx : Vx := ⟨0, 0, false, false, 0⟩
end Go.Proofs.YtooeahpkhocaeaaDoor
/- The contracts of the document's own small functions: two, cut, turn, constants. Conditions: the powers of two below 2 to the 64. -/
namespace Go.Proofs.YtooeahpkhocaeaaDoor
open Go.RowKit
set_option maxRecDepth 100000

def U64 (l : List Nat) : List Value := l.map fun n : Nat => Value.int .u64 (n : Int)
@[simp] theorem U64_length (l : List Nat) : (U64 l).length = l.length := by simp [U64]
end Go.Proofs.YtooeahpkhocaeaaDoor
/- Plain mathematics for the document's own Of: numbers of 32 bits kept in 64. Conditions: numbers of 32 bits. -/
namespace Go.Proofs.YtooeahpkhocaeaaDoor
open Go.RowKit
set_option maxRecDepth 100000

end Go.Proofs.YtooeahpkhocaeaaDoor
/- One byte appended to a row of the call's own, marked or not. Conditions: fewer than a million bytes. -/
namespace Go.Proofs.YtooeahpkhocaeaaDoor
open Go.RowKit
set_option maxRecDepth 100000

def OwnB (base : Nat) (V : World) (v : Value) (l : List Nat) : Prop :=
  ∃ (g cap : Nat) (cs : Array Value) (fr : Nat × Nat), v = .slice (some ⟨g, 0, none⟩) l.length cap ∧ base ≤ g ∧ V.heap[g]? = some (.cells cs 5 fr) ∧ (∀ j, j < cap → ¬ (fr.1 ≤ j ∧ j < fr.2)) ∧ cs.size = cap ∧ l.length ≤ cap ∧ cap ≤ maxLen ∧ cs.toList.take l.length = U8 l
theorem OwnB.cell {base : Nat} {V : World} {v : Value} {l : List Nat} (h : OwnB base V v l) : ∃ g cap, v = .slice (some ⟨g, 0, none⟩) l.length cap ∧ base ≤ g ∧ g < V.heap.size ∧ V.rangeAt g 0 (U8 l) ∧ l.length ≤ cap ∧ cap ≤ maxLen := by
  obtain ⟨g, cap, cs, fr, rfl, hb, hg, hf, hs, hl, hm, ht⟩ := h
  refine ⟨g, cap, rfl, hb, (Array.getElem?_eq_some_iff.1 hg).1, fun j u hu => ?_, hl, hm⟩
  rw [Nat.zero_add, cell_of_row V g j cs 5 fr hg]
  rw [← ht, List.getElem?_take] at hu
  split at hu
  · simpa using hu
  · cases hu
theorem OwnB.kept {base : Nat} {V V' : World} {v : Value} {l : List Nat} (h : OwnB base V v l) (k : Below V.heap.size V V') : OwnB base V' v l := by
  obtain ⟨g, cap, cs, fr, rfl, hb, hg, r⟩ := h
  exact ⟨g, cap, cs, fr, rfl, hb, (k.block g (Array.getElem?_eq_some_iff.1 hg).1).trans hg, r⟩
end Go.Proofs.YtooeahpkhocaeaaDoor
/- The walk of TreeTwo, and Few. Conditions: the table of constants lies as it was laid. -/
namespace Go.Proofs.YtooeahpkhocaeaaDoor
open Go.RowKit
set_option maxRecDepth 100000

end Go.Proofs.YtooeahpkhocaeaaDoor
/- A region that draws its order, each of its operations looked at ONCE: what a slot holds is a relation that is kept by what only adds to memory. Conditions: every operation has a slot of its own, and waits for earlier ones alone. -/
namespace Go.Proofs.YtooeahpkhocaeaaDoor
open Go.RowKit


section
variable {P : Program} {md : Region.Mode} {ops : Array Oper} {Q : Exit → Act → World → Prop} {S : World → Prop}
/-- The operation leaves a value of which R is true, and adds to memory alone. -/
def Makes (P : Program) (ops : Array Oper) (Q : Exit → Act → World → Prop) (o : Oper) (d : Tmp) (R : Value → World → Prop) (b : Act) (w : World) : Prop :=
  Region.wanted o (yielded ops b.tmps) = true ∧ ∀ K : Act → World → Prop, (∀ v w', Below w.heap.size w w' → R v w' → K (b.put (some d) v) w') → o.wp P b w K Q
theorem Makes.wpOp {i : Nat} {o : Oper} {d : Tmp} {R : Value → World → Prop} {b : Act} {w : World} (h : Makes P ops Q o d R b w) (hi : ops[i]? = some o) {K : Act → World → Prop}
    (hK : ∀ v w', Below w.heap.size w w' → R v w' → K (b.put (some d) v) w') : wpOp P ops Q i K b w := by
  unfold Go.wpOp
  simp only [hi, h.1, if_true]
  exact .inl (h.2 K hK)
end
theorem countP_lt {p q : Nat → Bool} : ∀ (l : List Nat) (x : Nat), x ∈ l → (∀ y, q y = true → p y = true) → p x = true → q x = false → l.countP q < l.countP p
  | [], _, h, _, _, _ => by cases h
  | y :: l, x, h, hi, hp, hq => by
    have hle : l.countP q ≤ l.countP p := List.countP_mono_left fun y _ => hi y
    rw [List.countP_cons, List.countP_cons]
    rcases List.mem_cons.1 h with rfl | h
    · rw [hp, hq]; simp; omega
    · have ih := countP_lt l x h hi hp hq
      cases hqy : q y with
      | false => simp; omega
      | true => rw [hi y hqy]; simp; omega
section
variable {P : Program} {md : Region.Mode} {ops : Array Oper} {Q : Exit → Act → World → Prop} {S : World → Prop}
/-- What holds when 'listed' have come up. -/
structure So (S : World → Prop) (R : Nat → Value → World → Prop) (D : Nat → Tmp) (n : Nat) (a0 : Act) (listed : Array Bool) (a : Act) (w : World) : Prop where
  size : listed.size = n
  S : S w
  tmps : a.tmps.size = a0.tmps.size
  defers : a.defers = a0.defers
  has : ∀ i, i < n → listed.getD i true = true → R i (a.tmps.getD (D i) undef) w
  old : ∀ d, (∀ i, i < n → listed.getD i true = true → D i ≠ d) → a.tmps.getD d undef = a0.tmps.getD d undef
theorem ready_nil (hord : ∀ (i : Nat) (o : Oper), ops[i]? = some o → o.after.all (fun e => decide (e.on < i)) = true) {listed : Array Bool} (hs : listed.size = ops.size) (h : Region.ready md ops listed = []) : ∀ i, i < ops.size → listed.getD i true = true := by
  intro i
  induction i using Nat.strongRecOn with
  | _ i ih =>
    intro hi
    by_cases hl : listed.getD i true = true
    · exact hl
    · exfalso
      have hm : i ∈ Region.ready md ops listed := by
        rw [mem_ready]
        refine ⟨by simpa using hl, ops[i], Array.getElem?_eq_getElem hi, fun e he _ => ?_⟩
        have hlt : e.on < i := by
          have := hord i _ (Array.getElem?_eq_getElem hi)
          rw [Array.all_eq_true_iff_forall_mem] at this
          simpa using this e he
        have := ih e.on hlt (by omega)
        have hb : e.on < listed.size := by omega
        simpa [hb] using this
      rw [h] at hm
      cases hm
theorem held_all (R : Nat → Value → World → Prop) (D : Nat → Tmp) (a0 : Act) (hinj : ∀ i j, i < ops.size → j < ops.size → D i = D j → i = j) (hlt : ∀ i, i < ops.size → D i < a0.tmps.size)
    (hord : ∀ (i : Nat) (o : Oper), ops[i]? = some o → o.after.all (fun e => decide (e.on < i)) = true)
    (mono : ∀ i v w w', R i v w → Below w.heap.size w w' → R i v w') (kS : ∀ w w', S w → Below w.heap.size w w' → S w')
    (step : ∀ (listed : Array Bool) (a : Act) (w : World) (i : Nat) (o : Oper), So S R D ops.size a0 listed a w → ops[i]? = some o → (∀ e ∈ o.after, Region.binds md e = true → listed.getD e.on false = true) → Makes P ops Q o (D i) (R i) a w)
    (fin : ∀ (listed : Array Bool) (a : Act) (w : World), So S R D ops.size a0 listed a w → (∀ i, i < ops.size → listed.getD i true = true) → Q .normal a w) :
    ∀ (fuel : Nat) (listed : Array Bool) (a : Act) (w : World), So S R D ops.size a0 listed a w → (List.range ops.size).countP (fun i => !listed.getD i true) ≤ fuel → wpAnyH P md ops Q S fuel listed a w := by
  intro fuel
  induction fuel with
  | zero =>
    intro listed a w hs hc
    have hall : ∀ i, i < ops.size → listed.getD i true = true := fun i hi => by
      have := List.countP_eq_zero.1 (Nat.le_zero.1 hc) i (List.mem_range.2 hi)
      simpa using this
    refine ⟨?_, fin listed a w hs hall⟩
    apply List.eq_nil_iff_forall_not_mem.2
    intro j hj
    obtain ⟨h0, o, ho, _⟩ := mem_ready.1 hj
    have hjs : j < ops.size := (Array.getElem?_eq_some_iff.1 ho).1
    rw [hall j hjs] at h0
    cases h0
  | succ fuel ih =>
    intro listed a w hs hc
    refine ⟨fun h => fin listed a w hs (ready_nil hord hs.size h), fun i hi => ?_⟩
    obtain ⟨h0, o, ho, hdeps⟩ := mem_ready.1 hi
    have his : i < ops.size := (Array.getElem?_eq_some_iff.1 ho).1
    refine (step listed a w i o hs ho hdeps).wpOp ho (fun v w' hb hR => ⟨kS w w' hs.S hb, ?_⟩)
    have hget : ∀ j, (listed.setIfInBounds i true).getD j true = if i = j then true else listed.getD j true := fun j => by
      by_cases hij : i = j
      · subst hij
        rw [if_pos rfl]
        simp [hs.size, his]
      · rw [if_neg hij, getD_set_ne true hij]
    apply ih
    · refine ⟨by simp [hs.size], kS w w' hs.S hb, by simp [Act.put, hs.tmps], hs.defers, fun j hj hl => ?_, fun d hd => ?_⟩
      · rw [hget] at hl
        by_cases hij : i = j
        · subst hij
          have : D i < a.tmps.size := by rw [hs.tmps]; exact hlt i his
          simpa [Act.put, this] using hR
        · rw [if_neg hij] at hl
          have hne : D i ≠ D j := fun e => hij (hinj i j his hj e)
          have := mono _ _ _ _ (hs.has j hj hl) hb
          simpa [Act.put, Array.getElem?_setIfInBounds_ne hne] using this
      · have hdi : D i ≠ d := hd i his (by rw [hget, if_pos rfl])
        have := hs.old d (fun j hj hl => hd j hj (by rw [hget]; split; rfl; exact hl))
        simpa [Act.put, Array.getElem?_setIfInBounds_ne hdi] using this
    · have := countP_lt (p := fun j => !listed.getD j true) (q := fun j => !(listed.setIfInBounds i true).getD j true) (List.range ops.size) i (List.mem_range.2 his) (fun y hy => by
          simp only [hget] at hy
          split at hy
          · simp at hy
          · exact hy) (by simp only [h0]; rfl) (by simp only [hget, if_true]; rfl)
      omega
theorem held_all0 (R : Nat → Value → World → Prop) (D : Nat → Tmp) {a0 : Act} {w : World} (hinj : ∀ i j, i < ops.size → j < ops.size → D i = D j → i = j) (hlt : ∀ i, i < ops.size → D i < a0.tmps.size)
    (hord : ∀ (i : Nat) (o : Oper), ops[i]? = some o → o.after.all (fun e => decide (e.on < i)) = true)
    (mono : ∀ i v w w', R i v w → Below w.heap.size w w' → R i v w') (kS : ∀ w w', S w → Below w.heap.size w w' → S w') (hS : S w)
    (step : ∀ (listed : Array Bool) (a : Act) (w : World) (i : Nat) (o : Oper), So S R D ops.size a0 listed a w → ops[i]? = some o → (∀ e ∈ o.after, Region.binds md e = true → listed.getD e.on false = true) → Makes P ops Q o (D i) (R i) a w)
    (fin : ∀ (listed : Array Bool) (a : Act) (w : World), So S R D ops.size a0 listed a w → (∀ i, i < ops.size → listed.getD i true = true) → Q .normal a w) :
    wpAnyH P md ops Q S ops.size (Array.replicate ops.size false) a0 w :=
  held_all R D a0 hinj hlt hord mono kS step fin _ _ _ _ ⟨by simp, hS, rfl, rfl, fun i hi h => by simp [hi] at h, fun _ _ => rfl⟩ (by have := List.countP_le_length (p := fun i => !(Array.replicate ops.size false).getD i true) (l := List.range ops.size); simpa using this)
end
end Go.Proofs.YtooeahpkhocaeaaDoor
