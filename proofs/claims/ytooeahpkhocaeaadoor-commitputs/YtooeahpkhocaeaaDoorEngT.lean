/- A region that draws, with a store to what it loads, where others do not wait for the store: a state that turns once. Conditions: one check on the region's shape. -/
import Derived.Test.YtooeahpkhocaeaaDoorEngK
namespace Go.Proofs.YtooeahpkhocaeaaDoor
open Go.RowKit
set_option maxRecDepth 100000
structure PoT (K : World → World → Prop) (ops : Array Oper) (prs : List Say) (m : Nat) (a0 : Act) (l0 : Array Bool) (listed : Array Bool) (a : Act) (w : World) : Prop where
  size : listed.size = ops.size
  tmps : a.tmps.size = a0.tmps.size
  defers : a.defers = a0.defers
  has : ∀ i, i < m → l0.getD i true = false → listed.getD i true = true → ∃ s, prs[i]? = some s ∧ s.kstable K ∧ s.holds (a.tmps.getD (dstOf ops i) undef) w
  old : ∀ d, (∀ i, i < m → l0.getD i true = false → listed.getD i true = true → dstOf ops i ≠ d) → a.tmps.getD d undef = a0.tmps.getD d undef
  tail : ∀ i, m ≤ i → i < ops.size → listed.getD i true = false
  closed : Closed .any ops (fun i => listed.getD i false)
def chkTurn (ops : Array Oper) (n m t : Nat) (l0 : Array Bool) : Bool :=
  decide (m ≤ ops.size) && decide (t < m) &&
  (List.range ops.size).all (fun i => match ops[i]? with | some o => o.after.all (fun e => !Region.binds .any e || decide (e.on < i)) | none => true) &&
  (List.range m).all (fun i => match ops[i]? with
    | some o => (match o.guard with | none => true | some (j, _) => decide (j < m) && !l0.getD j true && depOn o j && !Nat.beq i t) && (match o.dst with | some d => decide (d < n) && !l0.getD i true | none => Nat.beq i t && l0.getD i true) &&
        o.op.operands.all (fun X => match X with | .tmp k => (List.range m).all (fun j => l0.getD j true || !(Nat.beq (dstOf ops j) k) || o.after.any (fun e => Region.binds .any e && Nat.beq e.on j) || (match ops[j]? with | some oj => oj.after.any (fun e => Region.binds .any e && Nat.beq e.on i) | none => false)) | _ => true)
    | none => false) &&
  (List.range m).all (fun i => (List.range m).all (fun j => l0.getD i true || l0.getD j true || Nat.beq i j || !(Nat.beq (dstOf ops i) (dstOf ops j)))) &&
  (List.range m).all (fun i => Nat.beq m ops.size || marks .any ops (m + 1) (fun j => Nat.beq j m) i) &&
  (List.range ops.size).all (fun j => decide (j < m) || (Nat.beq j m || match ops[j]? with | some o => o.after.any (fun e => Region.binds .any e && decide (m ≤ e.on)) | none => true)) &&
  (List.range m).all (fun i => !l0.getD i true || Nat.beq i t)
/-- What is ahead of the operation t. -/
def ahead (ops : Array Oper) (m t i : Nat) : Bool := marks .any ops (m + 1) (fun j => Nat.beq j t) i
/-- What is behind the operation t. -/
def behind_ (ops : Array Oper) (m t i : Nat) : Bool := marks .any ops (m + 1) (fun j => Nat.beq j i) t
def KStore (P : Program) (K : World → World → Prop) (C : Bool → World → Prop) (o : Oper) (L : List (Nat × Value)) (ps : List (Nat × (World → Prop))) : Prop :=
  ∀ w, C false w → (∀ q ∈ ps, depOn o q.1 = true → q.2 w) → Runs P o.op o.type L w (fun _ w' => C true w' ∧ (w' = w ∨ K w w'))
def KTurn (P : Program) (K : World → World → Prop) (C : Bool → World → Prop) (o : Oper) (s : Say) (L : List (Nat × Value)) (ps : List (Nat × (World → Prop))) : Prop :=
  s.kstable K ∧ ∀ w, C false w → (∀ q ∈ ps, depOn o q.1 = true → q.2 w) → Runs P o.op o.type L w (fun v w' => s.holds v w' ∧ C true w' ∧ (w' = w ∨ K w w'))
def KEach (P : Program) (K : World → World → Prop) (C : Bool → World → Prop) (D : Nat → Nat) (l0 : Array Bool) (t : Nat) (T A : Nat → Bool) (i : Nat) (o : Oper) (s : Say) (L : List (Nat × Value)) (ps : List (Nat × (World → Prop))) : Prop :=
  (l0.getD i true = true → KStore P K C o L ps) ∧ (l0.getD i true = false → i = t → KTurn P K C o s L ps) ∧ (¬ i = t → ∀ b, (T i = true → b = false) → (A i = true → b = true) → KWant P K (C b) D o s L ps)
def KSeqT (P : Program) (K : World → World → Prop) (C : Bool → World → Prop) (D : Nat → Nat) (l0 : Array Bool) (t : Nat) (T A : Nat → Bool) (F : List (Nat × Value) → List (Nat × (World → Prop)) → Prop) : List Oper → List Say → Nat → List (Nat × Value) → List (Nat × (World → Prop)) → Prop
  | [], _, _, L, ps => F L ps
  | _ :: _, [], _, _, _ => False
  | o :: os, s :: prs, i, L, ps => KEach P K C D l0 t T A i o s L ps ∧ if l0.getD i true = true then KSeqT P K C D l0 t T A F os prs (i + 1) L ps else
      s.next i (fun v ps' => KSeqT P K C D l0 t T A F os prs (i + 1) (((o.dst).getD 0, v) :: L) ps') ps
section
variable {P : Program} {K : World → World → Prop} {C : Bool → World → Prop} {l0 : Array Bool} {t : Nat} {T A : Nat → Bool} {F : List (Nat × Value) → List (Nat × (World → Prop)) → Prop} {os : List Oper} {prs : List Say} {i : Nat} {L : List (Nat × Value)} {ps : List (Nat × (World → Prop))}
variable {D : Nat → Nat} {d : Nat} {op : Op} {ty : TypeId} {pos : String} {aft : Array Edge}
/-- The store: the state turns. -/
theorem ts_store {s : Say} {dd : Option Nat} (hl : l0.getD i true = true) (hi : i = t) (hr : ∀ w, C false w → (∀ q ∈ ps, depOn ⟨dd, op, ty, pos, aft, none⟩ q.1 = true → q.2 w) → Runs P op ty L w (fun _ w' => C true w' ∧ K w w')) (h : KSeqT P K C D l0 t T A F os prs (i + 1) L ps) :
    KSeqT P K C D l0 t T A F (⟨dd, op, ty, pos, aft, none⟩ :: os) (s :: prs) i L ps := by
  rw [KSeqT, if_pos hl]
  exact ⟨⟨fun _ w hC hq => (hr w hC hq).mono fun _ _ h => ⟨h.1, .inr h.2⟩, (fun hf => by rw [hl] at hf; cases hf), fun h => absurd hi h⟩, h⟩
/-- It yields a value, and the state turns. -/
theorem ts_tval {u : Value} (hl : l0.getD i true = false) (hi : i = t) (hr : ∀ w, C false w → (∀ q ∈ ps, depOn ⟨some d, op, ty, pos, aft, none⟩ q.1 = true → q.2 w) → Runs P op ty L w (fun v w' => v = u ∧ C true w' ∧ K w w')) (h : KSeqT P K C D l0 t T A F os prs (i + 1) ((d, u) :: L) ps) :
    KSeqT P K C D l0 t T A F (⟨some d, op, ty, pos, aft, none⟩ :: os) (.inl u :: prs) i L ps := by
  rw [KSeqT, if_neg (by rw [hl]; simp)]
  exact ⟨⟨(fun hf => by rw [hl] at hf; cases hf), fun _ _ => ⟨trivial, fun w hC hq => (hr w hC hq).mono fun _ _ h => ⟨h.1, h.2.1, .inr h.2.2⟩⟩, fun h => absurd hi h⟩, h⟩
/-- Its value is known; it leaves the world; it may come ahead of the turn, or behind it. -/
theorem ts_is {u : Value} (hl : l0.getD i true = false) (hi : (i == t) = false) (hr : ∀ b w, C b w → Runs P op ty L w (Is u w)) (h : KSeqT P K C D l0 t T A F os prs (i + 1) ((d, u) :: L) ps) :
    KSeqT P K C D l0 t T A F (⟨some d, op, ty, pos, aft, none⟩ :: os) (.inl u :: prs) i L ps := by
  rw [KSeqT, if_neg (by rw [hl]; simp)]
  exact ⟨⟨(fun hf => by rw [hl] at hf; cases hf), fun _ e => by simp [e] at hi, fun _ b _ _ => kok_is (hr b)⟩, h⟩
/-- The same, where it comes ahead of the turn (c = false), or behind it (c = true). -/
theorem ts_cis {u : Value} (c : Bool) (hl : l0.getD i true = false) (hi : (i == t) = false) (hT : (if c = true then A i else T i) = true) (hr : ∀ w, C c w → Runs P op ty L w (Is u w)) (h : KSeqT P K C D l0 t T A F os prs (i + 1) ((d, u) :: L) ps) :
    KSeqT P K C D l0 t T A F (⟨some d, op, ty, pos, aft, none⟩ :: os) (.inl u :: prs) i L ps := by
  rw [KSeqT, if_neg (by rw [hl]; simp)]
  refine ⟨⟨(fun hf => by rw [hl] at hf; cases hf), fun _ e => by simp [e] at hi, fun _ b hb1 hb2 => ?_⟩, h⟩
  obtain rfl : b = c := by
    cases c with
    | true => exact hb2 hT
    | false => exact hb1 hT
  exact kok_is hr
theorem ts_cpr {p : Value → World → Prop} (c : Bool) (hl : l0.getD i true = false) (hi : (i == t) = false) (hT : (if c = true then A i else T i) = true) (hst : ∀ v w w', p v w → K w w' → p v w')
    (hr : ∀ w, C c w → (∀ q ∈ ps, depOn ⟨some d, op, ty, pos, aft, none⟩ q.1 = true → q.2 w) → Runs P op ty L w (fun v w' => p v w' ∧ C c w' ∧ K w w')) (h : ∀ v, KSeqT P K C D l0 t T A F os prs (i + 1) ((d, v) :: L) ((i, p v) :: ps)) :
    KSeqT P K C D l0 t T A F (⟨some d, op, ty, pos, aft, none⟩ :: os) (.inr p :: prs) i L ps := by
  rw [KSeqT, if_neg (by rw [hl]; simp)]
  refine ⟨⟨(fun hf => by rw [hl] at hf; cases hf), fun _ e => by simp [e] at hi, fun _ b hb1 hb2 => ?_⟩, h⟩
  obtain rfl : b = c := by
    cases c with
    | true => exact hb2 hT
    | false => exact hb1 hT
  exact ⟨hst, fun w hC hq => (hr w hC hq).mono fun _ _ h => ⟨h.1, h.2.1, .inr h.2.2⟩⟩
end
theorem kseqT_all {P : Program} {K : World → World → Prop} {C : Bool → World → Prop} {l0 : Array Bool} {t : Nat} {T A : Nat → Bool} {F : List (Nat × Value) → List (Nat × (World → Prop)) → Prop} {ops : Array Oper} {L : List (Nat × Value)} {D : Nat → Nat} (prs : List Say) (m : Nat) (hm : m ≤ ops.size) (vs : Nat → Value) (hfit : Fits l0 prs vs) :
    ∀ (r i : Nat), i + r = m → KSeqT P K C D l0 t T A F ((ops.toList.drop i).take r) (prs.drop i) i (envUpto ops l0 vs L i) (psUpto l0 prs vs i) →
      (∀ j o, i ≤ j → j < m → ops[j]? = some o → ∃ s, prs[j]? = some s ∧ KEach P K C D l0 t T A j o s (envUpto ops l0 vs L j) (psUpto l0 prs vs j)) ∧ F (envUpto ops l0 vs L m) (psUpto l0 prs vs m) := by
  intro r
  induction r with
  | zero =>
    intro i hi h
    obtain rfl : i = m := by omega
    rw [List.take_zero] at h
    exact ⟨fun j o h1 h2 => by omega, by cases hp : prs.drop i <;> (rw [hp] at h; exact h)⟩
  | succ r ih =>
    intro i hi h
    have hil : i < ops.toList.length := by rw [Array.length_toList]; omega
    rw [List.drop_eq_getElem_cons hil, List.take_succ_cons] at h
    have hoi : ops[i]? = some ops.toList[i] := by rw [Array.getElem?_eq_getElem (by simpa using hil)]; simp
    by_cases hpl : i < prs.length
    · rw [List.drop_eq_getElem_cons hpl, KSeqT] at h
      have hpi : prs[i]? = some prs[i] := List.getElem?_eq_getElem hpl
      obtain ⟨hwt, h⟩ := h
      by_cases hl : l0.getD i true = true
      · rw [if_pos hl] at h
        have he : envUpto ops l0 vs L (i + 1) = envUpto ops l0 vs L i := by rw [envUpto, if_pos hl]
        have hq : psUpto l0 prs vs (i + 1) = psUpto l0 prs vs i := by rw [psUpto, if_pos hl]
        rw [← he, ← hq] at h
        obtain ⟨h2, h3⟩ := ih (i + 1) (by omega) h
        refine ⟨fun j o hj hjm ho => ?_, h3⟩
        by_cases e : j = i
        · subst e
          rw [hoi] at ho
          obtain rfl := Option.some.inj ho
          exact ⟨_, hpi, hwt⟩
        · exact h2 j o (by omega) hjm ho
      · rw [if_neg hl] at h
        have hlf : l0.getD i true = false := by simpa using hl
        have hdst : (ops.toList[i].dst).getD 0 = dstOf ops i := by unfold dstOf; rw [hoi]; rfl
        have he : envUpto ops l0 vs L (i + 1) = (dstOf ops i, vs i) :: envUpto ops l0 vs L i := by rw [envUpto, if_neg hl]
        have h' : KSeqT P K C D l0 t T A F ((ops.toList.drop (i + 1)).take r) (prs.drop (i + 1)) (i + 1) (envUpto ops l0 vs L (i + 1)) (psUpto l0 prs vs (i + 1)) := by
          rw [he, psUpto, if_neg hl, hpi]
          cases hs : prs[i] with
          | inl u =>
            rw [hs] at h
            have : vs i = u := hfit i u hlf (by rw [hpi, hs])
            rw [this, ← hdst]
            exact h
          | inr p =>
            rw [hs] at h
            rw [← hdst]
            exact h (vs i)
        obtain ⟨h2, h3⟩ := ih (i + 1) (by omega) h'
        refine ⟨fun j o hj hjm ho => ?_, h3⟩
        by_cases e : j = i
        · subst e
          rw [hoi] at ho
          obtain rfl := Option.some.inj ho
          exact ⟨_, hpi, hwt⟩
        · exact h2 j o (by omega) hjm ho
    · rw [show prs.drop i = [] from List.drop_eq_nil_of_le (by omega), KSeqT] at h
      exact h.elim

section
variable {P : Program} {K : World → World → Prop} {ops : Array Oper} {Q : Exit → Act → World → Prop} {S : World → Prop} {L : List (Nat × Value)} {n : Nat}
theorem draw_t (prs : List Say) (m t : Nat) (C : Bool → World → Prop) (l0 : Array Bool) (F : Nat) {a0 : Act} {w : World} (hchk : chkTurn ops n m t l0 = true) (hS : ∀ b w, C b w → S w) (hC : C false w) (hL : Sees n L a0)
    (h : KSeqT P K C (dstOf ops) l0 t (ahead ops m t) (behind_ ops m t) (fun L' ps => ∀ a w, Sees n L' a → C true w → (∀ q ∈ ps, q.2 w) → wpAnyH P .any ops Q S F (lastOf ops m) a w) (ops.toList.take m) prs 0 L []) :
    wpAnyH P .any ops Q S (m + F) (Array.replicate ops.size false) a0 w := by
  simp only [chkTurn, Bool.and_eq_true, decide_eq_true_eq, List.all_eq_true, List.mem_range] at hchk
  obtain ⟨⟨⟨⟨⟨⟨⟨c1, ctm⟩, c3⟩, c4⟩, c5⟩, c6⟩, c7⟩, c9⟩ := hchk
  have hl0 : ∀ i, i < m → l0.getD i true = true → i = t := fun i hi h => by
    have := c9 i hi
    rw [h] at this
    simp only [Bool.not_true, Bool.false_or] at this
    exact Nat.eq_of_beq_eq_true this
  have hall0 := fun vs hfit => kseqT_all (P := P) (K := K) (C := C) (l0 := l0) (t := t) (T := ahead ops m t) (A := behind_ ops m t) (L := L) prs m c1 vs hfit m 0 (by omega) (by rw [List.drop_zero, List.drop_zero]; exact h)
  -- the values that lie there now, and what is said of the others
  have hvals : ∀ (listed : Array Bool) (a : Act) (w : World), PoT K ops prs m a0 l0 listed a w → ∃ vs : Nat → Value, Fits l0 prs vs ∧ ∀ j, j < m → l0.getD j true = false → listed.getD j true = true → vs j = a.tmps.getD (dstOf ops j) undef := fun listed a w hs => by
    refine ⟨fun j => if listed.getD j true = true ∧ j < m ∧ l0.getD j true = false then a.tmps.getD (dstOf ops j) undef else match prs[j]? with | some (.inl u) => u | _ => undef, fun j u hj hu => ?_, fun j hj hf hl => ?_⟩
    · by_cases hc : listed.getD j true = true ∧ j < m ∧ l0.getD j true = false
      · simp only [if_pos hc]
        obtain ⟨s, hs1, _, hs3⟩ := hs.has j hc.2.1 hj hc.1
        rw [hu] at hs1
        obtain rfl := Option.some.inj hs1
        exact hs3
      · simp only [if_neg hc, hu]
    · simp only [if_pos (show listed.getD j true = true ∧ j < m ∧ l0.getD j true = false from ⟨hl, hj, hf⟩)]
  have hord : ∀ (i : Nat) (o : Oper), ops[i]? = some o → ∀ e ∈ o.after, Region.binds .any e = true → e.on < i := fun i o ho e he hb => by
    have := c3 i (Array.getElem?_eq_some_iff.1 ho).1
    rw [ho] at this
    simp only [Array.all_eq_true_iff_forall_mem] at this
    have := this e he
    rw [hb] at this
    simpa using this
  have hinj : ∀ i j, i < m → j < m → l0.getD i true = false → l0.getD j true = false → dstOf ops i = dstOf ops j → i = j := fun i j hi hj h1 h2 he => by
    have := c5 i hi j hj
    rw [h1, h2, he] at this
    simpa using this
  have key : ∀ (k : Nat) (listed : Array Bool) (a : Act) (w : World), PoT K ops prs m a0 l0 listed a w → C (listed.getD t false) w → (List.range m).countP (fun i => !listed.getD i true) = k → wpAnyH P .any ops Q S (k + F) listed a w := by
    intro k
    induction k with
    | zero =>
      intro listed a w hs hC hc
      have hall : ∀ i, i < m → listed.getD i true = true := fun i hi => by
        have := List.countP_eq_zero.1 hc i (List.mem_range.2 hi)
        simpa using this
      have e1 : listed = lastOf ops m := by
        unfold lastOf
        apply arr_extB
        · rw [hs.size]; simp; omega
        · intro d hd
          rw [hs.size] at hd
          by_cases h : d < m
          · rw [hall d h]
            simp [Array.getElem?_append, h]
          · rw [hs.tail d (by omega) hd]
            simp [Array.getElem?_append, h, show d - m < ops.size - m by omega]
      have hCt : C true w := by
        have hts : t < listed.size := by rw [hs.size]; omega
        have h1 : listed.getD t false = true := by simpa [Array.getD, hts] using hall t ctm
        rw [h1] at hC; exact hC
      rw [e1, Nat.zero_add]
      obtain ⟨vs, hfit, hvs⟩ := hvals listed a w hs
      refine (hall0 vs hfit).2 a w ⟨hs.tmps.trans hL.1, hs.defers.trans hL.2.1, fun k v hk => ?_⟩ hCt (fun q hq => ?_)
      · rcases envUpto_look ops l0 vs L m k v hk with ⟨j, hj, hf, rfl, rfl⟩ | ⟨h1, h2⟩
        · exact (hvs j hj hf (hall j hj)).symm
        · rw [hs.old k (fun j hj hf _ => h2 j hj hf)]; exact hL.2.2 k v h1
      · obtain ⟨h1, h2, p, h3, h4⟩ := psUpto_mem l0 prs vs m q hq
        obtain ⟨s, hs1, _, hs3⟩ := hs.has q.1 h1 h2 (hall q.1 h1)
        rw [h3] at hs1
        obtain rfl := Option.some.inj hs1
        rw [h4, hvs q.1 h1 h2 (hall q.1 h1)]
        exact hs3
    | succ k ih =>
      intro listed a w hs hC hc
      have hsome : ∃ i, i < m ∧ listed.getD i true = false := by
        have hp : 0 < (List.range m).countP (fun i => !listed.getD i true) := by omega
        obtain ⟨i, hi, h⟩ := List.countP_pos_iff.1 hp
        exact ⟨i, List.mem_range.1 hi, by simpa using h⟩
      rw [show k + 1 + F = (k + F) + 1 by omega]
      refine ⟨fun h => ?_, fun i hi => ?_⟩
      · obtain ⟨i, hi, h1⟩ := hsome
        have := ready_nilB hord hs.size h i (by omega)
        rw [this] at h1; cases h1
      · obtain ⟨h0, o, ho, hdeps⟩ := mem_ready.1 hi
        have his : i < ops.size := (Array.getElem?_eq_some_iff.1 ho).1
        have him : i < m := by
          apply Classical.byContradiction
          intro hge
          by_cases him : i = m
          · obtain ⟨j, hj, hjf⟩ := hsome
            have h6 := c6 j hj
            have hms : Nat.beq m ops.size = false := by
              cases hb : Nat.beq m ops.size with
              | false => rfl
              | true => have := Nat.eq_of_beq_eq_true hb; omega
            rw [hms] at h6
            have hcl : Closed .any ops (fun x => listed.getD x false || Nat.beq x m) := fun x ox hox hx e he hb => by
              simp only [Bool.or_eq_true] at hx ⊢
              rcases hx with hx | hx
              · exact .inl (hs.closed x ox hox hx e he hb)
              · obtain rfl := Nat.eq_of_beq_eq_true hx
                subst him
                rw [ho] at hox
                obtain rfl := Option.some.inj hox
                exact .inl (hdeps e he hb)
            have := marks_sub hcl (m + 1) (fun j => Nat.beq j m) (fun x hx => by simp only [Bool.or_eq_true]; exact .inr hx) j (by simpa using h6)
            simp only [Bool.or_eq_true] at this
            rcases this with h | h
            · have h2 := getD_true h; rw [h2] at hjf; cases hjf
            · have := Nat.eq_of_beq_eq_true h; omega
          · have h7 := c7 i his
            rw [ho] at h7
            simp only [Bool.or_eq_true, decide_eq_true_eq, Bool.and_eq_true, Array.any_eq_true] at h7
            rcases h7 with h7 | h7
            · omega
            · rcases h7 with h7 | ⟨x, hx, hb, hon⟩
              · exact him (Nat.eq_of_beq_eq_true h7)
              · have he2 : o.after[x].on < i := hord i o ho _ (Array.getElem_mem hx) hb
                have h1 := hs.tail o.after[x].on hon (by omega)
                have h2 := getD_true (hdeps _ (Array.getElem_mem hx) hb)
                rw [h2] at h1; cases h1
        have h4 := c4 i him
        rw [ho] at h4
        simp only [Bool.and_eq_true] at h4
        obtain ⟨⟨hg, hd⟩, hopd⟩ := h4
        obtain ⟨vs, hfit, hvs⟩ := hvals listed a w hs
        obtain ⟨si, hsi, hW⟩ := (hall0 vs hfit).1 i o (Nat.zero_le _) him ho
        have hget : ∀ (j : Nat) (b : Bool), (listed.setIfInBounds i true).getD j b = if i = j then true else listed.getD j b := fun j b => by
          by_cases hij : i = j
          · subst hij
            rw [if_pos rfl]
            simp [hs.size, his]
          · rw [if_neg hij, getD_set_ne b hij]
        have hcount : (List.range m).countP (fun j => !(listed.setIfInBounds i true).getD j true) = k := by
          have h1 := countP_set m listed i him h0 hget
          omega
        have hsaid : ∀ q ∈ psUpto l0 prs vs i, depOn o q.1 = true → q.2 w := fun q hq hdq => by
          obtain ⟨h1, h2, p, h3, h4⟩ := psUpto_mem l0 prs vs i q hq
          have hlq : listed.getD q.1 true = true := by
            unfold depOn at hdq
            simp only [Array.any_eq_true, Bool.and_eq_true] at hdq
            obtain ⟨x, hx, hb, hon⟩ := hdq
            have := hdeps _ (Array.getElem_mem hx) hb
            rw [Nat.eq_of_beq_eq_true hon] at this
            exact getD_true this
          obtain ⟨s, hs1, _, hs3⟩ := hs.has q.1 (by omega) h2 hlq
          rw [h3] at hs1
          obtain rfl := Option.some.inj hs1
          rw [h4, hvs q.1 (by omega) h2 hlq]
          exact hs3
        have hoper : ∀ Y ∈ o.op.operands, ∀ v, vals (envUpto ops l0 vs L i) Y = some v → a.eval Y = v := fun Y hY v hv => by
          cases Y with
          | tmp t =>
            rcases envUpto_look ops l0 vs L i t v hv with ⟨j, hj, hf, hjt, rfl⟩ | ⟨h1, h2⟩
            · have hoj := hopd
              rw [Array.all_eq_true_iff_forall_mem] at hoj
              have := hoj _ hY
              simp only [List.all_eq_true, List.mem_range] at this
              have := this j (by omega)
              rw [hf, hjt] at this
              simp only [Bool.false_or, Bool.or_eq_true, Bool.not_eq_true', Array.any_eq_true, Bool.and_eq_true] at this
              rcases this with (h | ⟨x, hx, hb, hon⟩) | h
              · simp at h
              · have hon' := Nat.eq_of_beq_eq_true hon
                have hlj := hdeps _ (Array.getElem_mem hx) hb
                rw [hon'] at hlj
                have := hvs j (by omega) hf (getD_true hlj)
                rw [hjt] at this
                exact this.symm
              · exfalso
                split at h
                · rename_i oj hoj'
                  simp only [Array.any_eq_true, Bool.and_eq_true] at h
                  obtain ⟨x, hx, hb, hon⟩ := h
                  have h1 := hord j oj hoj' _ (Array.getElem_mem hx) hb
                  rw [Nat.eq_of_beq_eq_true hon] at h1
                  omega
                · cases h
            · show a.tmps.getD t undef = v
              rw [hs.old t (fun j hj hf hl he => ?_)]
              · exact hL.2.2 t v h1
              · by_cases hji : j < i
                · exact h2 j hji hf he
                · have hoj := hopd
                  rw [Array.all_eq_true_iff_forall_mem] at hoj
                  have := hoj _ hY
                  simp only [List.all_eq_true, List.mem_range] at this
                  have := this j hj
                  rw [hf, he] at this
                  simp only [Bool.false_or, Bool.or_eq_true, Bool.not_eq_true', Array.any_eq_true, Bool.and_eq_true] at this
                  rcases this with (h | ⟨x, hx, hb, hon⟩) | h
                  · simp at h
                  · have hon' := Nat.eq_of_beq_eq_true hon
                    have he2 : o.after[x].on < i := hord i o ho _ (Array.getElem_mem hx) hb
                    omega
                  · split at h
                    · rename_i oj hoj'
                      simp only [Array.any_eq_true, Bool.and_eq_true] at h
                      obtain ⟨x, hx, hb, hon⟩ := h
                      have hjs : j < ops.size := (Array.getElem?_eq_some_iff.1 hoj').1
                      have hlf : listed.getD j false = true := by
                        have hsz : j < listed.size := by rw [hs.size]; exact hjs
                        simpa [Array.getD, hsz] using hl
                      have h3 := hs.closed j oj hoj' hlf _ (Array.getElem_mem hx) hb
                      rw [Nat.eq_of_beq_eq_true hon] at h3
                      have h5 := getD_true h3
                      rw [h0] at h5; cases h5
                    · cases h
          | const c => exact Option.some.inj hv
          | «global» g => exact Option.some.inj hv
          | func f => exact Option.some.inj hv
        have hgo1 : ∀ (v : Value) (w' : World), (l0.getD i true = false → si.kstable K ∧ si.holds v w') → C ((listed.setIfInBounds i true).getD t false) w' → (w' = w ∨ K w w') → S w' ∧ wpAnyH P .any ops Q S (k + F) (listed.setIfInBounds i true) (a.put o.dst v) w' := fun v w' hsay hC' hgrow => by
          refine ⟨hS _ w' hC', ih _ _ w' ?_ hC' hcount⟩
          refine ⟨by simp [hs.size], ?_, ?_, fun j hj h1 h2 => ?_, fun d hd2 => ?_, fun j hj1 hj2 => ?_, fun j oj hoj hj e he hb => ?_⟩
          · cases hdo : o.dst with
            | none => exact hs.tmps
            | some dd => simp [Act.put, hs.tmps]
          · cases hdo : o.dst with
            | none => exact hs.defers
            | some dd => exact hs.defers
          · rw [hget] at h2
            by_cases hij : i = j
            · subst hij
              cases hdo : o.dst with
              | none => rw [hdo] at hd; simp only [Bool.and_eq_true] at hd; rw [hd.2] at h1; cases h1
              | some dd =>
                rw [hdo] at hd
                simp only [Bool.and_eq_true, decide_eq_true_eq] at hd
                have : dd < a.tmps.size := by rw [hs.tmps, hL.1]; exact hd.1
                have hDi : dstOf ops i = dd := by unfold dstOf; rw [ho]; simp [hdo]
                rw [hDi]
                exact ⟨si, hsi, (hsay h1).1, by simpa [Act.put, this] using (hsay h1).2⟩
            · rw [if_neg hij] at h2
              obtain ⟨s, hs1, hs2, hs3⟩ := hs.has j hj h1 h2
              refine ⟨s, hs1, hs2, ?_⟩
              cases hdo : o.dst with
              | none => exact Say.kgrow hs2 hs3 hgrow
              | some dd =>
                rw [hdo] at hd
                simp only [Bool.and_eq_true, decide_eq_true_eq, Bool.not_eq_true'] at hd
                have hDi : dstOf ops i = dd := by unfold dstOf; rw [ho]; simp [hdo]
                have hne : dd ≠ dstOf ops j := fun e => hij (hinj i j him hj hd.2 h1 (by rw [hDi, e]))
                simpa [Act.put, Array.getElem?_setIfInBounds_ne hne] using Say.kgrow hs2 hs3 hgrow
          · have hold := hs.old d (fun j hj hf hl => hd2 j hj hf (by rw [hget]; split; rfl; exact hl))
            cases hdo : o.dst with
            | none => exact hold
            | some dd =>
              rw [hdo] at hd
              simp only [Bool.and_eq_true, decide_eq_true_eq, Bool.not_eq_true'] at hd
              have hDi : dstOf ops i = dd := by unfold dstOf; rw [ho]; simp [hdo]
              have hdi : dd ≠ d := by rw [← hDi]; exact hd2 i him hd.2 (by rw [hget, if_pos rfl])
              simpa [Act.put, Array.getElem?_setIfInBounds_ne hdi] using hold
          · rw [hget, if_neg (by omega)]; exact hs.tail j hj1 hj2
          · simp only [hget] at hj ⊢
            by_cases hij : i = j
            · subst hij
              obtain rfl : o = oj := by rw [ho] at hoj; exact Option.some.inj hoj
              split
              · rfl
              · exact hdeps e he hb
            · rw [if_neg hij] at hj
              split
              · rfl
              · exact hs.closed j oj hoj hj e he hb
        by_cases hit : i = t
        · -- the turn
          have hgn : o.guard = none := by
            cases hgd : o.guard with
            | none => rfl
            | some jb =>
              obtain ⟨j, b⟩ := jb
              rw [hgd] at hg
              simp only [Bool.and_eq_true, Bool.not_eq_true'] at hg
              rw [hit, Nat.beq_refl] at hg; cases hg.2
          have hb : listed.getD t false = false := by
            cases h : listed.getD t false with
            | false => rfl
            | true => rw [← hit] at h; rw [getD_true h] at h0; cases h0
          rw [hb] at hC
          have hrun : Runs P o.op o.type (envUpto ops l0 vs L i) w (fun v w' => (l0.getD i true = false → si.kstable K ∧ si.holds v w') ∧ C true w' ∧ (w' = w ∨ K w w')) := by
            cases hl : l0.getD i true with
            | true => exact (hW.1 hl w hC hsaid).mono fun _ _ h => ⟨(fun hf => by cases hf), h.1, h.2⟩
            | false => exact ((hW.2.1 hl hit).2 w hC hsaid).mono fun _ _ h => ⟨fun _ => ⟨(hW.2.1 hl hit).1, h.1⟩, h.2.1, h.2.2⟩
          have hwp := hrun o a (fun a' w' => S w' ∧ wpAnyH P .any ops Q S (k + F) (listed.setIfInBounds i true) a' w') Q rfl rfl hoper (fun v w' hp => hgo1 v w' hp.1 (by rw [hget, if_pos hit]; exact hp.2.1) hp.2.2)
          have hwant : Region.wanted o (yielded ops a.tmps) = true := by unfold Region.wanted; rw [hgn]
          unfold Go.wpOp
          simp only [ho, hwant, if_true]
          exact .inl hwp
        have hpre : l0.getD i true = false := by
          cases h : l0.getD i true with
          | false => rfl
          | true => exact absurd (hl0 i him h) hit
        replace hW := hW.2.2 hit (listed.getD t false) (fun hT => by
          cases hb : listed.getD t false with
          | false => rfl
          | true =>
            have hcl : Closed .any ops (fun x => listed.getD x false) := hs.closed
            have h1 := marks_sub hcl (m + 1) (fun j => Nat.beq j t) (fun x hx => by obtain rfl := Nat.eq_of_beq_eq_true hx; exact hb) i hT
            have h2 := getD_true h1
            rw [h0] at h2; cases h2) (fun hA => by
          have hcl : Closed .any ops (fun x => listed.getD x false || Nat.beq x i) := fun x ox hox hx e he hb => by
            simp only [Bool.or_eq_true] at hx ⊢
            rcases hx with hx | hx
            · exact .inl (hs.closed x ox hox hx e he hb)
            · obtain rfl := Nat.eq_of_beq_eq_true hx
              rw [ho] at hox
              obtain rfl := Option.some.inj hox
              exact .inl (hdeps e he hb)
          have := marks_sub hcl (m + 1) (fun j => Nat.beq j i) (fun x hx => by simp only [Bool.or_eq_true]; exact .inr hx) t hA
          simp only [Bool.or_eq_true] at this
          rcases this with h | h
          · exact h
          · exact absurd (Nat.eq_of_beq_eq_true h).symm hit)
        obtain ⟨dd, hdd⟩ : ∃ d, o.dst = some d := by
          cases h : o.dst with
          | none => rw [h] at hd; simp only [Bool.and_eq_true] at hd; exact absurd (Nat.eq_of_beq_eq_true hd.1) hit
          | some d => exact ⟨d, rfl⟩
        have hdl : dd < n := by rw [hdd] at hd; simp only [Bool.and_eq_true, decide_eq_true_eq] at hd; exact hd.1
        have hDi : dstOf ops i = dd := by unfold dstOf; rw [ho]; simp [hdd]
        have hgo : ∀ (v : Value) (w' : World), si.kstable K → si.holds v w' → C (listed.getD t false) w' → (w' = w ∨ K w w') → S w' ∧ wpAnyH P .any ops Q S (k + F) (listed.setIfInBounds i true) (a.put o.dst v) w' := fun v w' hsst hph hC' hgrow => hgo1 v w' (fun _ => ⟨hsst, hph⟩) (by rw [hget, if_neg hit]; exact hC') hgrow
        have hok : KOk P K (C (listed.getD t false)) o si (envUpto ops l0 vs L i) (psUpto l0 prs vs i) → Region.wanted o (yielded ops a.tmps) = true → wpOp P ops Q i (fun a' w' => S w' ∧ wpAnyH P .any ops Q S (k + F) (listed.setIfInBounds i true) a' w') a w := fun ⟨hsst, hrun⟩ hwant => by
          have hwp := hrun w hC hsaid o a (fun a' w' => S w' ∧ wpAnyH P .any ops Q S (k + F) (listed.setIfInBounds i true) a' w') Q rfl rfl hoper (fun v w' hp => hgo v w' hsst hp.1 hp.2.1 hp.2.2)
          unfold Go.wpOp
          simp only [ho, hwant, if_true]
          exact .inl hwp
        unfold KWant at hW
        cases hgd : o.guard with
        | none =>
          rw [hgd] at hW
          exact hok hW (by unfold Region.wanted; rw [hgd])
        | some jb =>
          obtain ⟨j, b⟩ := jb
          rw [hgd] at hW hg
          simp only [Bool.and_eq_true, decide_eq_true_eq, Bool.not_eq_true'] at hg
          obtain ⟨⟨⟨hjm, hjp⟩, hjd⟩, _⟩ := hg
          obtain ⟨c, hlk, hyes, hno⟩ := hW
          unfold depOn at hjd
          simp only [Array.any_eq_true, Bool.and_eq_true] at hjd
          obtain ⟨x, hx, hb, hon⟩ := hjd
          have hji : j < i := by have := hord i o ho _ (Array.getElem_mem hx) hb; rw [Nat.eq_of_beq_eq_true hon] at this; exact this
          have hjl : listed.getD j true = true := by
            have := hdeps _ (Array.getElem_mem hx) hb
            rw [Nat.eq_of_beq_eq_true hon] at this
            exact getD_true this
          have hvj : vs j = .bool c := by
            rcases envUpto_look ops l0 vs L i _ _ hlk with ⟨j', hj', hf', hd', he'⟩ | ⟨_, h2⟩
            · rw [← hinj j' j (by omega) hjm hf' hjp hd']; exact he'.symm
            · exact absurd rfl (h2 j hji hjp)
          have hoj : ∃ oj, ops[j]? = some oj := ⟨_, Array.getElem?_eq_getElem (by omega)⟩
          obtain ⟨oj, hoj⟩ := hoj
          have h4j := c4 j hjm
          rw [hoj] at h4j
          simp only [Bool.and_eq_true] at h4j
          obtain ⟨dj, hdj⟩ : ∃ d, oj.dst = some d := by
            cases h : oj.dst with
            | none => rw [h] at h4j; simp only [Bool.and_eq_true] at h4j; rw [hjp] at h4j; cases h4j.1.2.2
            | some d => exact ⟨d, rfl⟩
          have hdjn : dj < n := by have := h4j.1.2; rw [hdj] at this; simp only [Bool.and_eq_true, decide_eq_true_eq] at this; exact this.1
          have hDj : dstOf ops j = dj := by unfold dstOf; rw [hoj]; simp [hdj]
          have hval := hvs j hjm hjp hjl
          rw [hvj, hDj] at hval
          have hds : dj < a.tmps.size := by rw [hs.tmps, hL.1]; exact hdjn
          have hy : yielded ops a.tmps j = some c := by
            have h2 : a.tmps[dj]? = some (.bool c) := by
              rw [Array.getElem?_eq_getElem hds]
              have : a.tmps[dj] = .bool c := by simpa [hds] using hval.symm
              rw [this]
            simp [yielded, hoj, hdj, h2]
          by_cases hcb : c = b
          · exact hok (hyes hcb) (by unfold Region.wanted; rw [hgd]; simp [hy, hcb])
          · have hsi2 := hno hcb
            subst hsi2
            have hnw : Region.wanted o (yielded ops a.tmps) = false := by unfold Region.wanted; rw [hgd]; simp [hy, hcb]
            unfold Go.wpOp
            simp only [ho, hnw, Bool.false_eq_true, if_false]
            exact hgo undef w trivial rfl hC (.inl rfl)
  have hall : (List.range m).countP (fun i => !(Array.replicate ops.size false).getD i true) = m := by
    rw [List.countP_eq_length.2 (fun i hi => by have := List.mem_range.1 hi; simp [show i < ops.size by omega]), List.length_range]
  refine key m _ a0 w ⟨by simp, rfl, rfl, fun i hi h1 h2 => ?_, fun _ _ => rfl, fun i hi hn => ?_, fun i o ho hl e he hb => ?_⟩ ?_ hall
  · simp [show i < ops.size by omega] at h2
  · simp [hn]
  · have : (Array.replicate ops.size false).getD i false = true := hl
    simp [Array.getD] at this
  · have : (Array.replicate ops.size false).getD t false = false := by simp [Array.getD]
    rw [this]; exact hC
/-- A region that draws and adds to memory, then a tail. -/
theorem reg_t (K : World → World → Prop) {N R : Act → World → Prop} {X : Nat → Act → World → Prop} {a : Act} {w : World} {id : Nat} (C : Bool → World → Prop) (prs : List Say) (l0 : Array Bool) (m F t : Nat) (hm : P.follows .mixedOrders = true) (hmF : m + F = ops.size) (hchk : chkTurn ops n m t l0 = true) (hL : Sees n L a) (hC : C false w) (hCd : C false w → C false w.drew)
    (h : KSeqT P K C (dstOf ops) l0 t (ahead ops m t) (behind_ ops m t) (fun L' ps => ∀ a' w', Sees n L' a' → C true w' → (∀ q ∈ ps, q.2 w') → wpAnyH P .any ops (Qx N X R) (fun _ => True) F (lastOf ops m) a' w') (ops.toList.take m) prs 0 L []) : (Code.region id ops true).wp P (Qx N X R) a w := by
  refine wp_region_held (S := fun _ => True) hm ?_
  have := draw_t (K := K) (Q := Qx N X R) (S := fun _ => True) prs m t C _ F (w := w.drew) hchk (fun _ _ _ => trivial) (hCd hC) hL (P := P) h
  rw [hmF] at this
  exact this
end
end Go.Proofs.YtooeahpkhocaeaaDoor
