/- A region that draws its order: all operations but the tail only read (or call what only reads). Each is looked at ONCE; behind them the tail alone is left, the slots written out. Conditions: every such operation has a slot of its own and waits for earlier ones alone; the tail waits for the last of them. -/
import Derived.Test.YtcinhbhagiffgaaDoorAllOf
namespace Go.Proofs.YtcinhbhagiffgaaDoor
open Go.RowKit

section
variable {P : Program} {md : Region.Mode} {ops : Array Oper} {Q : Exit → Act → World → Prop} {S : World → Prop}
/-- All that i waits for, and what that waits for, is marked. -/
def marks (md : Region.Mode) (ops : Array Oper) : Nat → (Nat → Bool) → (Nat → Bool)
  | 0, L => L
  | i + 1, L => marks md ops i (if L i then fun j => L j || (match ops[i]? with | some o => o.after.any (fun e => Region.binds md e && e.on == j) | none => false) else L)
/-- What is listed is listed with all that it waits for. -/
def Closed (md : Region.Mode) (ops : Array Oper) (L : Nat → Bool) : Prop := ∀ i o, ops[i]? = some o → L i = true → ∀ e ∈ o.after, Region.binds md e = true → L e.on = true
theorem marks_sub {L : Nat → Bool} (hL : Closed md ops L) : ∀ (n : Nat) (M : Nat → Bool), (∀ j, M j = true → L j = true) → ∀ j, marks md ops n M j = true → L j = true
  | 0, M, h, j, hj => h j hj
  | n + 1, M, h, j, hj => by
    refine marks_sub hL n _ (fun k hk => ?_) j hj
    by_cases hM : M n = true
    · rw [if_pos hM] at hk
      simp only [Bool.or_eq_true] at hk
      rcases hk with hk | hk
      · exact h k hk
      · cases ho : ops[n]? with
        | none => rw [ho] at hk; simp at hk
        | some o =>
          rw [ho] at hk
          simp only [Array.any_eq_true] at hk
          obtain ⟨i, hi, he⟩ := hk
          simp only [Bool.and_eq_true, beq_iff_eq] at he
          have := hL n o ho (h n hM) o.after[i] (Array.getElem_mem hi) he.1
          rwa [he.2] at this
    · rw [if_neg hM] at hk
      exact h k hk
theorem getD_true {l : Array Bool} {j : Nat} (h : l.getD j false = true) : l.getD j true = true := by
  by_cases hj : j < l.size
  · simpa [hj] using h
  · simp [hj] at h
theorem countP_one (p q : Nat → Bool) (i : Nat) (hp : p i = true) (hq : q i = false) (hne : ∀ j, i ≠ j → q j = p j) : ∀ n, (List.range n).countP q + (if i < n then 1 else 0) = (List.range n).countP p
  | 0 => by simp
  | n + 1 => by
    have ih := countP_one p q i hp hq hne n
    rw [List.range_succ, List.countP_append, List.countP_append, List.countP_singleton, List.countP_singleton]
    by_cases hin : i = n
    · subst hin
      rw [if_neg (by omega)] at ih
      simp only [hp, hq, show i < i + 1 by omega, if_true]
      simp
      simpa using ih
    · rw [hne n hin]
      by_cases hl : i < n
      · rw [if_pos hl] at ih
        rw [if_pos (show i < n + 1 by omega)]
        omega
      · rw [if_neg hl] at ih
        rw [if_neg (show ¬ i < n + 1 by omega)]
        omega
theorem countP_set (m : Nat) (listed : Array Bool) (i : Nat) (hi : i < m) (h0 : listed.getD i true = false) (hget : ∀ (j : Nat) (b : Bool), (listed.setIfInBounds i true).getD j b = if i = j then true else listed.getD j b) :
    (List.range m).countP (fun j => !(listed.setIfInBounds i true).getD j true) + 1 = (List.range m).countP (fun j => !listed.getD j true) := by
  have := countP_one (fun j => !listed.getD j true) (fun j => !(listed.setIfInBounds i true).getD j true) i (by simp only [h0]; rfl) (by simp only [hget, if_true]; rfl) (fun j hj => by simp only [hget, if_neg hj]) m
  rwa [if_pos hi] at this
/-- The slots behind all of them. -/
def laidAll (l0 : Array Bool) (R : Nat → Value) (D : Nat → Tmp) (t : Array Value) : Nat → Array Value
  | 0 => t
  | i + 1 => if l0.getD i true then laidAll l0 R D t i else (laidAll l0 R D t i).setIfInBounds (D i) (R i)
structure Po (md : Region.Mode) (ops : Array Oper) (R : Nat → Value) (D : Nat → Tmp) (m : Nat) (a0 : Act) (l0 : Array Bool) (listed : Array Bool) (a : Act) : Prop where
  size : listed.size = ops.size
  tmps : a.tmps.size = a0.tmps.size
  defers : a.defers = a0.defers
  pre : ∀ i, l0.getD i true = true → listed.getD i true = true
  has : ∀ i, i < m → l0.getD i true = false → listed.getD i true = true → a.tmps.getD (D i) undef = R i
  old : ∀ d, (∀ i, i < m → l0.getD i true = false → listed.getD i true = true → D i ≠ d) → a.tmps.getD d undef = a0.tmps.getD d undef
  tail : ∀ i, m ≤ i → i < ops.size → listed.getD i true = false
  closed : Closed md ops (fun i => listed.getD i false)
theorem laidAll_size (l0 : Array Bool) (R : Nat → Value) (D : Nat → Tmp) (t : Array Value) : ∀ m, (laidAll l0 R D t m).size = t.size
  | 0 => rfl
  | m + 1 => by
    rw [laidAll]
    split
    · exact laidAll_size l0 R D t m
    · rw [Array.size_setIfInBounds]; exact laidAll_size l0 R D t m
theorem laidAll_get (l0 : Array Bool) (R : Nat → Value) (D : Nat → Tmp) (t : Array Value) : ∀ (m : Nat) (d : Nat) (v : Value), (∀ i, i < m → D i < t.size) → (∀ i j, i < m → j < m → D i = D j → i = j) →
    ((∃ i, i < m ∧ l0.getD i true = false ∧ D i = d ∧ v = R i) ∨ ((∀ i, i < m → l0.getD i true = false → D i ≠ d) ∧ v = t.getD d undef)) → (laidAll l0 R D t m).getD d undef = v
  | 0, d, v, _, _, h => by
    rcases h with ⟨i, hi, _⟩ | ⟨_, h⟩
    · omega
    · rw [h]; rfl
  | m + 1, d, v, hlt, hinj, h => by
    have ih := laidAll_get l0 R D t m d v (fun i hi => hlt i (by omega)) (fun i j hi hj => hinj i j (by omega) (by omega))
    rw [laidAll]
    by_cases hp : l0.getD m true = true
    · rw [if_pos hp]
      apply ih
      rcases h with ⟨i, hi, h1, h2, h3⟩ | ⟨h1, h2⟩
      · left
        refine ⟨i, ?_, h1, h2, h3⟩
        by_cases e : i = m
        · subst e; rw [hp] at h1; cases h1
        · omega
      · right; exact ⟨fun i hi => h1 i (by omega), h2⟩
    · rw [if_neg hp]
      have hpf : l0.getD m true = false := by simpa using hp
      by_cases hd : D m = d
      · have hv : v = R m := by
          rcases h with ⟨i, hi, h1, h2, h3⟩ | ⟨h1, _⟩
          · rw [h3, hinj i m hi (by omega) (by rw [h2, hd])]
          · exact absurd hd (h1 m (by omega) hpf)
        subst hd
        have hs : D m < (laidAll l0 R D t m).size := by rw [laidAll_size]; exact hlt m (by omega)
        rw [hv]
        simp [hs]
      · have hne : ((laidAll l0 R D t m).setIfInBounds (D m) (R m)).getD d undef = (laidAll l0 R D t m).getD d undef := by
          simp [Array.getElem?_setIfInBounds_ne hd]
        rw [hne]
        apply ih
        rcases h with ⟨i, hi, h1, h2, h3⟩ | ⟨h1, h2⟩
        · left
          refine ⟨i, ?_, h1, h2, h3⟩
          by_cases e : i = m
          · subst e; exact absurd h2 hd
          · omega
        · right; exact ⟨fun i hi => h1 i (by omega), h2⟩
theorem arr_ext {x y : Array Value} (hs : x.size = y.size) (h : ∀ d, x.getD d undef = y.getD d undef) : x = y := by
  apply Array.ext hs
  intro i h1 h2
  have := h i
  simpa [h1, h2] using this
theorem arr_extB {x y : Array Bool} (hs : x.size = y.size) (h : ∀ d, d < x.size → x.getD d true = y.getD d true) : x = y := by
  apply Array.ext hs
  intro i h1 h2
  have := h i h1
  simpa [h1, h2] using this
theorem held_part (m : Nat) (R : Nat → Value) (D : Nat → Tmp) (a0 : Act) (C : World → Prop) (l0 : Array Bool) (F : Nat) (_hm : 0 < m) (hmn : m ≤ ops.size)
    (hinj : ∀ i j, i < m → j < m → D i = D j → i = j) (hlt : ∀ i, i < m → D i < a0.tmps.size)
    (hord : ∀ (i : Nat) (o : Oper), ops[i]? = some o → o.after.all (fun e => decide (e.on < i)) = true)
    (hmk : ∀ i, i < m → marks md ops m (fun j => j == m - 1) i = true ∨ l0.getD i true = true)
    (htw : ∀ (j : Nat) (o : Oper), m ≤ j → ops[j]? = some o → ∃ e ∈ o.after, Region.binds md e = true ∧ (e.on = m - 1 ∨ m ≤ e.on))
    (hS : ∀ w, C w → S w)
    (step : ∀ (listed : Array Bool) (a : Act) (w : World) (i : Nat) (o : Oper), Po md ops R D m a0 l0 listed a → C w → i < m → l0.getD i true = false → ops[i]? = some o → (∀ e ∈ o.after, Region.binds md e = true → listed.getD e.on false = true) →
      Region.wanted o (yielded ops a.tmps) = true ∧ ∀ K : Act → World → Prop, (∀ w', C w' → K (a.put (some (D i)) (R i)) w') → o.wp P a w K Q)
    (fin : ∀ w, C w → wpAnyH P md ops Q S F (Array.replicate m true ++ Array.replicate (ops.size - m) false) ⟨laidAll l0 R D a0.tmps m, a0.defers⟩ w) :
    ∀ (k : Nat) (listed : Array Bool) (a : Act) (w : World), Po md ops R D m a0 l0 listed a → C w → (List.range m).countP (fun i => !listed.getD i true) = k → wpAnyH P md ops Q S (k + F) listed a w := by
  intro k
  induction k with
  | zero =>
    intro listed a w hs hC hc
    have hall : ∀ i, i < m → listed.getD i true = true := fun i hi => by
      have := List.countP_eq_zero.1 hc i (List.mem_range.2 hi)
      simpa using this
    have e1 : listed = Array.replicate m true ++ Array.replicate (ops.size - m) false := by
      apply arr_extB
      · rw [hs.size]; simp; omega
      · intro d hd
        rw [hs.size] at hd
        by_cases h : d < m
        · rw [hall d h]
          simp [Array.getElem?_append, h]
        · rw [hs.tail d (by omega) hd]
          simp [Array.getElem?_append, h, show d - m < ops.size - m by omega]
    have e2 : a = ⟨laidAll l0 R D a0.tmps m, a0.defers⟩ := by
      obtain ⟨tm, df⟩ := a
      have hd : df = a0.defers := hs.defers
      subst hd
      congr 1
      apply arr_ext
      · rw [laidAll_size]; exact hs.tmps
      · intro d
        refine (laidAll_get l0 R D a0.tmps m d _ hlt hinj ?_).symm
        by_cases h : ∃ i, i < m ∧ l0.getD i true = false ∧ D i = d
        · obtain ⟨i, hi, h1, h2⟩ := h
          left
          exact ⟨i, hi, h1, h2, by rw [← h2]; exact hs.has i hi h1 (hall i hi)⟩
        · right
          have h' : ∀ i, i < m → l0.getD i true = false → D i ≠ d := fun i hi h1 h2 => h ⟨i, hi, h1, h2⟩
          exact ⟨h', hs.old d (fun i hi h1 _ => h' i hi h1)⟩
    rw [e1, e2, Nat.zero_add]
    exact fin w hC
  | succ k ih =>
    intro listed a w hs hC hc
    have hsome : ∃ i, i < m ∧ listed.getD i true = false := by
      have hp : 0 < (List.range m).countP (fun i => !listed.getD i true) := by omega
      obtain ⟨i, hi, h⟩ := List.countP_pos_iff.1 hp
      exact ⟨i, List.mem_range.1 hi, by simpa using h⟩
    rw [show k + 1 + F = (k + F) + 1 by omega]
    refine ⟨fun h => ?_, fun i hi => ?_⟩
    · obtain ⟨i, hi, h1⟩ := hsome
      have := ready_nil hord hs.size h i (by omega)
      rw [this] at h1; cases h1
    · obtain ⟨h0, o, ho, hdeps⟩ := mem_ready.1 hi
      have his : i < ops.size := (Array.getElem?_eq_some_iff.1 ho).1
      have him : i < m := by
        apply Classical.byContradiction
        intro hge
        obtain ⟨e, he, hb, hon⟩ := htw i o (by omega) ho
        have hl := hdeps e he hb
        rcases hon with hon | hon
        · obtain ⟨j, hj, hjf⟩ := hsome
          rcases hmk j hj with h | h
          · have := marks_sub hs.closed m (fun j => j == m - 1) (fun x hx => by
              have : x = m - 1 := by simpa using hx
              subst this; rw [← hon]; exact hl) j h
            have h2 := getD_true this
            rw [h2] at hjf; cases hjf
          · rw [hs.pre j h] at hjf; cases hjf
        · have he2 : e.on < i := by
            have := hord i o ho
            rw [Array.all_eq_true_iff_forall_mem] at this
            simpa using this e he
          have h1 := hs.tail e.on hon (by omega)
          have h2 := getD_true hl
          rw [h2] at h1; cases h1
      have hpre : l0.getD i true = false := by
        cases h : l0.getD i true with
        | false => rfl
        | true => rw [hs.pre i h] at h0; cases h0
      obtain ⟨hw, hst⟩ := step listed a w i o hs hC him hpre ho hdeps
      unfold Go.wpOp
      simp only [ho, hw, if_true]
      refine .inl (hst _ (fun w' hC' => ⟨hS w' hC', ?_⟩))
      have hget : ∀ (j : Nat) (b : Bool), (listed.setIfInBounds i true).getD j b = if i = j then true else listed.getD j b := fun j b => by
        by_cases hij : i = j
        · subst hij
          rw [if_pos rfl]
          simp [hs.size, his]
        · rw [if_neg hij, getD_set_ne b hij]
      refine ih _ _ w' ?_ hC' ?_
      · refine ⟨by simp [hs.size], by simp [Act.put, hs.tmps], hs.defers, fun j hj => ?_, fun j hj h1 h2 => ?_, fun d hd => ?_, fun j hj1 hj2 => ?_, fun j oj hoj hj e he hb => ?_⟩
        · rw [hget]; split
          · rfl
          · exact hs.pre j hj
        · rw [hget] at h2
          by_cases hij : i = j
          · subst hij
            have : D i < a.tmps.size := by rw [hs.tmps]; exact hlt i him
            simp [Act.put, this]
          · rw [if_neg hij] at h2
            have hne : D i ≠ D j := fun e => hij (hinj i j him hj e)
            have := hs.has j hj h1 h2
            simpa [Act.put, Array.getElem?_setIfInBounds_ne hne] using this
        · have hdi : D i ≠ d := hd i him hpre (by rw [hget, if_pos rfl])
          have := hs.old d (fun j hj h1 h2 => hd j hj h1 (by rw [hget]; split; rfl; exact h2))
          simpa [Act.put, Array.getElem?_setIfInBounds_ne hdi] using this
        · rw [hget, if_neg (by omega)]; exact hs.tail j hj1 hj2
        · simp only [hget] at hj ⊢
          by_cases hij : i = j
          · subst hij
            obtain rfl : o = oj := by rw [ho] at hoj; exact Option.some.inj hoj
            split
            · rfl
            · exact hdeps e he hb
          · rw [if_neg hij] at hj
            split
            · rfl
            · exact hs.closed j oj hoj hj e he hb
      · have h1 := countP_set m listed i him h0 hget
        omega
/-- From the region's first world on, nothing taken yet or some of them taken. -/
theorem held_part0 (m : Nat) (R : Nat → Value) (D : Nat → Tmp) {a0 : Act} {w : World} (C : World → Prop) (l0 : Array Bool) (k F : Nat) (hm : 0 < m) (hmn : m ≤ ops.size) (hsz : l0.size = ops.size)
    (hinj : ∀ i j, i < m → j < m → D i = D j → i = j) (hlt : ∀ i, i < m → D i < a0.tmps.size)
    (hord : ∀ (i : Nat) (o : Oper), ops[i]? = some o → o.after.all (fun e => decide (e.on < i)) = true)
    (hmk : ∀ i, i < m → marks md ops m (fun j => j == m - 1) i = true ∨ l0.getD i true = true)
    (htw : ∀ (j : Nat) (o : Oper), m ≤ j → ops[j]? = some o → ∃ e ∈ o.after, Region.binds md e = true ∧ (e.on = m - 1 ∨ m ≤ e.on))
    (htl : ∀ i, m ≤ i → i < ops.size → l0.getD i true = false) (hcl : Closed md ops (fun i => l0.getD i false))
    (hk : (List.range m).countP (fun i => !l0.getD i true) = k)
    (hS : ∀ w, C w → S w) (hC : C w)
    (step : ∀ (listed : Array Bool) (a : Act) (w : World) (i : Nat) (o : Oper), Po md ops R D m a0 l0 listed a → C w → i < m → l0.getD i true = false → ops[i]? = some o → (∀ e ∈ o.after, Region.binds md e = true → listed.getD e.on false = true) →
      Region.wanted o (yielded ops a.tmps) = true ∧ ∀ K : Act → World → Prop, (∀ w', C w' → K (a.put (some (D i)) (R i)) w') → o.wp P a w K Q)
    (fin : ∀ w, C w → wpAnyH P md ops Q S F (Array.replicate m true ++ Array.replicate (ops.size - m) false) ⟨laidAll l0 R D a0.tmps m, a0.defers⟩ w) :
    wpAnyH P md ops Q S (k + F) l0 a0 w :=
  held_part m R D a0 C l0 F hm hmn hinj hlt hord hmk htw hS step fin k l0 a0 w
    ⟨hsz, rfl, rfl, fun _ h => h, fun i _ h1 h2 => absurd (h1.symm.trans h2) (by simp), fun _ _ => rfl, htl, hcl⟩ hC hk
/-- All that is asked of the region itself, at once. -/
def chkPart (md : Region.Mode) (ops : Array Oper) (m k : Nat) (l0 : Array Bool) : Bool :=
  decide (0 < m) && decide (m ≤ ops.size) && decide (l0.size = ops.size) && decide ((List.range m).countP (fun i => !l0.getD i true) = k) &&
  (List.range ops.size).all (fun i => match ops[i]? with | some o => o.after.all (fun e => decide (e.on < i)) | none => true) &&
  (List.range m).all (fun i => marks md ops m (fun j => j == m - 1) i || l0.getD i true) &&
  (List.range ops.size).all (fun j => decide (j < m) || (!l0.getD j true && match ops[j]? with | some o => o.after.any (fun e => Region.binds md e && (e.on == m - 1 || decide (m ≤ e.on))) | none => true)) &&
  (List.range ops.size).all (fun i => !l0.getD i false || match ops[i]? with | some o => o.after.all (fun e => !Region.binds md e || l0.getD e.on false) | none => true)
theorem held_part1 (m : Nat) (R : Nat → Value) (D : Nat → Tmp) {a0 : Act} {w : World} (C : World → Prop) (l0 : Array Bool) (k F : Nat) (hchk : chkPart md ops m k l0 = true)
    (hinj : ∀ i j, i < m → j < m → D i = D j → i = j) (hlt : ∀ i, i < m → D i < a0.tmps.size)
    (hS : ∀ w, C w → S w) (hC : C w)
    (step : ∀ (listed : Array Bool) (a : Act) (w : World) (i : Nat) (o : Oper), Po md ops R D m a0 l0 listed a → C w → i < m → l0.getD i true = false → ops[i]? = some o → (∀ e ∈ o.after, Region.binds md e = true → listed.getD e.on false = true) →
      Region.wanted o (yielded ops a.tmps) = true ∧ ∀ K : Act → World → Prop, (∀ w', C w' → K (a.put (some (D i)) (R i)) w') → o.wp P a w K Q)
    (fin : ∀ w, C w → wpAnyH P md ops Q S F (Array.replicate m true ++ Array.replicate (ops.size - m) false) ⟨laidAll l0 R D a0.tmps m, a0.defers⟩ w) :
    wpAnyH P md ops Q S (k + F) l0 a0 w := by
  simp only [chkPart, Bool.and_eq_true, decide_eq_true_eq, List.all_eq_true, List.mem_range] at hchk
  obtain ⟨⟨⟨⟨⟨⟨⟨c1, c2⟩, c3⟩, c4⟩, c5⟩, c6⟩, c7⟩, c8⟩ := hchk
  refine held_part0 m R D C l0 k F c1 c2 c3 hinj hlt (fun i o ho => ?_) (fun i hi => ?_) (fun j o hj ho => ?_) (fun i hi hn => ?_) (fun i o ho hl e he hb => ?_) c4 hS hC step fin
  · have := c5 i (Array.getElem?_eq_some_iff.1 ho).1
    rw [ho] at this
    exact this
  · have := c6 i hi
    simpa only [Bool.or_eq_true] using this
  · have := c7 j (Array.getElem?_eq_some_iff.1 ho).1
    rw [ho] at this
    simp only [Bool.or_eq_true, decide_eq_true_eq, Bool.and_eq_true, Array.any_eq_true] at this
    rcases this with h | ⟨_, i, hi, h⟩
    · omega
    · refine ⟨o.after[i], Array.getElem_mem hi, h.1, ?_⟩
      simpa only [beq_iff_eq] using h.2
  · have := c7 i hn
    simp only [Bool.or_eq_true, decide_eq_true_eq, Bool.and_eq_true, Bool.not_eq_true'] at this
    rcases this with h | h
    · omega
    · exact h.1
  · have := c8 i (Array.getElem?_eq_some_iff.1 ho).1
    rw [ho] at this
    simp only [Bool.or_eq_true, Bool.not_eq_true'] at this
    have hl' : l0.getD i false = true := hl
    rcases this with h | h
    · rw [hl'] at h; cases h
    · rw [Array.all_eq_true_iff_forall_mem] at h
      have := h e he
      simp only [Bool.or_eq_true, Bool.not_eq_true'] at this
      rcases this with h | h
      · rw [hb] at h; cases h
      · exact h
end
end Go.Proofs.YtcinhbhagiffgaaDoor
