/- Values that are told along edges and only ever fall: what they come to, and when. Mathematics alone; no condition. -/
import Derived.Test.YtapcpmalgdhakaaGreatFAll
namespace Go.Proofs.YtapcpmalgdhakaaGreat
set_option maxRecDepth 100000

/-- A list of different numbers below N is no longer than N. -/
theorem nodup_le : ∀ (N : Nat) (l : List Nat), l.Nodup → (∀ x ∈ l, x < N) → l.length ≤ N
  | 0, l, _, h => by
    cases l with
    | nil => exact Nat.le_refl _
    | cons a t => exact absurd (h a List.mem_cons_self) (Nat.not_lt_zero _)
  | N + 1, l, hn, h => by
    have h1 : (l.erase N).Nodup := hn.erase N
    have h2 : ∀ x ∈ l.erase N, x < N := fun x hx => by
      have hx' := (hn.mem_erase_iff).1 hx
      have := h x hx'.2
      omega
    have ih := nodup_le N (l.erase N) h1 h2
    have h3 := List.length_erase (a := N) (l := l)
    split at h3 <;> omega
/-- What a vertex has behind a round, of what it had and what came. -/
def relK (k : Int) : Option Int → Int
  | none => k
  | some m => if m < k then m else k
theorem relK_some (k m : Int) : relK k (some m) = if m < k then m else k := rfl
def Imp (K : Nat → Nat → Int) (M : Nat → Nat → Option Int) (t v : Nat) : Prop := ∃ m, M t v = some m ∧ m < K t v
/-- Who tells its neighbours in a round: at first the starters, later who has less than it had. -/
def Tells (S : Nat → Prop) (K : Nat → Nat → Int) (M : Nat → Nat → Option Int) : Nat → Nat → Prop
  | 0, v => S v
  | t + 1, v => Imp K M (t + 1) v
structure Relax (N : Nat) (ed : List (Nat × Nat × Int)) (B : Int) (S : Nat → Prop) (K : Nat → Nat → Int) (M : Nat → Nat → Option Int) (T : Nat) : Prop where
  edge : ∀ e ∈ ed, e.1 < N ∧ e.2.1 < N ∧ 0 ≤ e.2.2
  start : ∀ v, v < N → (S v ↔ K 0 v < B)
  le : ∀ v, v < N → K 0 v ≤ B
  first : 0 < T → ∀ v, v < N → K 1 v = K 0 v
  next : ∀ t, 1 ≤ t → t < T → ∀ v, v < N → K (t + 1) v = relK (K t v) (M t v)
  from_ : ∀ t, t < T → ∀ v, v < N → ∀ m, M (t + 1) v = some m → ∃ e ∈ ed, e.2.1 = v ∧ Tells S K M t e.1 ∧ m = K (t + 1) e.1 + e.2.2
  to_ : ∀ t, t < T → ∀ e ∈ ed, Tells S K M t e.1 → ∃ m, M (t + 1) e.2.1 = some m ∧ m ≤ K (t + 1) e.1 + e.2.2
section
variable {N : Nat} {ed : List (Nat × Nat × Int)} {B : Int} {S : Nat → Prop} {K : Nat → Nat → Int} {M : Nat → Nat → Option Int} {T : Nat}
theorem relK_le (k : Int) (o : Option Int) : relK k o ≤ k := by
  cases o with
  | none => exact Int.le_refl _
  | some m => rw [relK_some]; split <;> omega
theorem relK_le_some (k m : Int) : relK k (some m) ≤ m := by rw [relK_some]; split <;> omega
theorem Relax.falls (h : Relax N ed B S K M T) : ∀ t, t < T → ∀ v, v < N → K (t + 1) v ≤ K t v
  | 0, ht, v, hv => by rw [h.first ht v hv]; exact Int.le_refl _
  | t + 1, ht, v, hv => by rw [h.next (t + 1) (by omega) ht v hv]; exact relK_le _ _
theorem Relax.le_start (h : Relax N ed B S K M T) : ∀ t, t ≤ T → ∀ v, v < N → K t v ≤ K 0 v
  | 0, _, _, _ => Int.le_refl _
  | t + 1, ht, v, hv => Int.le_trans (h.falls t (by omega) v hv) (h.le_start t (by omega) v hv)
theorem Relax.imp_val (h : Relax N ed B S K M T) {t v : Nat} (ht : 1 ≤ t) (htT : t < T) (hv : v < N) {m : Int} (hm : M t v = some m) (hl : m < K t v) : K (t + 1) v = m := by
  rw [h.next t ht htT v hv, hm]; rw [relK_some, if_pos hl]
/-- Who has less than it had has one for each round ahead who has no more. -/
theorem Relax.chain (h : Relax N ed B S K M T) : ∀ t, t < T → ∀ v, v < N → Tells S K M t v → ∃ l : List Nat, l.length = t + 1 ∧ l.Nodup ∧ v ∈ l ∧ ∀ u ∈ l, u < N ∧ K (t + 1) u ≤ K (t + 1) v
  | 0, ht, v, hv, _ => ⟨[v], rfl, List.nodup_cons.2 ⟨by simp, List.nodup_nil⟩, List.mem_cons_self, fun u hu => by
    rw [List.mem_singleton] at hu; subst hu; exact ⟨hv, Int.le_refl _⟩⟩
  | t + 1, ht, v, hv, him => by
    obtain ⟨m, hm, hl⟩ := him
    have hval := h.imp_val (by omega) ht hv hm hl
    obtain ⟨e, he, hev, hte, hme⟩ := h.from_ t (by omega) v hv m hm
    obtain ⟨hu1, _, hlen⟩ := h.edge e he
    obtain ⟨l, hl1, hl2, hl3, hl4⟩ := h.chain t (by omega) e.1 hu1 hte
    have hvl : v ∉ l := fun hin => by
      have := (hl4 v hin).2
      omega
    refine ⟨v :: l, by simp [hl1], List.nodup_cons.2 ⟨hvl, hl2⟩, List.mem_cons_self, fun u hu => ?_⟩
    rcases List.mem_cons.1 hu with rfl | hu
    · exact ⟨hv, Int.le_refl _⟩
    · have h1 := hl4 u hu
      have h2 := h.falls (t + 1) ht u h1.1
      exact ⟨h1.1, by omega⟩
theorem Relax.done (h : Relax N ed B S K M T) {t : Nat} (ht : t < T) (hN : N ≤ t) {v : Nat} (hv : v < N) : ¬ Tells S K M t v := fun hte => by
  obtain ⟨l, hl1, hl2, _, hl4⟩ := h.chain t ht v hv hte
  have := nodup_le N l hl2 (fun x hx => (hl4 x hx).1)
  omega
/-- Along each edge no more is had, or it is on its way. -/
theorem Relax.along (h : Relax N ed B S K M T) : ∀ t, t < T → ∀ e ∈ ed, K (t + 1) e.1 < B → K (t + 1) e.2.1 ≤ K (t + 1) e.1 + e.2.2 ∨ ∃ m, M (t + 1) e.2.1 = some m ∧ m ≤ K (t + 1) e.1 + e.2.2
  | 0, ht, e, he, hB => by
    refine .inr (h.to_ 0 ht e he ?_)
    rw [h.first ht e.1 (h.edge e he).1] at hB
    exact (h.start e.1 (h.edge e he).1).2 hB
  | t + 1, ht, e, he, hB => by
    obtain ⟨hu, hv, hlen⟩ := h.edge e he
    by_cases him : Imp K M (t + 1) e.1
    · exact .inr (h.to_ (t + 1) ht e he him)
    · have hku : K (t + 1 + 1) e.1 = K (t + 1) e.1 := by
        rw [h.next (t + 1) (by omega) ht e.1 hu]
        cases hm : M (t + 1) e.1 with
        | none => rfl
        | some m =>
          rw [relK_some, if_neg (fun hl => him ⟨m, hm, hl⟩)]
      rw [hku] at hB ⊢
      left
      rcases h.along t (by omega) e he hB with h1 | ⟨m, hm, h1⟩
      · exact Int.le_trans (h.falls (t + 1) ht e.2.1 hv) h1
      · rw [h.next (t + 1) (by omega) ht e.2.1 hv, hm]
        exact Int.le_trans (relK_le_some _ _) h1
/-- What is had comes from a start, or from one ahead who has no more. -/
theorem Relax.behind (h : Relax N ed B S K M T) : ∀ t, t ≤ T → ∀ v, v < N → K t v = K 0 v ∨ ∃ e ∈ ed, e.2.1 = v ∧ K t e.1 + e.2.2 ≤ K t v
  | 0, _, _, _ => .inl rfl
  | t + 1, ht, v, hv => by
    have old : K (t + 1) v = K t v → K (t + 1) v = K 0 v ∨ ∃ e ∈ ed, e.2.1 = v ∧ K (t + 1) e.1 + e.2.2 ≤ K (t + 1) v := fun hk => by
      rcases h.behind t (by omega) v hv with h1 | ⟨e, he, hev, h1⟩
      · exact .inl (hk.trans h1)
      · refine .inr ⟨e, he, hev, ?_⟩
        have := h.falls t (by omega) e.1 (h.edge e he).1
        omega
    cases t with
    | zero => exact old (h.first (by omega) v hv)
    | succ t =>
      cases hm : M (t + 1) v with
      | none => exact old (by rw [h.next (t + 1) (by omega) (by omega) v hv, hm]; rfl)
      | some m =>
        by_cases hl : m < K (t + 1) v
        · have hval := h.imp_val (by omega) (by omega) hv hm hl
          obtain ⟨e, he, hev, _, hme⟩ := h.from_ t (by omega) v hv m hm
          refine .inr ⟨e, he, hev, ?_⟩
          have := h.falls (t + 1) (by omega) e.1 (h.edge e he).1
          omega
        · exact old (by rw [h.next (t + 1) (by omega) (by omega) v hv, hm]; rw [relK_some, if_neg hl])
/-- What can be had at a vertex. -/
inductive Att (N : Nat) (ed : List (Nat × Nat × Int)) (k0 : Nat → Int) : Nat → Int → Prop
  | start (u : Nat) : u < N → Att N ed k0 u (k0 u)
  | step (u : Nat) (d : Int) (e : Nat × Nat × Int) : Att N ed k0 u d → e ∈ ed → e.1 = u → Att N ed k0 e.2.1 (d + e.2.2)
theorem Att.lt {k0 : Nat → Int} (hed : ∀ e ∈ ed, e.1 < N ∧ e.2.1 < N ∧ 0 ≤ e.2.2) {v : Nat} {d : Int} (h : Att N ed k0 v d) : v < N := by
  cases h with
  | start u hu => exact hu
  | step u d e hu he _ => exact (hed e he).2.1
/-- At the end, where nothing comes, no less can be had. -/
theorem Relax.least (h : Relax N ed B S K M T) (hT : 0 < T) (hq : ∀ v, v < N → M T v = none) {v : Nat} {d : Int} (ha : Att N ed (K 0) v d) : d < B → K T v ≤ d := by
  induction ha with
  | start u hu => intro _; exact h.le_start T (Nat.le_refl _) u hu
  | step u d e hu he heu ih =>
    intro hB
    obtain ⟨h1, h2, hlen⟩ := h.edge e he
    have h3 := ih (by omega)
    obtain ⟨t, rfl⟩ : ∃ t, T = t + 1 := ⟨T - 1, by omega⟩
    subst heu
    rcases h.along t (by omega) e he (by omega) with h4 | ⟨m, hm, _⟩
    · omega
    · rw [hq e.2.1 h2] at hm; cases hm
end
end Go.Proofs.YtapcpmalgdhakaaGreat
/- Layer 9: a whole job, step by step: what the document's words come to. Mathematics alone; no condition. -/
namespace Go.Proofs.YtapcpmalgdhakaaGreat
set_option maxRecDepth 100000

/-- The first error of several. -/
def errF {α : Type} (g : α → Int) : List α → Int
  | [] => 0
  | x :: r => if g x ≠ 0 then g x else errF g r
theorem errF_zero {α : Type} {g : α → Int} : ∀ {l : List α}, errF g l = 0 ↔ ∀ x ∈ l, g x = 0
  | [] => by simp [errF]
  | x :: r => by
    rw [errF]
    by_cases h : g x = 0
    · rw [if_neg (fun h' => h' h), errF_zero (l := r)]; simp [h]
    · rw [if_pos h]; simp [h]
theorem errF_at {α : Type} {g : α → Int} : ∀ {l : List α} {i : Nat} {x : α}, (∀ j y, j < i → l[j]? = some y → g y = 0) → l[i]? = some x → g x ≠ 0 → errF g l = g x
  | [], i, x, _, h, _ => by simp at h
  | y :: r, 0, x, _, h, hx => by
    obtain rfl : y = x := by simpa using h
    rw [errF, if_pos hx]
  | y :: r, i + 1, x, h0, h, hx => by
    rw [errF, if_neg (fun h' => h' (h0 0 y (Nat.succ_pos _) rfl))]
    exact errF_at (l := r) (i := i) (fun j z hj hz => h0 (j + 1) z (by omega) (by simpa using hz)) (by simpa using h) hx
def idsB : Nat → List Vx → Bool
  | _, [] => true
  | v, x :: r => x.id == (v : Int) && idsB (v + 1) r
theorem ids_iff : ∀ {l : List Vx} {v : Nat}, idsB v l = true ↔ ∀ (i : Nat) (x : Vx), l[i]? = some x → x.id = ((v + i : Nat) : Int)
  | [], v => by simp [idsB]
  | y :: r, v => by
    rw [idsB, Bool.and_eq_true, beq_iff_eq, ids_iff (l := r)]
    constructor
    · rintro ⟨h1, h2⟩ i x hx
      cases i with
      | zero => obtain rfl : y = x := by simpa using hx
                simpa using h1
      | succ i => have := h2 i x (by simpa using hx); omega
    · intro h
      exact ⟨by simpa using h 0 y rfl, fun i x hx => by have := h (i + 1) x (by simpa using hx); omega⟩
def startL (n : Int) (k : Nat) (src : Int) : List Vx := (List.range n.toNat).map fun v : Nat => (⟨(v : Int), firstV k src v, true, false, 0⟩ : Vx)
def sentL (n : Int) (es : List E) (k : Nat) (src steps at_ : Int) (l : List Vx) : List E := l.flatMap fun x => (stepL n es k src steps at_ x).2.1
def cameV (n : Int) (es : List E) (k : Nat) (src steps at_ : Int) (l : List Vx) (x : Vx) : Vx :=
  ⟨(stepL n es k src steps at_ x).1.id, (stepL n es k src steps at_ x).1.val, (stepL n es k src steps at_ x).1.act, (cameL k (sentL n es k src steps at_ l) x.id).2.1, (cameL k (sentL n es k src steps at_ l) x.id).1⟩
/-- All vertices behind a step, what was sent, the error. -/
def nextL (n : Int) (es : List E) (k : Nat) (src steps at_ : Int) (l : List Vx) : List Vx × List E × Int :=
  if (jobB n es k src steps && decide (0 ≤ at_) && decide (at_ < steps)) = false then ([], [], 70)
  else if (decide ((l.length : Int) = n) && idsB 0 l) = false then ([], [], 90)
  else if errF (fun x => (stepL n es k src steps at_ x).2.2) l ≠ 0 then ([], [], errF (fun x => (stepL n es k src steps at_ x).2.2) l)
  else if errF (fun x => (cameL k (sentL n es k src steps at_ l) x.id).2.2) l ≠ 0 then ([], [], errF (fun x => (cameL k (sentL n es k src steps at_ l) x.id).2.2) l)
  else (l.map (cameV n es k src steps at_ l), sortM (sentL n es k src steps at_ l), 0)
def quietL (l : List Vx) : Bool := l.all fun x => !x.act && !x.has
def valuesL (l : List Vx) : List Int := l.map fun x => x.val
def loopL (n : Int) (es : List E) (k : Nat) (src steps : Int) : Nat → Nat → List Vx → List Int × Nat × Int
  | 0, at_, l => (valuesL l, at_, 0)
  | f + 1, at_, l => if quietL l = true then (valuesL l, at_, 0) else if (nextL n es k src steps at_ l).2.2 ≠ 0 then ([], at_, (nextL n es k src steps at_ l).2.2) else loopL n es k src steps f (at_ + 1) (nextL n es k src steps at_ l).1
/-- What a job comes to, behind how many steps, and the error. -/
def wholeL (n : Int) (es : List E) (k : Nat) (src steps : Int) : List Int × Nat × Int := if jobB n es k src steps = true then loopL n es k src steps steps.toNat 0 (startL n k src) else ([], 0, 70)
section
variable {n : Int} {es : List E} {k : Nat} {src steps at_ : Int} {l : List Vx}
theorem next_ok (h : (nextL n es k src steps at_ l).2.2 = 0) : (jobB n es k src steps = true ∧ 0 ≤ at_ ∧ at_ < steps) ∧ ((l.length : Int) = n ∧ ∀ (i : Nat) (x : Vx), l[i]? = some x → x.id = (i : Int)) ∧
    (∀ x ∈ l, (stepL n es k src steps at_ x).2.2 = 0) ∧ (∀ x ∈ l, (cameL k (sentL n es k src steps at_ l) x.id).2.2 = 0) ∧ nextL n es k src steps at_ l = (l.map (cameV n es k src steps at_ l), sortM (sentL n es k src steps at_ l), 0) := by
  unfold nextL at h ⊢
  split at h
  · simp at h
  rename_i h1
  rw [if_neg h1]
  split at h
  · simp at h
  rename_i h2
  rw [if_neg h2]
  split at h
  · rename_i h3; exact absurd h h3
  rename_i h3
  rw [if_neg h3]
  split at h
  · rename_i h4; exact absurd h h4
  rename_i h4
  rw [if_neg h4]
  simp only [Bool.not_eq_false, Bool.and_eq_true, decide_eq_true_eq] at h1 h2
  exact ⟨⟨h1.1.1, h1.1.2, h1.2⟩, ⟨h2.1, fun i x hx => by have := ids_iff.1 h2.2 i x hx; omega⟩, errF_zero.1 (Classical.not_not.1 h3), errF_zero.1 (Classical.not_not.1 h4), rfl⟩
theorem start_length (n : Int) (k : Nat) (src : Int) : (startL n k src).length = n.toNat := by simp [startL]
theorem start_get {n : Int} {k : Nat} {src : Int} {v : Nat} (h : v < n.toNat) : (startL n k src)[v]? = some ⟨(v : Int), firstV k src v, true, false, 0⟩ := by simp [startL, h]
theorem nstep_id {x : Vx} (h : (stepL n es k src steps at_ x).2.2 = 0) : (stepL n es k src steps at_ x).1.id = x.id := by
  unfold stepL at h ⊢
  split at h
  · simp at h
  rename_i h1
  rw [if_neg h1]
  split at h
  · simp at h
  rename_i h2
  rw [if_neg h2]
  split
  · rfl
  · rename_i h3
    rw [if_neg h3] at h
    dsimp only at h ⊢
    split at h
    · simp at h
    · rename_i h4
      rw [if_neg h4]
theorem next_length (h : (nextL n es k src steps at_ l).2.2 = 0) : (nextL n es k src steps at_ l).1.length = l.length := by
  rw [(next_ok h).2.2.2.2]; simp
theorem next_get (h : (nextL n es k src steps at_ l).2.2 = 0) {v : Nat} {x : Vx} (hx : l[v]? = some x) : (nextL n es k src steps at_ l).1[v]? = some (cameV n es k src steps at_ l x) := by
  rw [(next_ok h).2.2.2.2]; simp [hx]
theorem cameV_id (h : (nextL n es k src steps at_ l).2.2 = 0) {x : Vx} (hx : x ∈ l) : (cameV n es k src steps at_ l x).id = x.id := nstep_id ((next_ok h).2.2.1 x hx)
/-- Something came just where something was sent to. -/
theorem came_has {k : Nat} (hk : k ≠ 0) {s : List E} {v : Int} (he : (cameL k s v).2.2 = 0) : ((cameL k s v).2.1 = true ↔ ∃ m ∈ s, m.2.1 = v) ∧ ((cameL k s v).2.1 = false → (cameL k s v).1 = 0) := by
  have hmem : ∀ m, m ∈ toL s v ↔ m ∈ s ∧ m.2.1 = v := fun m => by
    unfold toL; rw [sortM_mem, List.mem_filter]; simp
  have hfold : ∀ (r : List E) (c : Int), (foldC k c r).2.2 = 0 → (foldC k c r).2.1 = true := fun r => by
    induction r with
    | nil => intro c _; rfl
    | cons m r ih =>
      intro c h
      rw [foldC] at h ⊢
      split at h
      · rename_i h1; exact absurd h h1
      · rename_i h1; rw [if_neg h1]; exact ih _ h
  unfold cameL at he ⊢
  rw [if_neg hk] at he ⊢
  cases ht : toL s v with
  | nil =>
    refine ⟨⟨fun h => (by cases h), fun ⟨m, hm, hv⟩ => ?_⟩, fun _ => rfl⟩
    have := (hmem m).2 ⟨hm, hv⟩
    rw [ht] at this; simp at this
  | cons x r =>
    rw [ht, cameO] at he
    rw [cameO]
    split at he
    · simp at he
    · rename_i h1
      rw [if_neg h1]
      have := hfold r x.2.2 he
      refine ⟨⟨fun _ => ?_, fun _ => this⟩, fun h => by rw [this] at h; cases h⟩
      have hx := (hmem x).1 (by rw [ht]; exact List.mem_cons_self)
      exact ⟨x, hx.1, hx.2⟩
end
end Go.Proofs.YtapcpmalgdhakaaGreat
/- Layer 9: what a vertex does of max, label, sssp and bfs, and what comes of it; edges in another order. Mathematics alone; no condition. -/
namespace Go.Proofs.YtapcpmalgdhakaaGreat
set_option maxRecDepth 100000

section
variable {n : Int} {es es' : List E} {k : Nat} {src steps at_ : Int}
theorem n_out_mem (hc : checkZ n es = 0) {q : Int} {e : E} : e ∈ outL n es q ↔ e ∈ es ∧ e.1 = q := by
  obtain ⟨m, rfl, _, _, _⟩ := norm_small hc
  unfold outL
  rw [List.mem_filter, Int.toNat_natCast, (norm_perm hc).mem_iff]
  simp
theorem send_mem {l : List E} {f : Int → Int} {m : E} : m ∈ sendTo l f ↔ ∃ e ∈ l, m = (e.1, e.2.1, f e.2.2) := by
  unfold sendTo; rw [List.mem_map]
  exact ⟨fun ⟨e, he, h⟩ => ⟨e, he, h.symm⟩, fun ⟨e, he, h⟩ => ⟨e, he, h.symm⟩⟩
end
/-- How far it is along an edge. -/
def lenK (k : Nat) (w : Int) : Int := if k = 3 then w else if k = 4 then 1 else 0
/-- Did something better come? -/
def betK (k : Nat) (x : Vx) : Bool := x.has && (if k = 1 then decide (x.inn > x.val) else if k = 2 then decide (x.inn < x.val) else decide (x.val < 0) || decide (x.inn < x.val))
def tellK (k : Nat) (src : Int) (x : Vx) : Bool := decide (k = 1 ∨ k = 2) || x.id == src
abbrev K4 (k : Nat) : Prop := k = 1 ∨ k = 2 ∨ k = 3 ∨ k = 4
section
variable {n : Int} {es : List E} {k : Nat} {src steps at_ : Int}
theorem nstep_turn {x : Vx} (hw : (x.act || x.has) = true) (h : (stepL n es k src steps at_ x).2.2 = 0) : stepL n es k src steps at_ x = (⟨x.id, (turnL n es k src steps at_ x).1.1, (turnL n es k src steps at_ x).1.2, false, 0⟩, (turnL n es k src steps at_ x).2, 0) := by
  unfold stepL at h ⊢
  split at h
  · simp at h
  rename_i h1
  rw [if_neg h1]
  split at h
  · simp at h
  rename_i h2
  rw [if_neg h2]
  rw [if_neg (by
    intro h3
    simp only [Bool.and_eq_true, Bool.not_eq_true'] at h3
    rw [h3.1, h3.2] at hw
    cases hw)] at h ⊢
  dsimp only at h ⊢
  split at h
  · simp at h
  · rename_i h4; rw [if_neg h4]
theorem nstep_idle {x : Vx} (ha : x.act = false) (hh : x.has = false) (h : (stepL n es k src steps at_ x).2.2 = 0) : stepL n es k src steps at_ x = (x, [], 0) := by
  unfold stepL at h ⊢
  split at h
  · simp at h
  rename_i h1
  rw [if_neg h1]
  split at h
  · simp at h
  rename_i h2
  rw [if_neg h2, if_pos (by rw [ha, hh]; rfl)]
theorem turn_first (hk : K4 k) {x : Vx} (ha : x.act = true) (hh : x.has = false) (hv : (k = 3 ∨ k = 4) → x.id = src → x.val = 0) (h : (stepL n es k src steps 0 x).2.2 = 0) :
    stepL n es k src steps 0 x = (⟨x.id, x.val, false, false, 0⟩, if tellK k src x = true then sendTo (outL n es x.id) (fun w => x.val + lenK k w) else [], 0) := by
  rw [nstep_turn (by rw [ha]; rfl) h]
  have e0 : ((0 : Int) == 0) = true := rfl
  unfold turnL
  rw [e0, hh]
  rcases hk with rfl | rfl | rfl | rfl
  · simp [runL, bestL, tellK, lenK]
  · simp [runL, bestL, tellK, lenK]
  · by_cases hs : x.id = src
    · have := hv (.inl rfl) hs
      simp [runL, nearL, tellK, lenK, hs, this]
    · simp [runL, nearL, tellK, hs]
  · by_cases hs : x.id = src
    · have := hv (.inr rfl) hs
      simp [runL, nearL, tellK, lenK, hs, this]
    · simp [runL, nearL, tellK, hs]
theorem turn_later (hk : K4 k) (hat : at_ ≠ 0) {x : Vx} (ha : x.act = false) (h : (stepL n es k src steps at_ x).2.2 = 0) :
    (stepL n es k src steps at_ x).1.id = x.id ∧ (stepL n es k src steps at_ x).1.val = (if betK k x = true then x.inn else x.val) ∧ (stepL n es k src steps at_ x).1.act = false ∧
      (stepL n es k src steps at_ x).2.1 = if betK k x = true then sendTo (outL n es x.id) (fun w => x.inn + lenK k w) else [] := by
  cases hh : x.has with
  | false =>
    rw [nstep_idle ha hh h]
    have : betK k x = false := by unfold betK; rw [hh]; rfl
    rw [this]
    exact ⟨rfl, rfl, ha, rfl⟩
  | true =>
    rw [nstep_turn (by rw [hh, Bool.or_true]) h]
    have e0 : (at_ == 0) = false := by rw [beq_eq_false_iff_ne]; exact hat
    unfold turnL
    rw [e0, hh, if_pos rfl]
    rcases hk with rfl | rfl | rfl | rfl
    · by_cases hb : x.inn > x.val <;> simp [runL, bestL, betK, lenK, hh, hb]
    · by_cases hb : x.inn < x.val <;> simp [runL, bestL, betK, lenK, hh, hb]
    · by_cases hb : x.val < 0 ∨ x.inn < x.val <;> simp [runL, nearL, betK, lenK, hh, hb]
    · by_cases hb : x.val < 0 ∨ x.inn < x.val <;> simp [runL, nearL, betK, lenK, hh, hb]
end
/-- Of max the other way round. -/
def sgK (k : Nat) (x : Int) : Int := if k = 1 then -x else x
theorem fold_least {k : Nat} (hk : K4 k) {a b : Int} (h : (foldL k a b).2 = 0) : ((foldL k a b).1 = a ∨ (foldL k a b).1 = b) ∧ sgK k (foldL k a b).1 ≤ sgK k a ∧ sgK k (foldL k a b).1 ≤ sgK k b ∧ great (foldL k a b).1 = false := by
  have hk0 : k ≠ 0 := by rcases hk with rfl | rfl | rfl | rfl <;> decide
  unfold foldL at h ⊢
  rw [if_neg hk0] at h ⊢
  split at h
  · simp at h
  rename_i h1
  rw [if_neg h1]
  split at h
  · simp at h
  rename_i h2
  rw [if_neg h2]
  simp only
  have hg : great (foldV k a b) = false := by simpa using h2
  refine ⟨?_, ?_, ?_, hg⟩ <;> rcases hk with rfl | rfl | rfl | rfl <;> simp only [foldV, sgK, Nat.reduceEqDiff, if_true, if_false, or_true, or_false] <;> split <;> first | omega | simp
theorem foldC_least {k : Nat} (hk : K4 k) : ∀ (r : List E) (c : Int), great c = false → (foldC k c r).2.2 = 0 → ((foldC k c r).1 = c ∨ ∃ m ∈ r, m.2.2 = (foldC k c r).1) ∧ sgK k (foldC k c r).1 ≤ sgK k c ∧ (∀ m ∈ r, sgK k (foldC k c r).1 ≤ sgK k m.2.2) ∧ great (foldC k c r).1 = false
  | [], c, hg, _ => ⟨.inl rfl, Int.le_refl _, (fun m hm => by simp at hm), hg⟩
  | m :: r, c, hg, h => by
    rw [foldC] at h ⊢
    split at h
    · rename_i h1; exact absurd h h1
    rename_i h1
    rw [if_neg h1]
    obtain ⟨f1, f2, f3, f4⟩ := fold_least hk (Classical.not_not.1 h1)
    obtain ⟨g1, g2, g3, g4⟩ := foldC_least hk r (foldL k c m.2.2).1 f4 h
    refine ⟨?_, Int.le_trans g2 f2, fun x hx => ?_, g4⟩
    · rcases g1 with g1 | ⟨y, hy, g1⟩
      · rcases f1 with f1 | f1
        · exact .inl (g1.trans f1)
        · exact .inr ⟨m, List.mem_cons_self, (g1.trans f1).symm⟩
      · exact .inr ⟨y, List.mem_cons_of_mem _ hy, g1⟩
    · rcases List.mem_cons.1 hx with rfl | hx
      · exact Int.le_trans g2 f3
      · exact g3 x hx
/-- What came is the least of what was sent, of max the greatest. -/
theorem came_least {k : Nat} (hk : K4 k) {s : List E} {v : Int} (he : (cameL k s v).2.2 = 0) (hh : (cameL k s v).2.1 = true) :
    (∃ m ∈ s, m.2.1 = v ∧ m.2.2 = (cameL k s v).1) ∧ (∀ m ∈ s, m.2.1 = v → sgK k (cameL k s v).1 ≤ sgK k m.2.2) ∧ great (cameL k s v).1 = false := by
  have hk0 : k ≠ 0 := by rcases hk with rfl | rfl | rfl | rfl <;> decide
  have hmem : ∀ m, m ∈ toL s v ↔ m ∈ s ∧ m.2.1 = v := fun m => by
    unfold toL; rw [sortM_mem, List.mem_filter]; simp
  unfold cameL at he hh ⊢
  rw [if_neg hk0] at he hh ⊢
  cases ht : toL s v with
  | nil => rw [ht] at hh; cases hh
  | cons x r =>
    rw [ht, cameO] at he
    rw [cameO]
    split at he
    · simp at he
    rename_i h1
    rw [if_neg h1]
    obtain ⟨g1, g2, g3, g4⟩ := foldC_least hk r x.2.2 (by simpa using h1) he
    have hx := (hmem x).1 (by rw [ht]; exact List.mem_cons_self)
    have hr : ∀ m ∈ r, m ∈ s ∧ m.2.1 = v := fun m hm => (hmem m).1 (by rw [ht]; exact List.mem_cons_of_mem _ hm)
    refine ⟨?_, fun m hm hv => ?_, g4⟩
    · rcases g1 with g1 | ⟨y, hy, g1⟩
      · exact ⟨x, hx.1, hx.2, g1.symm⟩
      · exact ⟨y, (hr y hy).1, (hr y hy).2, g1⟩
    · have := (hmem m).2 ⟨hm, hv⟩
      rw [ht] at this
      rcases List.mem_cons.1 this with rfl | h2
      · exact g2
      · exact g3 m h2
end Go.Proofs.YtapcpmalgdhakaaGreat
/- Layer 9: of max, label, sssp and bfs: what is had only ever falls (of max: rises), as it is told along edges. Mathematics alone; no condition. -/
namespace Go.Proofs.YtapcpmalgdhakaaGreat
set_option maxRecDepth 100000

/-- All vertices ahead of step t. -/
def stL (n : Int) (es : List E) (k : Nat) (src steps : Int) : Nat → List Vx
  | 0 => startL n k src
  | t + 1 => (nextL n es k src steps t (stL n es k src steps t)).1
def vxL (n : Int) (es : List E) (k : Nat) (src steps : Int) (t v : Nat) : Vx := ((stL n es k src steps t)[v]?).getD noVx
/-- The first T steps have no error. -/
def OkL (n : Int) (es : List E) (k : Nat) (src steps : Int) (T : Nat) : Prop := jobB n es k src steps = true ∧ ∀ t, t < T → (nextL n es k src steps t (stL n es k src steps t)).2.2 = 0
section
variable {n : Int} {es : List E} {k : Nat} {src steps : Int} {T : Nat}
theorem st_length (h : OkL n es k src steps T) : ∀ t, t ≤ T → (stL n es k src steps t).length = n.toNat
  | 0, _ => start_length n k src
  | t + 1, ht => by rw [stL, next_length (h.2 t (by omega)), st_length h t (by omega)]
theorem st_get (h : OkL n es k src steps T) {t v : Nat} (ht : t ≤ T) (hv : v < n.toNat) : (stL n es k src steps t)[v]? = some (vxL n es k src steps t v) := by
  unfold vxL
  rw [List.getElem?_eq_getElem (by rw [st_length h t ht]; exact hv)]; rfl
theorem st_mem (h : OkL n es k src steps T) {t v : Nat} (ht : t ≤ T) (hv : v < n.toNat) : vxL n es k src steps t v ∈ stL n es k src steps t := List.mem_of_getElem? (st_get h ht hv)
theorem vx_next (h : OkL n es k src steps T) {t v : Nat} (ht : t < T) (hv : v < n.toNat) : vxL n es k src steps (t + 1) v = cameV n es k src steps t (stL n es k src steps t) (vxL n es k src steps t v) := by
  have h1 := st_get h (t := t + 1) (by omega) hv
  rw [stL, next_get (h.2 t ht) (st_get h (by omega) hv)] at h1
  exact (Option.some.inj h1).symm
theorem vx_zero (h : OkL n es k src steps T) {v : Nat} (hv : v < n.toNat) : vxL n es k src steps 0 v = ⟨(v : Int), firstV k src v, true, false, 0⟩ := by
  have h1 := st_get h (t := 0) (by omega) hv
  rw [stL, start_get hv] at h1
  exact (Option.some.inj h1).symm
theorem vx_id (h : OkL n es k src steps T) : ∀ t, t ≤ T → ∀ v, v < n.toNat → (vxL n es k src steps t v).id = (v : Int)
  | 0, _, v, hv => by rw [vx_zero h hv]
  | t + 1, ht, v, hv => by rw [vx_next h (by omega) hv, cameV_id (h.2 t (by omega)) (st_mem h (by omega) hv), vx_id h t (by omega) v hv]
theorem vx_step (h : OkL n es k src steps T) {t v : Nat} (ht : t < T) (hv : v < n.toNat) : (stepL n es k src steps t (vxL n es k src steps t v)).2.2 = 0 := (next_ok (h.2 t ht)).2.2.1 _ (st_mem h (by omega) hv)
theorem vx_came (h : OkL n es k src steps T) {t v : Nat} (ht : t < T) (hv : v < n.toNat) : (cameL k (sentL n es k src steps t (stL n es k src steps t)) v).2.2 = 0 := by
  have := (next_ok (h.2 t ht)).2.2.2.1 _ (st_mem h (t := t) (by omega) hv)
  rwa [vx_id h t (by omega) v hv] at this
theorem vx_of (h : OkL n es k src steps T) {t : Nat} (ht : t ≤ T) {x : Vx} (hx : x ∈ stL n es k src steps t) : ∃ v, v < n.toNat ∧ x = vxL n es k src steps t v := by
  obtain ⟨v, hv⟩ := List.getElem?_of_mem hx
  have hl := (List.getElem?_eq_some_iff.1 hv).1
  rw [st_length h t ht] at hl
  exact ⟨v, hl, by have := st_get h ht hl; rw [hv] at this; exact Option.some.inj this⟩
theorem src_at (h : OkL n es k src steps T) (hk : k = 3 ∨ k = 4) {v : Nat} (hv : v < n.toNat) (hs : (vxL n es k src steps 0 v).id = src) : (vxL n es k src steps 0 v).val = 0 := by
  rw [vx_zero h hv] at hs ⊢
  have hs' : (v : Int) = src := hs
  rcases hk with rfl | rfl <;> simp [firstV, hs']
/-- Who tells its neighbours in step t. -/
def tlL (n : Int) (es : List E) (k : Nat) (src steps : Int) (t v : Nat) : Bool := if t = 0 then tellK k src (vxL n es k src steps 0 v) else betK k (vxL n es k src steps t v)
theorem vx_act (h : OkL n es k src steps T) (hk : K4 k) : ∀ t, 1 ≤ t → t ≤ T → ∀ v, v < n.toNat → (vxL n es k src steps t v).act = false
  | 0, h0, _, _, _ => absurd h0 (by omega)
  | 1, _, ht, v, hv => by
    rw [vx_next h (by omega) hv]
    have h1 := vx_step h (t := 0) (by omega) hv
    have h2 := turn_first hk (x := vxL n es k src steps 0 v) (by rw [vx_zero h hv]) (by rw [vx_zero h hv]) (fun hk3 hs => src_at h hk3 hv hs) h1
    show (stepL n es k src steps ((0 : Nat) : Int) _).1.act = false
    rw [show ((0 : Nat) : Int) = 0 from rfl, h2]
  | t + 2, _, ht, v, hv => by
    rw [vx_next h (by omega) hv]
    exact (turn_later hk (by omega) (vx_act h hk (t + 1) (by omega) (by omega) v hv) (vx_step h (by omega) hv)).2.2.1
/-- What a vertex has behind a step, and what it sends. -/
theorem vx_turn (h : OkL n es k src steps T) (hk : K4 k) {t v : Nat} (ht : t < T) (hv : v < n.toNat) :
    (vxL n es k src steps (t + 1) v).val = (if t ≠ 0 ∧ betK k (vxL n es k src steps t v) = true then (vxL n es k src steps t v).inn else (vxL n es k src steps t v).val) ∧
    (stepL n es k src steps t (vxL n es k src steps t v)).2.1 = if tlL n es k src steps t v = true then sendTo (outL n es v) (fun w => (vxL n es k src steps (t + 1) v).val + lenK k w) else [] := by
  have hval : (vxL n es k src steps (t + 1) v).val = (stepL n es k src steps t (vxL n es k src steps t v)).1.val := by rw [vx_next h ht hv]; rfl
  have hz := vx_step h ht hv
  have hid := vx_id h t (by omega) v hv
  by_cases h0 : t = 0
  · subst h0
    have h2 := turn_first hk (x := vxL n es k src steps 0 v) (by rw [vx_zero h hv]) (by rw [vx_zero h hv]) (fun hk3 hs => src_at h hk3 hv hs) hz
    have hv1 : (vxL n es k src steps (0 + 1) v).val = (vxL n es k src steps 0 v).val := by
      rw [hval, show ((0 : Nat) : Int) = 0 from rfl, h2]
    refine ⟨by rw [if_neg (fun h => h.1 rfl)]; exact hv1, ?_⟩
    unfold tlL
    rw [if_pos rfl, hv1, show ((0 : Nat) : Int) = 0 from rfl, h2, ← hid]
  · have h2 := turn_later hk (at_ := (t : Int)) (by omega) (vx_act h hk t (by omega) (by omega) v hv) hz
    rw [hval, h2.2.1, h2.2.2.2, hid]
    unfold tlL
    rw [if_neg h0]
    by_cases hb : betK k (vxL n es k src steps t v) = true
    · rw [if_pos hb, if_pos ⟨h0, hb⟩, if_pos hb]
      exact ⟨rfl, rfl⟩
    · rw [if_neg hb, if_neg (fun h => hb h.2), if_neg hb, if_neg hb]
      exact ⟨rfl, rfl⟩
theorem sent_mem (h : OkL n es k src steps T) (hk : K4 k) {t : Nat} (ht : t < T) {m : E} : m ∈ sentL n es k src steps t (stL n es k src steps t) ↔ ∃ v, v < n.toNat ∧ tlL n es k src steps t v = true ∧ ∃ e ∈ es, e.1 = (v : Int) ∧ m = (e.1, e.2.1, (vxL n es k src steps (t + 1) v).val + lenK k e.2.2) := by
  have hc := (job_iff.1 h.1).1
  unfold sentL
  rw [List.mem_flatMap]
  constructor
  · rintro ⟨x, hx, hm⟩
    obtain ⟨v, hv, rfl⟩ := vx_of h (by omega) hx
    rw [(vx_turn h hk ht hv).2] at hm
    split at hm
    · rename_i htl
      obtain ⟨e, he, rfl⟩ := send_mem.1 hm
      obtain ⟨he1, he2⟩ := (n_out_mem hc).1 he
      exact ⟨v, hv, htl, e, he1, he2, rfl⟩
    · simp at hm
  · rintro ⟨v, hv, htl, e, he, hev, rfl⟩
    refine ⟨_, st_mem h (t := t) (by omega) hv, ?_⟩
    rw [(vx_turn h hk ht hv).2, if_pos htl]
    exact send_mem.2 ⟨e, (n_out_mem hc).2 ⟨he, hev⟩, rfl⟩
theorem vx_has (h : OkL n es k src steps T) {t v : Nat} (ht : t < T) (hv : v < n.toNat) : ((vxL n es k src steps (t + 1) v).has = true ↔ ∃ m ∈ sentL n es k src steps t (stL n es k src steps t), m.2.1 = (v : Int)) ∧ ((vxL n es k src steps (t + 1) v).has = false → (vxL n es k src steps (t + 1) v).inn = 0) := by
  have hk0 := (job_iff.1 h.1).2.1
  have h1 := came_has hk0 (vx_came h ht hv)
  rw [vx_next h ht hv]
  unfold cameV
  rw [vx_id h t (by omega) v hv]
  exact h1
theorem vx_inn (h : OkL n es k src steps T) (hk : K4 k) {t v : Nat} (ht : t < T) (hv : v < n.toNat) (hh : (vxL n es k src steps (t + 1) v).has = true) :
    (∃ m ∈ sentL n es k src steps t (stL n es k src steps t), m.2.1 = (v : Int) ∧ m.2.2 = (vxL n es k src steps (t + 1) v).inn) ∧
    (∀ m ∈ sentL n es k src steps t (stL n es k src steps t), m.2.1 = (v : Int) → sgK k (vxL n es k src steps (t + 1) v).inn ≤ sgK k m.2.2) ∧ great (vxL n es k src steps (t + 1) v).inn = false := by
  rw [vx_next h ht hv] at hh ⊢
  unfold cameV at hh ⊢
  rw [vx_id h t (by omega) v hv] at hh ⊢
  exact came_least hk (vx_came h ht hv) hh
/-- Of sssp and bfs nothing below 0 is told. -/
theorem vx_pos (h : OkL n es k src steps T) (hk : k = 3 ∨ k = 4) : ∀ t, t < T → (∀ v, v < n.toNat → tlL n es k src steps t v = true → 0 ≤ (vxL n es k src steps (t + 1) v).val) ∧ (∀ v, v < n.toNat → (vxL n es k src steps (t + 1) v).has = true → 0 ≤ (vxL n es k src steps (t + 1) v).inn) := by
  have hk4 : K4 k := by rcases hk with h | h <;> simp [K4, h]
  have hw : ∀ e ∈ es, 0 ≤ lenK k e.2.2 := fun e he => by
    have h1 := ((formed_iff n es).1 (check_zero (job_iff.1 h.1).1).1).2.2.2 e he
    have := (okE_iff n e).1 h1
    rcases hk with rfl | rfl
    · exact this.2.2.2.2.1
    · simp [lenK]
  have hinn : ∀ t, t < T → (∀ v, v < n.toNat → tlL n es k src steps t v = true → 0 ≤ (vxL n es k src steps (t + 1) v).val) → ∀ v, v < n.toNat → (vxL n es k src steps (t + 1) v).has = true → 0 ≤ (vxL n es k src steps (t + 1) v).inn := fun t ht hp v hv hh => by
    obtain ⟨⟨m, hm, _, hmi⟩, _, _⟩ := vx_inn h hk4 ht hv hh
    obtain ⟨u, hu, htl, e, he, _, rfl⟩ := (sent_mem h hk4 ht).1 hm
    rw [← hmi]
    have h1 := hp u hu htl
    have h2 := hw e he
    simp only
    omega
  intro t
  induction t with
  | zero =>
    intro ht
    have hp : ∀ v, v < n.toNat → tlL n es k src steps 0 v = true → 0 ≤ (vxL n es k src steps (0 + 1) v).val := fun v hv htl => by
      rw [(vx_turn h hk4 ht hv).1, if_neg (fun h => h.1 rfl)]
      unfold tlL tellK at htl
      rw [if_pos rfl] at htl
      have hid : (vxL n es k src steps 0 v).id = src := by
        rcases hk with rfl | rfl <;> simpa using htl
      rw [src_at h hk hv hid]
      exact Int.le_refl _
    exact ⟨hp, hinn 0 ht hp⟩
  | succ t ih =>
    intro ht
    have hp : ∀ v, v < n.toNat → tlL n es k src steps (t + 1) v = true → 0 ≤ (vxL n es k src steps (t + 1 + 1) v).val := fun v hv htl => by
      unfold tlL at htl
      rw [if_neg (by omega)] at htl
      rw [(vx_turn h hk4 ht hv).1, if_pos ⟨by omega, htl⟩]
      refine (ih (by omega)).2 v hv ?_
      unfold betK at htl
      rw [Bool.and_eq_true] at htl
      exact htl.1
    exact ⟨hp, hinn (t + 1) ht hp⟩
end
end Go.Proofs.YtapcpmalgdhakaaGreat
/- Layer 9: of max, label, sssp and bfs: the steps of a job as values told along edges. Mathematics alone; no condition. -/
namespace Go.Proofs.YtapcpmalgdhakaaGreat
set_option maxRecDepth 100000

/-- Beyond all values. -/
def BB : Int := 1152921504606846976
/-- What counts of a vertex's value: of max the other way round; of sssp and bfs beyond all, where it isn't reached. -/
def keyK (k : Nat) (x : Vx) : Int := if k = 1 then -x.val else if (k = 3 ∨ k = 4) ∧ x.val < 0 then BB else x.val
def msgK (k : Nat) (x : Vx) : Option Int := if x.has = true then some (sgK k x.inn) else none
def edK (k : Nat) (es : List E) : List (Nat × Nat × Int) := es.map fun e => (e.1.toNat, e.2.1.toNat, lenK k e.2.2)
theorem edK_mem {k : Nat} {es : List E} {e : Nat × Nat × Int} : e ∈ edK k es ↔ ∃ x ∈ es, e = (x.1.toNat, x.2.1.toNat, lenK k x.2.2) := by
  unfold edK; rw [List.mem_map]
  exact ⟨fun ⟨x, hx, h⟩ => ⟨x, hx, h.symm⟩, fun ⟨x, hx, h⟩ => ⟨x, hx, h.symm⟩⟩
section
variable {n : Int} {es : List E} {k : Nat} {src steps : Int} {T : Nat}
theorem es_ok (h : OkL n es k src steps T) {e : E} (he : e ∈ es) : 0 ≤ e.1 ∧ e.1 < n ∧ 0 ≤ e.2.1 ∧ e.2.1 < n ∧ 0 ≤ e.2.2 := by
  have h1 := ((formed_iff n es).1 (check_zero (job_iff.1 h.1).1).1).2.2.2 e he
  have := (okE_iff n e).1 h1
  omega
theorem len_pos {k : Nat} {w : Int} (hw : 0 ≤ w) : 0 ≤ lenK k w := by
  unfold lenK
  split
  · exact hw
  · split <;> decide
/-- Something better came just if less is on its way. -/
theorem bet_iff (h : OkL n es k src steps T) (hk : K4 k) {t v : Nat} (ht : t < T) (hv : v < n.toNat) : betK k (vxL n es k src steps (t + 1) v) = true ↔ ∃ m, msgK k (vxL n es k src steps (t + 1) v) = some m ∧ m < keyK k (vxL n es k src steps (t + 1) v) := by
  have hin := vx_inn h hk ht hv
  have hps := fun hk3 => (vx_pos h hk3 t ht).2 v hv
  obtain ⟨x, hx⟩ : ∃ x, vxL n es k src steps (t + 1) v = x := ⟨_, rfl⟩
  rw [hx] at hin hps ⊢
  unfold betK msgK
  cases hh : x.has with
  | false => simp
  | true =>
    have hg := great_no (hin hh).2.2
    simp only [Bool.true_and, if_true, Option.some.injEq, exists_eq_left']
    unfold sgK keyK
    rcases hk with rfl | rfl | rfl | rfl
    · simp
    · simp
    · have hp := hps (.inl rfl) hh
      by_cases hn : x.val < 0
      · simp [hn, BB]; omega
      · simp [hn]
    · have hp := hps (.inr rfl) hh
      by_cases hn : x.val < 0
      · simp [hn, BB]; omega
      · simp [hn]
theorem tl_key (h : OkL n es k src steps T) (hk : K4 k) {t v : Nat} (ht : t < T) (hv : v < n.toNat) (htl : tlL n es k src steps t v = true) (w : Int) : sgK k ((vxL n es k src steps (t + 1) v).val + lenK k w) = keyK k (vxL n es k src steps (t + 1) v) + lenK k w := by
  have hps := fun hk3 => (vx_pos h hk3 t ht).1 v hv htl
  generalize vxL n es k src steps (t + 1) v = x at *
  unfold sgK keyK
  rcases hk with rfl | rfl | rfl | rfl
  · simp [lenK]
  · simp
  · have := hps (.inl rfl); simp; omega
  · have := hps (.inr rfl); simp; omega
theorem tells_iff (h : OkL n es k src steps T) (hk : K4 k) {t v : Nat} (ht : t ≤ T) (hv : v < n.toNat) : Tells (fun v => tellK k src (vxL n es k src steps 0 v) = true) (fun t v => keyK k (vxL n es k src steps t v)) (fun t v => msgK k (vxL n es k src steps t v)) t v ↔ tlL n es k src steps t v = true := by
  cases t with
  | zero => simp [Tells, tlL]
  | succ t =>
    unfold Tells Imp tlL
    rw [if_neg (by omega)]
    exact (bet_iff h hk (by omega) hv).symm
theorem relaxK (h : OkL n es k src steps T) (hk : K4 k) : Relax n.toNat (edK k es) BB (fun v => tellK k src (vxL n es k src steps 0 v) = true) (fun t v => keyK k (vxL n es k src steps t v)) (fun t v => msgK k (vxL n es k src steps t v)) T where
  edge e he := by
    obtain ⟨x, hx, rfl⟩ := edK_mem.1 he
    have := es_ok h hx
    exact ⟨by simp only; omega, by simp only; omega, len_pos this.2.2.2.2⟩
  start v hv := by
    rw [vx_zero h hv]
    have h1 := (job_iff.1 h.1)
    have h2 : n ≤ 64 := ((formed_iff n es).1 (check_zero h1.1).1).2.1
    unfold tellK keyK
    rcases hk with rfl | rfl | rfl | rfl
    · simp [firstV, BB]; omega
    · simp [firstV, BB]; omega
    · by_cases hs : (v : Int) = src <;> simp [firstV, BB, hs]
    · by_cases hs : (v : Int) = src <;> simp [firstV, BB, hs]
  le v hv := by
    rw [vx_zero h hv]
    have h1 := (job_iff.1 h.1)
    have h2 : n ≤ 64 := ((formed_iff n es).1 (check_zero h1.1).1).2.1
    unfold keyK
    rcases hk with rfl | rfl | rfl | rfl
    · simp [firstV, BB]; omega
    · simp [firstV, BB]; omega
    · by_cases hs : (v : Int) = src <;> simp [firstV, BB, hs]
    · by_cases hs : (v : Int) = src <;> simp [firstV, BB, hs]
  first hT v hv := by
    have h1 := (vx_turn h hk hT hv).1
    rw [if_neg (fun h => h.1 rfl)] at h1
    show keyK k _ = keyK k _
    unfold keyK
    rw [h1]
  next t ht1 htT v hv := by
    obtain ⟨t, rfl⟩ : ∃ s, t = s + 1 := ⟨t - 1, by omega⟩
    have h1 := (vx_turn h hk htT hv).1
    have h2 := bet_iff h hk (t := t) (by omega) hv
    have hin := vx_inn h hk (t := t) (by omega) hv
    have hps := fun hk3 => (vx_pos h hk3 t (by omega)).2 v hv
    show keyK k (vxL n es k src steps (t + 1 + 1) v) = relK (keyK k (vxL n es k src steps (t + 1) v)) (msgK k (vxL n es k src steps (t + 1) v))
    by_cases hb : betK k (vxL n es k src steps (t + 1) v) = true
    · rw [if_pos ⟨by omega, hb⟩] at h1
      obtain ⟨m, hm, hl⟩ := h2.1 hb
      rw [hm, relK_some, if_pos hl]
      unfold msgK at hm
      split at hm
      · rename_i hh
        have hm' := Option.some.inj hm
        rw [← hm']
        unfold keyK sgK
        rw [h1]
        rcases hk with rfl | rfl | rfl | rfl
        · simp
        · simp
        · have := hps (.inl rfl) hh; simp; omega
        · have := hps (.inr rfl) hh; simp; omega
      · cases hm
    · rw [if_neg (fun h => hb h.2)] at h1
      have hk1 : keyK k (vxL n es k src steps (t + 1 + 1) v) = keyK k (vxL n es k src steps (t + 1) v) := by unfold keyK; rw [h1]
      rw [hk1]
      cases hm : msgK k (vxL n es k src steps (t + 1) v) with
      | none => rfl
      | some m => rw [relK_some, if_neg (fun hl => hb (h2.2 ⟨m, hm, hl⟩))]
  from_ t ht v hv m hm := by
    change msgK k (vxL n es k src steps (t + 1) v) = some m at hm
    unfold msgK at hm
    split at hm
    · rename_i hh
      obtain ⟨⟨x, hx, hxv, hxi⟩, _, _⟩ := vx_inn h hk ht hv hh
      obtain ⟨u, hu, htl, e, he, heu, rfl⟩ := (sent_mem h hk ht).1 hx
      have hok := es_ok h he
      refine ⟨(e.1.toNat, e.2.1.toNat, lenK k e.2.2), edK_mem.2 ⟨e, he, rfl⟩, ?_, ?_, ?_⟩
      · simp only at hxv ⊢; omega
      · have : e.1.toNat = u := by omega
        rw [this]
        exact (tells_iff h hk (by omega) hu).2 htl
      · have hu2 : e.1.toNat = u := by omega
        rw [← Option.some.inj hm, ← hxi, hu2]
        exact tl_key h hk ht hu htl e.2.2
    · cases hm
  to_ t ht e he hte := by
    obtain ⟨x, hx, rfl⟩ := edK_mem.1 he
    have hok := es_ok h hx
    have hu : x.1.toNat < n.toNat := by omega
    have hv : x.2.1.toNat < n.toNat := by omega
    have htl := (tells_iff h hk (by omega) hu).1 hte
    have hm : (x.1, x.2.1, (vxL n es k src steps (t + 1) x.1.toNat).val + lenK k x.2.2) ∈ sentL n es k src steps t (stL n es k src steps t) := (sent_mem h hk ht).2 ⟨x.1.toNat, hu, htl, x, hx, by omega, rfl⟩
    have hv2 : x.2.1 = ((x.2.1.toNat : Nat) : Int) := by omega
    have hh := (vx_has h ht hv).1.2 ⟨_, hm, hv2⟩
    refine ⟨_, by show msgK k (vxL n es k src steps (t + 1) x.2.1.toNat) = _; unfold msgK; rw [if_pos hh], ?_⟩
    have h1 := (vx_inn h hk ht hv hh).2.1 _ hm hv2
    rw [tl_key h hk ht hu htl] at h1
    exact h1
end
end Go.Proofs.YtapcpmalgdhakaaGreat
/- Layer 9: what a job comes to: how the steps end, and what holds then of bfs, sssp, label and max. Mathematics alone; no condition. -/
namespace Go.Proofs.YtapcpmalgdhakaaGreat
set_option maxRecDepth 100000

section
variable {n : Int} {es : List E} {k : Nat} {src steps : Int} {T : Nat}
theorem job_n (hj : jobB n es k src steps = true) : 1 ≤ n ∧ n ≤ 64 := by
  have h1 := (formed_iff n es).1 (check_zero (job_iff.1 hj).1).1
  exact ⟨h1.1, h1.2.1⟩
/-- The end of a job of few vertices and many steps. -/
structure EndL (n : Int) (es : List E) (k : Nat) (src steps : Int) (T : Nat) : Prop where
  ok : OkL n es k src steps T
  pos : 0 < T
  none : ∀ v, v < n.toNat → (vxL n es k src steps T v).has = false
variable (h : EndL n es k src steps T) (hk : K4 k)
include h hk
omit hk in
theorem EndL.q {v : Nat} (hv : v < n.toNat) : msgK k (vxL n es k src steps T v) = .none := by
  unfold msgK
  rw [h.none v hv]; rfl
/-- Along each edge no more is had. -/
theorem EndL.along {e : E} (he : e ∈ es) (hB : keyK k (vxL n es k src steps T e.1.toNat) < BB) : keyK k (vxL n es k src steps T e.2.1.toNat) ≤ keyK k (vxL n es k src steps T e.1.toNat) + lenK k e.2.2 := by
  have hr := relaxK h.ok hk
  have hp := h.pos
  obtain ⟨t, rfl⟩ : ∃ t, T = t + 1 := ⟨T - 1, by omega⟩
  have hok := es_ok h.ok he
  rcases hr.along t (by omega) (e.1.toNat, e.2.1.toNat, lenK k e.2.2) (edK_mem.2 ⟨e, he, rfl⟩) hB with h1 | ⟨m, hm, _⟩
  · exact h1
  · have h2 := h.q (v := e.2.1.toNat) (by omega)
    have hm' : msgK k (vxL n es k src steps (t + 1) e.2.1.toNat) = some m := hm
    rw [h2] at hm'; cases hm'
/-- What is had comes from a start, or from one ahead. -/
theorem EndL.behind {v : Nat} (hv : v < n.toNat) : keyK k (vxL n es k src steps T v) = keyK k (vxL n es k src steps 0 v) ∨ ∃ e ∈ es, e.2.1 = (v : Int) ∧ keyK k (vxL n es k src steps T e.1.toNat) + lenK k e.2.2 ≤ keyK k (vxL n es k src steps T v) := by
  rcases (relaxK h.ok hk).behind T (Nat.le_refl _) v hv with h1 | ⟨e, he, hev, h1⟩
  · exact .inl h1
  · obtain ⟨x, hx, rfl⟩ := edK_mem.1 he
    have hok := es_ok h.ok hx
    simp only at hev
    exact .inr ⟨x, hx, by omega, h1⟩
theorem EndL.le_start {v : Nat} (hv : v < n.toNat) : keyK k (vxL n es k src steps T v) ≤ keyK k (vxL n es k src steps 0 v) := (relaxK h.ok hk).le_start T (Nat.le_refl _) v hv
omit h hk in
end
end Go.Proofs.YtapcpmalgdhakaaGreat
/- Layer 9: degree: how many edges come. Mathematics alone; no condition. -/
namespace Go.Proofs.YtapcpmalgdhakaaGreat
set_option maxRecDepth 100000

end Go.Proofs.YtapcpmalgdhakaaGreat
/- Layer 9: what is sent in a step is what comes, and how much it is. Mathematics alone; no condition. -/
namespace Go.Proofs.YtapcpmalgdhakaaGreat
set_option maxRecDepth 100000

section
variable {n : Int} {es : List E} {k : Nat} {src steps at_ : Int} {l : List Vx}
theorem out_small (hj : jobB n es k src steps = true) (q : Int) : (outL n es q).length ≤ es.length := by
  have hc := (job_iff.1 hj).1
  obtain ⟨m, rfl, _, _, _⟩ := norm_small hc
  unfold outL
  rw [Int.toNat_natCast]
  exact Nat.le_trans (List.length_filter_le _ _) (Nat.le_of_eq (norm_perm hc).length_eq)
theorem send_small (o : List E) (f : Int → Int) : (sendTo o f).length ≤ o.length := by unfold sendTo; simp
theorem if_small {c : Prop} [Decidable c] {a b : Int × List E} {N : Nat} (ha : a.2.length ≤ N) (hb : b.2.length ≤ N) : (if c then a else b).2.length ≤ N := by split <;> assumption
theorem ifl_small {c : Prop} [Decidable c] {a b : List E} {N : Nat} (ha : a.length ≤ N) (hb : b.length ≤ N) : (if c then a else b).length ≤ N := by split <;> assumption
theorem run_small (k : Nat) (fi la so ca : Bool) (inn val : Int) (o : List E) : (runL k fi la so ca inn val o).2.length ≤ o.length := by
  have h0 : ([] : List E).length ≤ o.length := Nat.zero_le _
  have h1 : ∀ b, (bestL fi ca b inn val o).2.length ≤ o.length := fun b => by
    unfold bestL
    repeat' first | exact send_small _ _ | exact h0 | exact send_small o _ | (dsimp only; exact send_small o _) | apply if_small | apply ifl_small
  have h2 : ∀ g, (nearL fi so ca inn val g o).2.length ≤ o.length := fun g => by
    unfold nearL
    repeat' first | exact send_small _ _ | exact h0 | exact send_small o _ | (dsimp only; exact send_small o _) | apply if_small | apply ifl_small
  have h3 : (degL fi ca inn val o).2.length ≤ o.length := by
    unfold degL
    repeat' first | exact send_small _ _ | exact h0 | exact send_small o _ | (dsimp only; exact send_small o _) | apply if_small | apply ifl_small
  have h4 : (walkL fi ca inn val o).2.length ≤ o.length := by
    unfold walkL
    repeat' first | exact send_small _ _ | exact h0 | exact send_small o _ | (dsimp only; exact send_small o _) | apply if_small | apply ifl_small
  have h5 : (rankL fi la inn val o).2.length ≤ o.length := by
    unfold rankL
    repeat' first | exact send_small _ _ | exact h0 | exact send_small o _ | (dsimp only; exact send_small o _) | apply if_small | apply ifl_small
  unfold runL
  repeat' split
  all_goals first | exact h1 _ | exact h2 _ | exact h3 | exact h4 | exact h5 | exact h0
/-- A step sends no more than there are edges. -/
theorem step_small (x : Vx) : (stepL n es k src steps at_ x).2.1.length ≤ es.length := by
  unfold stepL
  split
  · exact Nat.zero_le _
  rename_i h1
  split
  · exact Nat.zero_le _
  split
  · exact Nat.zero_le _
  dsimp only
  split
  · exact Nat.zero_le _
  · have hj : jobB n es k src steps = true := by
      rw [Bool.not_eq_false] at h1
      unfold mayB at h1
      simp only [Bool.and_eq_true] at h1
      exact h1.1.1.1.1
    unfold turnL
    exact Nat.le_trans (run_small ..) (out_small hj x.id)
theorem sent_small : ∀ l : List Vx, (sentL n es k src steps at_ l).length ≤ l.length * es.length
  | [] => by simp [sentL]
  | x :: r => by
    have ih := sent_small r
    have h1 := step_small (n := n) (es := es) (k := k) (src := src) (steps := steps) (at_ := at_) x
    unfold sentL at ih ⊢
    rw [List.flatMap_cons, List.length_append, List.length_cons, Nat.add_mul, Nat.one_mul]
    omega
end
end Go.Proofs.YtapcpmalgdhakaaGreat
