/- Plain mathematics: one proof of many leaves, as the document's chapter 4 says it. No condition. -/
import Derived.Test.YtdemoidmhmdgkaaDoorTUps
namespace Many
open Go.Proofs.YtdemoidmhmdgkaaDoor

/-- Places that rise, from one to below another one. -/
def Rise : Nat → Nat → List Nat → Prop
  | _, _, [] => True
  | lo, hi, x :: xs => lo ≤ x ∧ x < hi ∧ Rise (x + 1) hi xs
theorem Rise.mono {lo lo' hi : Nat} {l : List Nat} (h : Rise lo hi l) (hl : lo' ≤ lo) : Rise lo' hi l := by
  cases l with
  | nil => trivial
  | cons x xs => exact ⟨by have := h.1; omega, h.2.1, h.2.2⟩
theorem Rise.mem {hi : Nat} : ∀ {l : List Nat} {lo : Nat}, Rise lo hi l → ∀ x ∈ l, lo ≤ x ∧ x < hi
  | [], _, _, _, hx => by simp at hx
  | y :: ys, lo, h, x, hx => by
    rcases List.mem_cons.1 hx with rfl | hx
    · exact ⟨h.1, h.2.1⟩
    · have := Rise.mem h.2.2 x hx
      have := h.1
      omega
def belowN (mid : Nat) : List Nat → Nat
  | [] => 0
  | x :: xs => if x < mid then belowN mid xs + 1 else 0
theorem belowN_le (mid : Nat) : ∀ l, belowN mid l ≤ l.length
  | [] => Nat.le_refl _
  | x :: xs => by
    unfold belowN
    split
    · have := belowN_le mid xs; simp; omega
    · simp
theorem rise_take (mid : Nat) {hi : Nat} : ∀ {l : List Nat} {lo : Nat}, Rise lo hi l → Rise lo mid (l.take (belowN mid l))
  | [], _, _ => trivial
  | x :: xs, lo, h => by
    unfold belowN
    split
    · rw [List.take_succ_cons]; exact ⟨h.1, by assumption, rise_take mid h.2.2⟩
    · rw [List.take_zero]; trivial
theorem rise_drop (mid : Nat) {hi : Nat} : ∀ {l : List Nat} {lo : Nat}, Rise lo hi l → Rise mid hi (l.drop (belowN mid l))
  | [], _, _ => trivial
  | x :: xs, lo, h => by
    unfold belowN
    split
    · rw [List.drop_succ_cons]; exact rise_drop mid h.2.2
    · rw [List.drop_zero]; exact ⟨by omega, h.2.1, h.2.2⟩
/-- The parts in which none is asked for: where each begins, and how many leaves it has. -/
def parts (first n : Nat) (at_ : List Nat) : List (Nat × Nat) :=
  if at_ = [] then [(first, n)] else if _h : n < 2 then []
  else parts first (Tree.half n) (at_.take (belowN (first + Tree.half n) at_)) ++ parts (first + Tree.half n) (n - Tree.half n) (at_.drop (belowN (first + Tree.half n) at_))
termination_by n
decreasing_by
  · exact Tree.half_lt (by omega)
  · have := Tree.half_pos n; omega
theorem parts_nil (first n : Nat) : parts first n [] = [(first, n)] := by rw [parts, if_pos rfl]
theorem parts_small {first n : Nat} {at_ : List Nat} (h : at_ ≠ []) (h2 : n < 2) : parts first n at_ = [] := by rw [parts, if_neg h, dif_pos h2]
theorem parts_more {first n : Nat} {at_ : List Nat} (h : at_ ≠ []) (h2 : ¬ n < 2) : parts first n at_ = parts first (Tree.half n) (at_.take (belowN (first + Tree.half n) at_)) ++ parts (first + Tree.half n) (n - Tree.half n) (at_.drop (belowN (first + Tree.half n) at_)) := by rw [parts, if_neg h, dif_neg h2]
/-- How many leaves are asked for. -/
def asks (first n : Nat) (at_ : List Nat) : Nat :=
  if at_ = [] then 0 else if _h : n < 2 then 1
  else asks first (Tree.half n) (at_.take (belowN (first + Tree.half n) at_)) + asks (first + Tree.half n) (n - Tree.half n) (at_.drop (belowN (first + Tree.half n) at_))
termination_by n
decreasing_by
  · exact Tree.half_lt (by omega)
  · have := Tree.half_pos n; omega
theorem asks_nil (first n : Nat) : asks first n [] = 0 := by rw [asks, if_pos rfl]
theorem asks_small {first n : Nat} {at_ : List Nat} (h : at_ ≠ []) (h2 : n < 2) : asks first n at_ = 1 := by rw [asks, if_neg h, dif_pos h2]
theorem asks_more {first n : Nat} {at_ : List Nat} (h : at_ ≠ []) (h2 : ¬ n < 2) : asks first n at_ = asks first (Tree.half n) (at_.take (belowN (first + Tree.half n) at_)) + asks (first + Tree.half n) (n - Tree.half n) (at_.drop (belowN (first + Tree.half n) at_)) := by rw [asks, if_neg h, dif_neg h2]
/-- The top that leaves and sums come to. -/
def chk (first n : Nat) (at_ : List Nat) (hs ss : List (List Nat)) : List Nat :=
  if at_ = [] then hs.headD [] else if _h : n < 2 then Tree.leaf (ss.headD [])
  else Tree.node (chk first (Tree.half n) (at_.take (belowN (first + Tree.half n) at_)) hs ss)
    (chk (first + Tree.half n) (n - Tree.half n) (at_.drop (belowN (first + Tree.half n) at_)) (hs.drop (parts first (Tree.half n) (at_.take (belowN (first + Tree.half n) at_))).length) (ss.drop (asks first (Tree.half n) (at_.take (belowN (first + Tree.half n) at_)))))
termination_by n
decreasing_by
  · exact Tree.half_lt (by omega)
  · have := Tree.half_pos n; omega
theorem chk_nil (first n : Nat) (hs ss : List (List Nat)) : chk first n [] hs ss = hs.headD [] := by rw [chk, if_pos rfl]
theorem chk_small {first n : Nat} {at_ : List Nat} (hs ss : List (List Nat)) (h : at_ ≠ []) (h2 : n < 2) : chk first n at_ hs ss = Tree.leaf (ss.headD []) := by rw [chk, if_neg h, dif_pos h2]
theorem chk_more {first n : Nat} {at_ : List Nat} (hs ss : List (List Nat)) (h : at_ ≠ []) (h2 : ¬ n < 2) : chk first n at_ hs ss = Tree.node (chk first (Tree.half n) (at_.take (belowN (first + Tree.half n) at_)) hs ss)
    (chk (first + Tree.half n) (n - Tree.half n) (at_.drop (belowN (first + Tree.half n) at_)) (hs.drop (parts first (Tree.half n) (at_.take (belowN (first + Tree.half n) at_))).length) (ss.drop (asks first (Tree.half n) (at_.take (belowN (first + Tree.half n) at_))))) := by rw [chk, if_neg h, dif_neg h2]
theorem asks_len : ∀ (n first : Nat) (at_ : List Nat), Rise first (first + n) at_ → asks first n at_ = at_.length := by
  intro n
  induction n using Nat.strongRecOn with
  | _ n ih =>
    intro first at_ hr
    by_cases h : at_ = []
    · subst h; rw [asks_nil]; rfl
    · by_cases h2 : n < 2
      · rw [asks_small h h2]
        cases at_ with
        | nil => exact absurd rfl h
        | cons x xs =>
          cases xs with
          | nil => rfl
          | cons y ys =>
            obtain ⟨h1, h3, h4, h5, _⟩ := hr
            omega
      · have hh := Tree.half_lt (n := n) (by omega)
        have hp := Tree.half_pos n
        rw [asks_more h h2, ih _ hh _ _ (rise_take _ hr), ih _ (by omega) _ _ (by have := rise_drop (first + Tree.half n) hr; rwa [show first + n = first + Tree.half n + (n - Tree.half n) by omega] at this), ← List.length_append, List.take_append_drop]
/-- What a top comes to hangs on the sums and leaves that are wanted alone. -/
theorem chk_app : ∀ (n first : Nat) (at_ : List Nat) (hs ss hs' ss' : List (List Nat)), (parts first n at_).length = hs.length → asks first n at_ = ss.length → chk first n at_ (hs ++ hs') (ss ++ ss') = chk first n at_ hs ss := by
  intro n
  induction n using Nat.strongRecOn with
  | _ n ih =>
    intro first at_ hs ss hs' ss' h1 h2
    by_cases h : at_ = []
    · subst h
      rw [parts_nil] at h1
      rw [chk_nil, chk_nil]
      cases hs with
      | nil => simp at h1
      | cons x xs => rfl
    · by_cases hn : n < 2
      · rw [asks_small h hn] at h2
        rw [chk_small _ _ h hn, chk_small _ _ h hn]
        cases ss with
        | nil => simp at h2
        | cons x xs => rfl
      · have hh := Tree.half_lt (n := n) (by omega)
        have hp := Tree.half_pos n
        rw [parts_more h hn, List.length_append] at h1
        rw [asks_more h hn] at h2
        rw [chk_more _ _ h hn, chk_more _ _ h hn]
        generalize hk : Tree.half n = k at *
        generalize ha : at_.take (belowN (first + k) at_) = al at *
        generalize hb : at_.drop (belowN (first + k) at_) = ar at *
        obtain ⟨pl, hpl⟩ : ∃ x, x = (parts first k al).length := ⟨_, rfl⟩
        obtain ⟨ql, hql⟩ : ∃ x, x = asks first k al := ⟨_, rfl⟩
        rw [← hpl] at h1
        rw [← hql] at h2
        rw [← hpl, ← hql]
        have e1 := ih k hh first al (hs.take pl) (ss.take ql) (hs.drop pl ++ hs') (ss.drop ql ++ ss') (by rw [← hpl]; simp; omega) (by rw [← hql]; simp; omega)
        have e2 := ih k hh first al (hs.take pl) (ss.take ql) (hs.drop pl) (ss.drop ql) (by rw [← hpl]; simp; omega) (by rw [← hql]; simp; omega)
        rw [← List.append_assoc, ← List.append_assoc, List.take_append_drop, List.take_append_drop] at e1
        rw [List.take_append_drop, List.take_append_drop] at e2
        rw [e1, e2, List.drop_append_of_le_length (by omega), List.drop_append_of_le_length (by omega)]
        rw [ih (n - k) (by omega) (first + k) ar (hs.drop pl) (ss.drop ql) hs' ss' (by simp; omega) (by simp; omega)]
def topP (l : List (List Nat)) (x : Nat × Nat) : List Nat := Tree.top ((l.drop x.1).take x.2)
def provesL (l : List (List Nat)) (at_ : List Nat) : List (List Nat) := (parts 0 l.length at_).map (topP l)
/-- A proof comes to the top. -/
theorem chk_proof (l : List (List Nat)) : ∀ (n first : Nat) (at_ : List Nat), Rise first (first + n) at_ → first + n ≤ l.length → chk first n at_ ((parts first n at_).map (topP l)) (at_.map (fun x => l.getD x [])) = Tree.top ((l.drop first).take n) := by
  intro n
  induction n using Nat.strongRecOn with
  | _ n ih =>
    intro first at_ hr hl
    by_cases h : at_ = []
    · subst h; rw [parts_nil, chk_nil]; rfl
    · by_cases hn : n < 2
      · rw [chk_small _ _ h hn]
        cases at_ with
        | nil => exact absurd rfl h
        | cons x xs =>
          obtain ⟨h1, h3, _⟩ := hr
          obtain rfl : n = 1 := by omega
          obtain rfl : x = first := by omega
          have hg : (l.drop x).take 1 = [l.getD x []] := by
            rw [List.getD_eq_getElem?_getD, List.getElem?_eq_getElem (by omega), List.take_one, List.head?_drop, List.getElem?_eq_getElem (by omega)]
            simp
          rw [hg, Tree.top_one]; rfl
      · have hh := Tree.half_lt (n := n) (by omega)
        have hp := Tree.half_pos n
        have hrl := rise_take (first + Tree.half n) hr
        have hrr := rise_drop (first + Tree.half n) hr
        have hlen : ((l.drop first).take n).length = n := by simp; omega
        have ht := Tree.top_more (l := (l.drop first).take n) (by omega)
        rw [hlen] at ht
        rw [chk_more _ _ h hn, parts_more h hn, ht]
        generalize Tree.half n = k at *
        generalize ha : at_.take (belowN (first + k) at_) = al at *
        generalize hb : at_.drop (belowN (first + k) at_) = ar at *
        have hat : at_ = al ++ ar := by rw [← ha, ← hb, List.take_append_drop]
        have hal := asks_len k first al hrl
        rw [hat, List.map_append, List.map_append, chk_app k first al _ _ _ _ (by simp) (by rw [hal]; simp), ih k hh first al hrl (by omega)]
        rw [List.drop_left' (by simp), List.drop_left' (by rw [hal]; simp), ih (n - k) (by omega) (first + k) ar (by rwa [show first + k + (n - k) = first + n by omega]) (by omega)]
        rw [List.take_take, Nat.min_eq_left (by omega), List.drop_take, List.drop_drop]
theorem belowN_one (mid p : Nat) : belowN mid [p] = if p < mid then 1 else 0 := by unfold belowN; split <;> rfl
/-- Of one leaf there are as many sums as in chapter 3. -/
theorem parts_one : ∀ (n first p : Nat), (parts first n [p]).length = (Tree.path first n p).length := by
  intro n
  induction n using Nat.strongRecOn with
  | _ n ih =>
    intro first p
    by_cases hn : n < 2
    · rw [parts_small (by simp) hn, Tree.path_small hn]; rfl
    · have hh := Tree.half_lt (n := n) (by omega)
      have hp := Tree.half_pos n
      rw [parts_more (by simp) hn, belowN_one]
      by_cases h : p < first + Tree.half n
      · rw [if_pos h, Tree.path_left (by omega) h]
        simp [ih _ hh, parts_nil]
      · rw [if_neg h, Tree.path_right (by omega) h]
        simp [ih (n - Tree.half n) (by omega), parts_nil]
theorem ups_eq_chk (l : List (List Nat)) (s : List Nat) : ∀ (n first p : Nat), ups (Tree.leaf s) (Tree.path first n p) ((Tree.path first n p).map (topOf l)) = chk first n [p] ((parts first n [p]).map (topP l)) [s] := by
  intro n
  induction n using Nat.strongRecOn with
  | _ n ih =>
    intro first p
    by_cases hn : n < 2
    · rw [chk_small _ _ (by simp) hn, Tree.path_small hn]; rfl
    · have hh := Tree.half_lt (n := n) (by omega)
      have hp := Tree.half_pos n
      rw [parts_more (by simp) hn, chk_more _ _ (by simp) hn, belowN_one]
      by_cases h : p < first + Tree.half n
      · rw [if_pos h, Tree.path_left (by omega) h, List.map_append, List.map_singleton, ups_append _ _ _ _ _ (by simp), ih _ hh]
        have e := chk_app (Tree.half n) first [p] ((parts first (Tree.half n) [p]).map (topP l)) [s] [topP l (first + Tree.half n, n - Tree.half n)] [] (by simp) (by
          have : ∀ m f, asks f m [p] = 1 := by
            intro m
            induction m using Nat.strongRecOn with
            | _ m ihm =>
              intro f
              by_cases hm : m < 2
              · rw [asks_small (by simp) hm]
              · have := Tree.half_lt (n := m) (by omega)
                have := Tree.half_pos m
                rw [asks_more (by simp) hm, belowN_one]
                by_cases h' : p < f + Tree.half m
                · rw [if_pos h']; simp [ihm _ (Tree.half_lt (by omega)), asks_nil]
                · rw [if_neg h']; simp [ihm (m - Tree.half m) (by omega), asks_nil]
          rw [this]; rfl)
        rw [List.append_nil] at e
        unfold Tree.step topOf
        rw [if_neg (by simp)]
        simp only [List.take_succ_cons, List.take_zero, List.drop_succ_cons, List.drop_zero, parts_nil, List.map_append, List.map_cons, List.map_nil]
        rw [e, chk_nil, List.drop_left' (by simp)]
        unfold topP
        rw [show first + n - (first + Tree.half n) = n - Tree.half n by omega]; rfl
      · rw [if_neg h, Tree.path_right (by omega) h, List.map_append, List.map_singleton, ups_append _ _ _ _ _ (by simp), ih (n - Tree.half n) (by omega)]
        unfold Tree.step topOf
        rw [if_pos rfl]
        simp only [List.take_zero, List.drop_zero, parts_nil, List.map_cons, chk_nil, asks_nil, List.length_cons, List.length_nil, List.drop_succ_cons, List.cons_append, List.nil_append]
        unfold topP
        rw [show first + Tree.half n - first = Tree.half n by omega]; rfl
/-- Where more leaves are asked for there are no more sums. -/
theorem parts_sum : ∀ (n first : Nat) (at_ : List Nat), Rise first (first + n) at_ → at_ ≠ [] → (parts first n at_).length ≤ (at_.map (fun x => (Tree.path first n x).length)).sum := by
  intro n
  induction n using Nat.strongRecOn with
  | _ n ih =>
    intro first at_ hr h
    by_cases hn : n < 2
    · rw [parts_small h hn]; simp
    · have hh := Tree.half_lt (n := n) (by omega)
      have hp := Tree.half_pos n
      have hrl := rise_take (first + Tree.half n) hr
      have hrr := rise_drop (first + Tree.half n) hr
      rw [parts_more h hn, List.length_append]
      have hl : ∀ x ∈ at_.take (belowN (first + Tree.half n) at_), (Tree.path first n x).length = (Tree.path first (Tree.half n) x).length + 1 := fun x hx => by
        rw [Tree.path_left (by omega) (hrl.mem x hx).2]; simp
      have hrx : ∀ x ∈ at_.drop (belowN (first + Tree.half n) at_), (Tree.path first n x).length = (Tree.path (first + Tree.half n) (n - Tree.half n) x).length + 1 := fun x hx => by
        rw [Tree.path_right (by omega) (by have := (hrr.mem x hx).1; omega)]; simp
      have hsum : (at_.map (fun x => (Tree.path first n x).length)).sum = ((at_.take (belowN (first + Tree.half n) at_)).map (fun x => (Tree.path first (Tree.half n) x).length + 1)).sum + ((at_.drop (belowN (first + Tree.half n) at_)).map (fun x => (Tree.path (first + Tree.half n) (n - Tree.half n) x).length + 1)).sum := by
        rw [← List.map_congr_left hl, ← List.map_congr_left hrx, ← List.sum_append, ← List.map_append, List.take_append_drop]
      have hne : at_.take (belowN (first + Tree.half n) at_) ≠ [] ∨ at_.drop (belowN (first + Tree.half n) at_) ≠ [] := by
        by_cases e1 : at_.take (belowN (first + Tree.half n) at_) = []
        · right; intro e2; apply h; rw [← List.take_append_drop (belowN (first + Tree.half n) at_) at_, e1, e2]; rfl
        · exact .inl e1
      rw [hsum]
      have more : ∀ (f : Nat → Nat) (l : List Nat), (l.map (fun x => f x + 1)).sum = (l.map f).sum + l.length := fun f l => by
        induction l with
        | nil => rfl
        | cons x xs ih => simp [ih]; omega
      rw [more (fun x => (Tree.path first (Tree.half n) x).length), more (fun x => (Tree.path (first + Tree.half n) (n - Tree.half n) x).length)]
      have rr : Rise (first + Tree.half n) (first + Tree.half n + (n - Tree.half n)) (at_.drop (belowN (first + Tree.half n) at_)) := by rwa [show first + Tree.half n + (n - Tree.half n) = first + n by omega]
      generalize at_.take (belowN (first + Tree.half n) at_) = al at *
      generalize at_.drop (belowN (first + Tree.half n) at_) = ar at *
      have hA : (parts first (Tree.half n) al).length ≤ (al.map (fun x => (Tree.path first (Tree.half n) x).length)).sum + (if al = [] then 1 else 0) := by
        by_cases e : al = []
        · subst e; rw [parts_nil]; simp
        · rw [if_neg e]; have := ih _ hh first al hrl e; omega
      have hB : (parts (first + Tree.half n) (n - Tree.half n) ar).length ≤ (ar.map (fun x => (Tree.path (first + Tree.half n) (n - Tree.half n) x).length)).sum + (if ar = [] then 1 else 0) := by
        by_cases e : ar = []
        · subst e; rw [parts_nil]; simp
        · rw [if_neg e]; have := ih (n - Tree.half n) (by omega) (first + Tree.half n) ar rr e; omega
      have la : al ≠ [] → 1 ≤ al.length := fun e => List.length_pos_iff.2 e
      have lb : ar ≠ [] → 1 ≤ ar.length := fun e => List.length_pos_iff.2 e
      by_cases e1 : al = []
      · have e2 : ar ≠ [] := hne.resolve_left (fun h => h e1)
        have := lb e2
        rw [if_pos e1] at hA; rw [if_neg e2] at hB; omega
      · have := la e1
        rw [if_neg e1] at hA
        by_cases e2 : ar = []
        · rw [if_pos e2] at hB; omega
        · rw [if_neg e2] at hB; omega
/-- How many parts there may be. -/
theorem parts_le : ∀ (n first : Nat) (at_ : List Nat), 1 ≤ n → (parts first n at_).length ≤ n := by
  intro n
  induction n using Nat.strongRecOn with
  | _ n ih =>
    intro first at_ h1
    by_cases h : at_ = []
    · subst h; rw [parts_nil]; simpa using h1
    · by_cases hn : n < 2
      · rw [parts_small h hn]; simp
      · have hh := Tree.half_lt (n := n) (by omega)
        have hp := Tree.half_pos n
        have e1 := ih _ hh first (at_.take (belowN (first + Tree.half n) at_)) hp
        have e2 := ih (n - Tree.half n) (by omega) (first + Tree.half n) (at_.drop (belowN (first + Tree.half n) at_)) (by omega)
        rw [parts_more h hn, List.length_append]
        omega
theorem parts_le' (n first : Nat) (at_ : List Nat) : (parts first n at_).length ≤ n + 1 := by
  by_cases h : 1 ≤ n
  · have := parts_le n first at_ h; omega
  · by_cases h2 : at_ = []
    · subst h2; rw [parts_nil]; simp
    · rw [parts_small h2 (by omega)]; simp
theorem parts_in : ∀ (n first : Nat) (at_ : List Nat), ∀ x ∈ parts first n at_, first ≤ x.1 ∧ x.1 + x.2 ≤ first + n := by
  intro n
  induction n using Nat.strongRecOn with
  | _ n ih =>
    intro first at_ x hx
    by_cases h : at_ = []
    · subst h; rw [parts_nil] at hx; simp at hx; subst hx; exact ⟨Nat.le_refl _, Nat.le_refl _⟩
    · by_cases hn : n < 2
      · rw [parts_small h hn] at hx; simp at hx
      · have hh := Tree.half_lt (n := n) (by omega)
        have hp := Tree.half_pos n
        rw [parts_more h hn, List.mem_append] at hx
        rcases hx with hx | hx
        · have := ih _ hh _ _ x hx; omega
        · have := ih (n - Tree.half n) (by omega) _ _ x hx; omega
/-- Do places rise? -/
def risesB (n : Int) : Int → List Int → Bool
  | _, [] => true
  | last, x :: xs => decide (last < x) && decide (x < n) && risesB n x xs
def ofN (l : List Nat) : List Int := l.map (fun y : Nat => (y : Int))
theorem rises_nat (n : Int) : ∀ (xs : List Int) (last : Int), -1 ≤ last → risesB n last xs = true → ∃ ys : List Nat, xs = ofN ys ∧ Rise (last + 1).toNat n.toNat ys
  | [], _, _, _ => ⟨[], rfl, trivial⟩
  | x :: xs, last, hl, h => by
    simp only [risesB, Bool.and_eq_true, decide_eq_true_eq] at h
    obtain ⟨ys, rfl, hr⟩ := rises_nat n xs x (by omega) h.2
    refine ⟨x.toNat :: ys, ?_, by omega, by omega, ?_⟩
    · simp only [ofN, List.map_cons]; rw [Int.toNat_of_nonneg (by omega)]
    · rwa [show (x + 1).toNat = x.toNat + 1 by omega] at hr
theorem rises_of (n : Nat) : ∀ (ys : List Nat) (last : Int), Rise (last + 1).toNat n ys → -1 ≤ last → risesB (n : Int) last (ofN ys) = true
  | [], _, _, _ => rfl
  | y :: ys, last, h, hl => by
    obtain ⟨h1, h2, h3⟩ := h
    simp only [ofN, List.map_cons, risesB, Bool.and_eq_true, decide_eq_true_eq]
    exact ⟨⟨by omega, by omega⟩, rises_of n ys y (by rwa [show ((y : Int) + 1).toNat = y + 1 by omega]) (by omega)⟩
end Many
