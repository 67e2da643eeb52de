/- Messages in order: mathematics. No condition. -/
import Derived.Test.YtapcpmalgdhakaaGreatSMath
namespace Go.Proofs.YtapcpmalgdhakaaGreat
set_option maxRecDepth 100000

/-- The order of messages: by To, then by From, then by Val. -/
def lessM (a b : E) : Bool := if a.2.1 = b.2.1 then (if a.1 = b.1 then decide (a.2.2 < b.2.2) else decide (a.1 < b.1)) else decide (a.2.1 < b.2.1)
theorem lessM_iff (a b : E) : lessM a b = true ↔ a.2.1 < b.2.1 ∨ (a.2.1 = b.2.1 ∧ (a.1 < b.1 ∨ (a.1 = b.1 ∧ a.2.2 < b.2.2))) := by
  unfold lessM
  split
  · split <;> simp only [decide_eq_true_eq] <;> omega
  · simp only [decide_eq_true_eq]; omega
theorem lessM_no (a b : E) : lessM a b = false ↔ b.2.1 < a.2.1 ∨ (b.2.1 = a.2.1 ∧ (b.1 < a.1 ∨ (b.1 = a.1 ∧ b.2.2 ≤ a.2.2))) := by
  rw [← Bool.not_eq_true, lessM_iff]; omega
def leM (a b : E) : Prop := lessM b a = false
theorem leM_iff (a b : E) : leM a b ↔ a.2.1 < b.2.1 ∨ (a.2.1 = b.2.1 ∧ (a.1 < b.1 ∨ (a.1 = b.1 ∧ a.2.2 ≤ b.2.2))) := lessM_no b a
theorem leM_trans {a b c : E} (h : leM a b) (k : leM b c) : leM a c := by rw [leM_iff] at *; omega
theorem leM_anti {a b : E} (h : leM a b) (k : leM b a) : a = b := by
  rw [leM_iff] at h k
  exact Prod.ext (by omega) (Prod.ext (by omega) (by omega))
theorem leM_of_less {a b : E} (h : lessM a b = true) : leM a b := by rw [lessM_iff] at h; rw [leM_iff]; omega
theorem sortedM_eq : ∀ (l m : List E), l.Perm m → l.Pairwise leM → m.Pairwise leM → l = m
  | [], m, h, _, _ => (List.Perm.nil_eq h)
  | a :: l, [], h, _, _ => absurd h.length_eq (by simp)
  | a :: l, b :: m, h, h1, h2 => by
    obtain ⟨h1a, k1⟩ := List.pairwise_cons.1 h1
    obtain ⟨h2b, k2⟩ := List.pairwise_cons.1 h2
    have hab : a = b := by
      rcases List.mem_cons.1 (h.mem_iff.1 (List.mem_cons_self (a := a) (l := l))) with e | e
      · exact e
      rcases List.mem_cons.1 (h.mem_iff.2 (List.mem_cons_self (a := b) (l := m))) with e' | e'
      · exact e'.symm
      exact leM_anti (h1a b e') (h2b a e)
    subst hab
    rw [sortedM_eq l m (List.Perm.cons_inv h) k1 k2]
/-- A message put in behind all that aren't greater. -/
def insM (x : E) : List E → List E
  | [] => [x]
  | y :: ys => if lessM x y = true then x :: y :: ys else y :: insM x ys
theorem insM_at (x : E) : ∀ (l : List E) (k : Nat), k ≤ l.length → (∀ j y, j < k → l[j]? = some y → lessM x y = false) → (∀ y, l[k]? = some y → lessM x y = true) → insM x l = l.take k ++ [x] ++ l.drop k
  | [], k, hk, _, _ => by
    obtain rfl : k = 0 := by simpa using hk
    rfl
  | y :: ys, 0, _, _, h2 => by
    have := h2 y rfl
    simp [insM, this]
  | y :: ys, k + 1, hk, h1, h2 => by
    have h := h1 0 y (Nat.succ_pos _) rfl
    have ih := insM_at x ys k (by simpa using hk) (fun j z hj hz => h1 (j + 1) z (by omega) (by simpa using hz)) (fun z hz => h2 z (by simpa using hz))
    simp only [insM, h, Bool.false_eq_true, if_false, ih]
    simp
theorem insM_perm (x : E) : ∀ l : List E, (insM x l).Perm (x :: l)
  | [] => List.Perm.refl _
  | y :: ys => by
    unfold insM
    split
    · exact List.Perm.refl _
    · exact ((insM_perm x ys).cons y).trans (List.Perm.swap x y ys)
theorem insM_sorted (x : E) : ∀ l : List E, l.Pairwise leM → (insM x l).Pairwise leM
  | [], _ => by simp [insM]
  | y :: ys, h => by
    obtain ⟨h1, h2⟩ := List.pairwise_cons.1 h
    unfold insM
    split
    · rename_i hx
      refine List.pairwise_cons.2 ⟨fun z hz => ?_, h⟩
      rcases List.mem_cons.1 hz with rfl | hz
      · exact leM_of_less hx
      · exact leM_trans (leM_of_less hx) (h1 z hz)
    · rename_i hx
      refine List.pairwise_cons.2 ⟨fun z hz => ?_, insM_sorted x ys h2⟩
      rcases List.mem_cons.1 ((insM_perm x ys).mem_iff.1 hz) with rfl | hz
      · exact Bool.eq_false_iff.2 hx
      · exact h1 z hz
/-- Messages in order. -/
def sortM (l : List E) : List E := l.foldl (fun o x => insM x o) []
theorem sortM_snoc {l : List E} {i : Nat} {x : E} (h : l[i]? = some x) : sortM (l.take (i + 1)) = insM x (sortM (l.take i)) := by
  unfold sortM; rw [List.take_add_one, h, Option.toList_some, List.foldl_append]; rfl
theorem foldIns_perm : ∀ (l o : List E), (l.foldl (fun o x => insM x o) o).Perm (l ++ o)
  | [], o => List.Perm.refl _
  | x :: l, o => by
    simp only [List.foldl_cons, List.cons_append]
    exact (foldIns_perm l _).trans ((List.Perm.append_left l (insM_perm x o)).trans List.perm_middle)
theorem foldIns_sorted : ∀ (l o : List E), o.Pairwise leM → (l.foldl (fun o x => insM x o) o).Pairwise leM
  | [], _, h => h
  | x :: l, _, h => foldIns_sorted l _ (insM_sorted x _ h)
theorem sortM_perm (l : List E) : (sortM l).Perm l := by
  have := foldIns_perm l []
  rwa [List.append_nil] at this
theorem sortM_sorted (l : List E) : (sortM l).Pairwise leM := foldIns_sorted l [] List.Pairwise.nil
theorem sortM_length (l : List E) : (sortM l).length = l.length := (sortM_perm l).length_eq
theorem sortM_mem {l : List E} {x : E} : x ∈ sortM l ↔ x ∈ l := (sortM_perm l).mem_iff
theorem sortM_is {l m : List E} (hp : m.Perm l) (hs : m.Pairwise leM) : m = sortM l := sortedM_eq _ _ (hp.trans (sortM_perm l).symm) hs (sortM_sorted l)
def toL (l : List E) (v : Int) : List E := sortM (l.filter fun e => e.2.1 == v)
end Go.Proofs.YtapcpmalgdhakaaGreat
