/- Graphs as lists of edges: which may be, their order, what is the same. No condition. -/
import Derived.Test.YtapcpmalgdhakaaGreatRows
namespace Go.Proofs.YtapcpmalgdhakaaGreat

/-- From, To, Weight. -/
abbrev E := Int × Int × Int
def sameE (a b : E) : Bool := a.1 == b.1 && a.2.1 == b.2.1
def okE (n : Int) (e : E) : Bool := decide (0 ≤ e.1) && decide (e.1 < n) && decide (0 ≤ e.2.1) && decide (e.2.1 < n) && decide (0 ≤ e.2.2) && decide (e.2.2 ≤ 1048576)
def formedB (n : Int) (es : List E) : Bool := decide (1 ≤ n) && decide (n ≤ 64) && decide (es.length ≤ 512) && es.all (okE n)
def twiceB : List E → Bool
  | [] => false
  | e :: es => es.any (sameE e) || twiceB es
def checkZ (n : Int) (es : List E) : Int := if formedB n es then (if twiceB es then 51 else 0) else 50
def ltE (a b : E) : Prop := a.1 < b.1 ∨ (a.1 = b.1 ∧ a.2.1 < b.2.1)
def Apart (a b : E) : Prop := ¬ (a.1 = b.1 ∧ a.2.1 = b.2.1)
theorem sameE_iff (a b : E) : sameE a b = true ↔ a.1 = b.1 ∧ a.2.1 = b.2.1 := by simp [sameE]
theorem okE_iff (n : Int) (e : E) : okE n e = true ↔ 0 ≤ e.1 ∧ e.1 < n ∧ 0 ≤ e.2.1 ∧ e.2.1 < n ∧ 0 ≤ e.2.2 ∧ e.2.2 ≤ 1048576 := by
  simp [okE]; omega
theorem formed_iff (n : Int) (es : List E) : formedB n es = true ↔ 1 ≤ n ∧ n ≤ 64 ∧ es.length ≤ 512 ∧ ∀ e ∈ es, okE n e = true := by
  simp [formedB, and_assoc]
theorem twice_iff : ∀ es : List E, twiceB es = false ↔ es.Pairwise Apart
  | [] => by simp [twiceB]
  | e :: es => by
    rw [twiceB, Bool.or_eq_false_iff, twice_iff es, List.pairwise_cons, List.any_eq_false]
    refine and_congr_left fun _ => ?_
    exact ⟨fun h x hx he => h x hx ((sameE_iff _ _).2 he), fun h x hx he => h x hx ((sameE_iff _ _).1 he)⟩
theorem check_zero {n : Int} {es : List E} (h : checkZ n es = 0) : formedB n es = true ∧ twiceB es = false := by
  unfold checkZ at h
  split at h
  · split at h
    · omega
    · rename_i h1 h2; exact ⟨h1, by simpa using h2⟩
  · omega
theorem apart_comm {a b : E} (h : Apart a b) : Apart b a := fun h' => h ⟨h'.1.symm, h'.2.symm⟩
theorem ltE_irrefl (a : E) : ¬ ltE a a := by unfold ltE; omega
theorem ltE_trans {a b c : E} (h : ltE a b) (k : ltE b c) : ltE a c := by unfold ltE at *; omega
/-- Two lists in order with the same members are one. -/
theorem sorted_eq : ∀ (l m : List E), l.Pairwise ltE → m.Pairwise ltE → (∀ x, x ∈ l ↔ x ∈ m) → l = m
  | [], [], _, _, _ => rfl
  | [], y :: m, _, _, h => by have := (h y).2 (by simp); simp at this
  | x :: l, [], _, _, h => by have := (h x).1 (by simp); simp at this
  | x :: l, y :: m, h1, h2, h => by
    rw [List.pairwise_cons] at h1 h2
    have hxy : x = y := by
      have a := (h x).1 (by simp)
      have b := (h y).2 (by simp)
      rcases List.mem_cons.1 a with a | a
      · exact a
      rcases List.mem_cons.1 b with b | b
      · exact b.symm
      exact absurd (ltE_trans (h1.1 y b) (h2.1 x a)) (ltE_irrefl x)
    subst hxy
    refine congrArg (x :: ·) (sorted_eq l m h1.2 h2.2 fun z => ?_)
    constructor
    · intro hz
      rcases List.mem_cons.1 ((h z).1 (List.mem_cons_of_mem _ hz)) with rfl | k
      · exact absurd (h1.1 z hz) (ltE_irrefl z)
      · exact k
    · intro hz
      rcases List.mem_cons.1 ((h z).2 (List.mem_cons_of_mem _ hz)) with rfl | k
      · exact absurd (h2.1 z hz) (ltE_irrefl z)
      · exact k
def cellE (es : List E) (v w : Nat) : List E := es.filter fun e => e.1 == (v : Int) && e.2.1 == (w : Int)
def rowE (es : List E) (v k : Nat) : List E := (List.range k).flatMap (cellE es v)
/-- In order: vertex by vertex. -/
def normUpto (es : List E) (n k : Nat) : List E := (List.range k).flatMap fun v => rowE es v n
def normL (n : Nat) (es : List E) : List E := normUpto es n n
theorem mem_cellE {es : List E} {v w : Nat} {x : E} : x ∈ cellE es v w ↔ x ∈ es ∧ x.1 = v ∧ x.2.1 = w := by simp [cellE]
theorem mem_rowE {es : List E} {v k : Nat} {x : E} : x ∈ rowE es v k ↔ x ∈ es ∧ x.1 = v ∧ ∃ w : Nat, w < k ∧ x.2.1 = w := by
  simp only [rowE, List.mem_flatMap, List.mem_range, mem_cellE]
  exact ⟨fun ⟨w, h1, h2, h3, h4⟩ => ⟨h2, h3, w, h1, h4⟩, fun ⟨h2, h3, w, h1, h4⟩ => ⟨w, h1, h2, h3, h4⟩⟩
theorem mem_normUpto {es : List E} {n k : Nat} {x : E} : x ∈ normUpto es n k ↔ x ∈ es ∧ (∃ v : Nat, v < k ∧ x.1 = v) ∧ ∃ w : Nat, w < n ∧ x.2.1 = w := by
  simp only [normUpto, List.mem_flatMap, List.mem_range, mem_rowE]
  exact ⟨fun ⟨v, h1, h2, h3, h4⟩ => ⟨h2, ⟨v, h1, h3⟩, h4⟩, fun ⟨h2, ⟨v, h1, h3⟩, h4⟩ => ⟨v, h1, h2, h3, h4⟩⟩
theorem mem_normL {n : Nat} {es : List E} (hok : ∀ e ∈ es, okE n e = true) (x : E) : x ∈ normL n es ↔ x ∈ es := by
  unfold normL
  rw [mem_normUpto]
  constructor
  · exact fun h => h.1
  · intro h
    have := (okE_iff n x).1 (hok x h)
    exact ⟨h, ⟨x.1.toNat, by omega, by omega⟩, x.2.1.toNat, by omega, by omega⟩
theorem cellE_small {es : List E} (h : es.Pairwise Apart) (v w : Nat) : (cellE es v w).Pairwise ltE := by
  have h1 : (cellE es v w).Pairwise Apart := h.filter _
  refine List.Pairwise.imp_of_mem (fun ha hb k => ?_) h1
  have a1 := mem_cellE.1 ha
  have b1 := mem_cellE.1 hb
  exact absurd ⟨a1.2.1.trans b1.2.1.symm, a1.2.2.trans b1.2.2.symm⟩ k
theorem rowE_sorted {es : List E} (h : es.Pairwise Apart) (v k : Nat) : (rowE es v k).Pairwise ltE := by
  unfold rowE
  rw [List.pairwise_flatMap]
  refine ⟨fun w _ => cellE_small h v w, ?_⟩
  refine List.Pairwise.imp ?_ (List.pairwise_lt_range (n := k))
  intro a b hab x hx y hy
  have h1 := mem_cellE.1 hx
  have h2 := mem_cellE.1 hy
  unfold ltE; omega
theorem norm_sorted {es : List E} (h : es.Pairwise Apart) (n k : Nat) : (normUpto es n k).Pairwise ltE := by
  unfold normUpto
  rw [List.pairwise_flatMap]
  refine ⟨fun v _ => rowE_sorted h v n, ?_⟩
  refine List.Pairwise.imp ?_ (List.pairwise_lt_range (n := k))
  intro a b hab x hx y hy
  have h1 := mem_rowE.1 hx
  have h2 := mem_rowE.1 hy
  unfold ltE; omega
theorem sorted_nodup {l : List E} (h : l.Pairwise ltE) : l.Nodup := h.imp (fun {a b} k e => by subst e; exact ltE_irrefl a k)
theorem apart_nodup {l : List E} (h : l.Pairwise Apart) : l.Nodup := h.imp (fun {a b} k e => by subst e; exact k ⟨rfl, rfl⟩)
theorem norm_perm {n : Nat} {es : List E} (h : checkZ n es = 0) : (normL n es).Perm es := by
  obtain ⟨h1, h2⟩ := check_zero h
  have hok := ((formed_iff n es).1 h1).2.2.2
  have hp := (twice_iff es).1 h2
  exact (List.perm_ext_iff_of_nodup (sorted_nodup (norm_sorted hp n n)) (apart_nodup hp)).2 (mem_normL hok)
theorem filter_tt (l : List E) : l.filter (fun _ => true) = l := List.filter_eq_self.2 (fun _ _ => rfl)
/-- What is picked and put in order is what is picked of all in order. -/
theorem pick_is {n : Nat} {es l : List E} (p : E → Bool) (h : checkZ n es = 0) (hp : l.Perm (es.filter p)) (hs : l.Pairwise ltE) : l = (normL n es).filter p := by
  obtain ⟨h1, h2⟩ := check_zero h
  have hok := ((formed_iff n es).1 h1).2.2.2
  refine sorted_eq _ _ hs ((norm_sorted ((twice_iff es).1 h2) n n).filter p) fun x => ?_
  rw [hp.mem_iff, List.mem_filter, List.mem_filter]
  exact and_congr_left fun _ => (mem_normL hok x).symm
theorem norm_length {n : Nat} {es : List E} (h : checkZ n es = 0) : (normL n es).length = es.length := (norm_perm h).length_eq
theorem norm_small {n : Int} {es : List E} (h : checkZ n es = 0) : ∃ k : Nat, n = k ∧ 1 ≤ k ∧ k ≤ 64 ∧ es.length ≤ 512 := by
  have h1 := (formed_iff n es).1 (check_zero h).1
  exact ⟨n.toNat, by omega, by omega, by omega, h1.2.2.1⟩
end Go.Proofs.YtapcpmalgdhakaaGreat
