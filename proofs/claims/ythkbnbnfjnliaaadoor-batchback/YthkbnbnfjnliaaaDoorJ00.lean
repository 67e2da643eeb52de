/- Plain mathematics: numbers as bytes, and read again, as the document's chapter 2 says it. No condition. -/
import Derived.Test.YthkbnbnfjnliaaaDoorRows
import Derived.WalkKit
import Derived.WalkSpells
import Derived.WalkLawsBesides
import Derived.Lib.Hide
import Derived.Deep.Draws
import Derived.Deep.MidRow
import Derived.Deep.WholeRow
namespace Wire

def num (n : Nat) : List Nat := if n < 128 then [n] else (n % 128 + 128) :: num (n / 128)
termination_by n
decreasing_by omega
theorem num_lt {n : Nat} (h : n < 128) : num n = [n] := by rw [num, if_pos h]
theorem num_ge {n : Nat} (h : ¬ n < 128) : num n = (n % 128 + 128) :: num (n / 128) := by rw [num, if_neg h]
theorem num_bytes (n : Nat) : ∀ x ∈ num n, x < 256 := by
  induction n using Nat.strongRecOn with
  | _ n ih =>
    intro x hx
    by_cases h : n < 128
    · rw [num_lt h] at hx
      rw [List.mem_singleton.1 hx]; omega
    · rw [num_ge h] at hx
      rcases List.mem_cons.1 hx with rfl | hx
      · omega
      · exact ih (n / 128) (by omega) x hx
theorem num_le : ∀ (k n : Nat), n < 128 ^ (k + 1) → (num n).length ≤ k + 1
  | 0, n, h => by rw [num_lt (by simpa using h)]; simp
  | k + 1, n, h => by
    by_cases h1 : n < 128
    · rw [num_lt h1]; simp
    · rw [num_ge h1]
      have := num_le k (n / 128) (by rw [Nat.pow_succ] at h; exact Nat.div_lt_of_lt_mul (by rw [Nat.mul_comm]; exact h))
      simp; omega
theorem num_len10 (n : Nat) (h : n < 18446744073709551616) : (num n).length ≤ 10 := num_le 9 n (by omega)
/-- What is read from place k on, v having come of the k bytes ahead: the number, how many bytes it has, the error. -/
def rdFrom : Nat → Nat → List Nat → Nat × Nat × Nat
  | _, _, [] => (0, 0, 20)
  | k, v, c :: r => if (0 < k ∧ c = 0) ∨ (k = 9 ∧ 1 < c) then (0, 0, 21) else if c < 128 then (v + c % 128 * 128 ^ k, k + 1, 0) else rdFrom (k + 1) (v + c % 128 * 128 ^ k) r
def rd (l : List Nat) : Nat × Nat × Nat := rdFrom 0 0 l
theorem rdFrom_form {k v c : Nat} {r : List Nat} (h : (0 < k ∧ c = 0) ∨ (k = 9 ∧ 1 < c)) : rdFrom k v (c :: r) = (0, 0, 21) := by rw [rdFrom, if_pos h]
theorem rdFrom_last {k v c : Nat} {r : List Nat} (h : ¬ ((0 < k ∧ c = 0) ∨ (k = 9 ∧ 1 < c))) (hc : c < 128) : rdFrom k v (c :: r) = (v + c % 128 * 128 ^ k, k + 1, 0) := by rw [rdFrom, if_neg h, if_pos hc]
theorem rdFrom_more {k v c : Nat} {r : List Nat} (h : ¬ ((0 < k ∧ c = 0) ∨ (k = 9 ∧ 1 < c))) (hc : ¬ c < 128) : rdFrom k v (c :: r) = rdFrom (k + 1) (v + c % 128 * 128 ^ k) r := by rw [rdFrom, if_neg h, if_neg hc]

/-- What was written is read again. -/
theorem rdFrom_num : ∀ (d k v n : Nat) (r : List Nat), k + d = 9 → (0 < k → 0 < n) → n < 2 * 128 ^ d → rdFrom k v (num n ++ r) = (v + n * 128 ^ k, k + (num n).length, 0)
  | 0, k, v, n, r, hk, hp, hn => by
    have hn2 : n < 2 := by simpa using hn
    rw [num_lt (by omega), List.singleton_append, rdFrom_last (by omega) (by omega)]
    simp [Nat.mod_eq_of_lt (show n < 128 by omega)]
  | d + 1, k, v, n, r, hk, hp, hn => by
    by_cases h : n < 128
    · rw [num_lt h, List.singleton_append, rdFrom_last (by omega) h]
      simp [Nat.mod_eq_of_lt h]
    · rw [num_ge h, List.cons_append, rdFrom_more (by omega) (by omega), rdFrom_num d (k + 1) _ (n / 128) r (by omega) (by omega) (by
        rw [Nat.pow_succ] at hn
        exact Nat.div_lt_of_lt_mul (by omega))]
      refine Prod.ext ?_ (Prod.ext ?_ rfl)
      · show v + (n % 128 + 128) % 128 * 128 ^ k + n / 128 * 128 ^ (k + 1) = v + n * 128 ^ k
        have e : n = n % 128 + n / 128 * 128 := by omega
        rw [show (n % 128 + 128) % 128 = n % 128 by omega, Nat.pow_succ]
        conv => rhs; rw [e]
        rw [Nat.add_mul, Nat.mul_assoc, Nat.mul_comm 128 (128 ^ k)]
        omega
      · simp; omega
theorem rd_num (n : Nat) (r : List Nat) (h : n < 18446744073709551616) : rd (num n ++ r) = (n, (num n).length, 0) := by
  have := rdFrom_num 9 0 0 n r rfl (by omega) (by simpa using h)
  simpa [rd] using this
/-- What is read was written so. -/
theorem rdFrom_back : ∀ (l : List Nat) (k v x m : Nat), (∀ c ∈ l, c < 256) → k ≤ 9 → rdFrom k v l = (x, m, 0) → ∃ n j, x = v + n * 128 ^ k ∧ m = k + j ∧ j ≤ l.length ∧ l.take j = num n ∧ (0 < k → 0 < n) ∧ 0 < j ∧ n < 2 * 128 ^ (9 - k)
  | [], k, v, x, m, _, _, h => by simp [rdFrom] at h
  | c :: r, k, v, x, m, hb, hk, h => by
    by_cases hf : (0 < k ∧ c = 0) ∨ (k = 9 ∧ 1 < c)
    · rw [rdFrom_form hf] at h; simp at h
    · by_cases hc : c < 128
      · rw [rdFrom_last hf hc] at h
        simp only [Prod.mk.injEq] at h
        refine ⟨c, 1, by rw [← h.1, Nat.mod_eq_of_lt hc], h.2.1.symm, by simp, by rw [num_lt hc]; simp, by omega, by omega, ?_⟩
        by_cases h9 : k = 9
        · subst h9; simp; omega
        · have : 128 ^ 1 ≤ 128 ^ (9 - k) := Nat.pow_le_pow_right (by omega) (by omega)
          omega
      · rw [rdFrom_more hf hc] at h
        have hcb := hb c (List.mem_cons_self ..)
        have hk9 : k ≠ 9 := by omega
        obtain ⟨n, j, e1, e2, e3, e4, e5, e6, e7⟩ := rdFrom_back r (k + 1) _ x m (fun c hc => hb c (List.mem_cons_of_mem _ hc)) (by omega) h
        have hn : 0 < n := e5 (by omega)
        refine ⟨c % 128 + n * 128, j + 1, ?_, by omega, by simp; exact e3, ?_, by omega, by omega, ?_⟩
        · rw [e1, Nat.pow_succ, Nat.add_mul, Nat.mul_assoc, Nat.mul_comm 128 (128 ^ k)]; omega
        · rw [List.take_succ_cons, e4, num_ge (show ¬ c % 128 + n * 128 < 128 by omega), show (c % 128 + n * 128) % 128 + 128 = c by omega, show (c % 128 + n * 128) / 128 = n by omega]
        · have : 9 - k = 9 - (k + 1) + 1 := by omega
          rw [this, Nat.pow_succ]
          generalize 128 ^ (9 - (k + 1)) = q at *
          omega
theorem rd_back (l : List Nat) (x m : Nat) (hb : ∀ c ∈ l, c < 256) (h : rd l = (x, m, 0)) : m ≤ l.length ∧ 0 < m ∧ l.take m = num x ∧ x < 18446744073709551616 := by
  obtain ⟨n, j, e1, e2, e3, e4, _, e6, e7⟩ := rdFrom_back l 0 0 x m hb (by omega) h
  simp at e1 e2
  subst e1 e2
  exact ⟨e3, e6, e4, by simpa using e7⟩
/-- The errors. -/
theorem rdFrom_err : ∀ (l : List Nat) (k v : Nat), (rdFrom k v l).2.2 = 0 ∨ ((rdFrom k v l) = (0, 0, 20)) ∨ rdFrom k v l = (0, 0, 21)
  | [], k, v => by simp [rdFrom]
  | c :: r, k, v => by
    rw [rdFrom]
    split
    · simp
    · split
      · simp
      · exact rdFrom_err r _ _
theorem rd_err (l : List Nat) : (rd l).2.2 = 0 ∨ rd l = (0, 0, 20) ∨ rd l = (0, 0, 21) := rdFrom_err l 0 0
/-- One that may be below 0. -/
def fold (n : Int) : Nat := if 0 ≤ n then 2 * n.toNat else 2 * (-1 - n).toNat + 1
def unfold_ (n : Nat) : Int := if n % 2 = 0 then (n / 2 : Nat) else -1 - (n / 2 : Nat)
theorem unfold_fold (n : Int) : unfold_ (fold n) = n := by
  unfold unfold_ fold
  by_cases h : 0 ≤ n
  · rw [if_pos h, if_pos (by omega)]; omega
  · rw [if_neg h, if_neg (by omega)]; omega
theorem fold_unfold (n : Nat) : fold (unfold_ n) = n := by
  unfold unfold_ fold
  by_cases h : n % 2 = 0
  · rw [if_pos h, if_pos (by omega)]; omega
  · rw [if_neg h, if_neg (by omega)]; omega
theorem fold_lt (n : Int) (h1 : -9223372036854775808 ≤ n) (h2 : n ≤ 9223372036854775807) : fold n < 18446744073709551616 := by
  unfold fold
  split <;> omega
end Wire
/- Graphs as lists of edges: which may be, their order, what is the same. No condition. -/
namespace Go.Proofs.YthkbnbnfjnliaaaDoor

/-- From, To, Weight. -/
abbrev E := Int × Int × Int
def sameE (a b : E) : Bool := a.1 == b.1 && a.2.1 == b.2.1
def twiceB : List E → Bool
  | [] => false
  | e :: es => es.any (sameE e) || twiceB es
def Apart (a b : E) : Prop := ¬ (a.1 = b.1 ∧ a.2.1 = b.2.1)
theorem sameE_iff (a b : E) : sameE a b = true ↔ a.1 = b.1 ∧ a.2.1 = b.2.1 := by simp [sameE]
theorem twice_iff : ∀ es : List E, twiceB es = false ↔ es.Pairwise Apart
  | [] => by simp [twiceB]
  | e :: es => by
    rw [twiceB, Bool.or_eq_false_iff, twice_iff es, List.pairwise_cons, List.any_eq_false]
    refine and_congr_left fun _ => ?_
    exact ⟨fun h x hx he => h x hx ((sameE_iff _ _).2 he), fun h x hx he => h x hx ((sameE_iff _ _).1 he)⟩
theorem apart_comm {a b : E} (h : Apart a b) : Apart b a := fun h' => h ⟨h'.1.symm, h'.2.symm⟩
theorem twice_perm {l m : List E} (h : l.Perm m) : twiceB l = twiceB m := by
  cases h1 : twiceB l with
  | false => exact ((twice_iff m).2 ((h.pairwise_iff (fun h => apart_comm h)).1 ((twice_iff l).1 h1))).symm
  | true =>
    cases h2 : twiceB m with
    | true => rfl
    | false =>
      have := (twice_iff l).2 ((h.pairwise_iff (fun h => apart_comm h)).2 ((twice_iff m).1 h2))
      rw [h1] at this; cases this
theorem filter_tt (l : List E) : l.filter (fun _ => true) = l := List.filter_eq_self.2 (fun _ _ => rfl)
end Go.Proofs.YthkbnbnfjnliaaaDoor
/- Layer 7: programs, as mathematics. Conditions: none of our own. -/
namespace Go.Proofs.YthkbnbnfjnliaaaDoor
set_option maxRecDepth 100000

def great (x : Int) : Bool := decide (x > 1125899906842624) || decide (x < -1125899906842624)
theorem great_no {x : Int} (h : great x = false) : -1125899906842624 ≤ x ∧ x ≤ 1125899906842624 := by simp [great] at h; omega
end Go.Proofs.YthkbnbnfjnliaaaDoor
/- Plain mathematics: a vertex as bytes, and read again. No condition. -/
namespace Go.Proofs.YthkbnbnfjnliaaaDoor
open Wire
set_option maxRecDepth 100000

/-- So many numbers one by one: they, what is left, the first error. -/
def rdk : Nat → List Nat → List Nat × List Nat × Nat
  | 0, l => ([], l, 0)
  | k + 1, l => if (rd l).2.2 = 0 then ((rd l).1 :: (rdk k (l.drop (rd l).2.1)).1, (rdk k (l.drop (rd l).2.1)).2) else ([], [], (rd l).2.2)
theorem rdk_nums : ∀ (ns : List Nat) (r : List Nat), (∀ n ∈ ns, n < 18446744073709551616) → rdk ns.length ((ns.map num).flatten ++ r) = (ns, r, 0)
  | [], r, _ => by simp [rdk]
  | n :: ns, r, h => by
    have hn := rd_num n ((ns.map num).flatten ++ r) (h n (by simp))
    have ih := rdk_nums ns r (fun m hm => h m (by simp [hm]))
    simp only [List.length_cons, rdk, List.map_cons, List.flatten_cons, List.append_assoc, hn, if_true, List.drop_left', ih]
theorem rdk_len : ∀ (k : Nat) (l : List Nat), (rdk k l).2.2 = 0 → (rdk k l).1.length = k
  | 0, l, _ => rfl
  | k + 1, l, h => by
    by_cases h0 : (rd l).2.2 = 0
    · simp only [rdk, h0, if_true] at h ⊢
      simp [rdk_len k _ h]
    · simp only [rdk, h0, if_false] at h
theorem rdk_back : ∀ (k : Nat) (l : List Nat), (∀ c ∈ l, c < 256) → (rdk k l).2.2 = 0 → l = ((rdk k l).1.map num).flatten ++ (rdk k l).2.1
  | 0, l, _, _ => by simp [rdk]
  | k + 1, l, hb, h => by
    by_cases h0 : (rd l).2.2 = 0
    · simp only [rdk, h0, if_true] at h ⊢
      obtain ⟨_, _, h3, _⟩ := rd_back l (rd l).1 (rd l).2.1 hb (by rw [← h0])
      have ih := rdk_back k (l.drop (rd l).2.1) (fun c hc => hb c (List.mem_of_mem_drop hc)) h
      rw [List.map_cons, List.flatten_cons, List.append_assoc, ← ih, ← h3, List.take_append_drop]
    · simp only [rdk, h0, if_false] at h
/-- After i numbers of L: these, and what is left. -/
def RdI (L : List Nat) (i : Nat) (ns l : List Nat) : Prop := rdk 5 L = (ns ++ (rdk (5 - i) l).1, (rdk (5 - i) l).2)
theorem RdI.zero (L : List Nat) : RdI L 0 [] L := rfl
theorem RdI.step {L ns l : List Nat} {i : Nat} (h : RdI L i ns l) (hi : i < 5) (h0 : (rd l).2.2 = 0) : RdI L (i + 1) (ns ++ [(rd l).1]) (l.drop (rd l).2.1) := by
  unfold RdI at h ⊢
  rw [h, show 5 - i = (5 - (i + 1)) + 1 by omega]
  simp only [rdk, h0, if_true, List.append_assoc, List.singleton_append]
theorem RdI.all {L ns l : List Nat} (h : RdI L 5 ns l) : rdk 5 L = (ns, l, 0) := by
  unfold RdI at h; rw [h]; simp [rdk]
end Go.Proofs.YthkbnbnfjnliaaaDoor
/- Words for memory: a block that is known whole. No condition. -/
namespace Go.Proofs.YthkbnbnfjnliaaaDoor
open Go.RowKit

/-- Block g is the row cs of element type t, and nothing of it is frozen. -/
def Has (w : World) (g : Nat) (t : TypeId) (cs : List Value) : Prop := w.heap[g]? = some (.cells cs.toArray t (0, 0))
section
variable {w w' : World} {g : Nat} {t : TypeId} {cs : List Value}
theorem Has.lt (h : Has w g t cs) : g < w.heap.size := (Array.getElem?_eq_some_iff.1 h).1
theorem Has.cell (h : Has w g t cs) (i : Nat) : w.cell? ⟨g, i, none⟩ = cs[i]? := by
  rw [cell_of_row w g i cs.toArray t (0, 0) h]; simp
theorem Has.open_ (h : Has w g t cs) (i : Nat) : w.frozen? ⟨g, i, none⟩ = false := by
  unfold Has at h
  simp only [World.frozen?, h]
  simp
theorem Has.drew (h : Has w g t cs) : Has w.drew g t cs := h
theorem Has.drewN (h : Has w g t cs) (n : Nat) : Has (w.drewN n) g t cs := h
theorem Has.alloc (h : Has w g t cs) (o : Obj) : Has (w.alloc o) g t cs := (Below.heap_alloc w o g h.lt).trans h
theorem Has.new (w : World) (t : TypeId) (cs : List Value) : Has (w.alloc (.cells cs.toArray t)) w.heap.size t cs := by
  show (w.heap.push _)[w.heap.size]? = _
  simp
theorem Has.new' (w : World) (t : TypeId) (cs : List Value) (o : Array Value) (g : Nat) (ho : o = cs.toArray) (hg : g = w.heap.size) : Has (w.alloc (.cells o t)) g t cs := by
  subst ho hg; exact Has.new w t cs
theorem Has.set_ (h : Has w g t cs) (i : Nat) (u : Value) : Has (w.setCell ⟨g, i, none⟩ u) g t (cs.set i u) := by
  unfold Has at h ⊢
  simp [World.setCell, Array.getElem?_modify, h]
theorem Has.far (h : Has w g t cs) {p : Addr} (hp : g ≠ p.block) (u : Value) : Has (w.setCell p u) g t cs := (Below.heap_setCell w p u g hp).trans h
theorem Has.below {B : Nat} (h : Has w g t cs) (hb : Below B w w') (hg : g < B) : Has w' g t cs := (hb.block g hg).trans h
theorem Has.range (h : Has w g t cs) (o n : Nat) : w.rangeAt g o ((cs.drop o).take n) := fun j v hv => by
  rw [h.cell]
  rw [List.getElem?_take] at hv
  split at hv
  · rw [List.getElem?_drop] at hv; exact hv
  · cases hv
theorem Has.there_ (h : Has w g t cs) (o n : Nat) (hn : o + n ≤ cs.length) : w.there g o n := fun j hj =>
  ⟨by rw [h.cell, List.getElem?_eq_getElem (by omega)]; rfl, h.open_ _⟩
end
theorem setCells_heap_other (b : Nat) : ∀ (vs : List Value) (o : Nat) (w : World) (g : Nat), g ≠ b → (w.setCells b o vs).heap[g]? = w.heap[g]?
  | [], _, _, _, _ => rfl
  | v :: r, o, w, g, h => by
    rw [World.setCells, setCells_heap_other b r (o + 1) _ g h]
    exact Below.heap_setCell w ⟨b, o, none⟩ v g h
theorem setCells_size (b : Nat) : ∀ (vs : List Value) (o : Nat) (w : World), (w.setCells b o vs).heap.size = w.heap.size
  | [], _, _ => rfl
  | v :: r, o, w => by
    rw [World.setCells, setCells_size b r (o + 1) _]
    simp [World.setCell]
/-- The row with vs laid over it from place o on. -/
def over : List Value → Nat → List Value → List Value
  | cs, _, [] => cs
  | cs, o, v :: r => over (cs.set o v) (o + 1) r
theorem Has.setCells {g : Nat} {t : TypeId} : ∀ (vs : List Value) (o : Nat) (w : World) (cs : List Value), Has w g t cs → Has (w.setCells g o vs) g t (over cs o vs)
  | [], _, _, _, h => h
  | v :: r, o, w, cs, h => by
    rw [World.setCells, over]
    exact Has.setCells r (o + 1) _ _ (h.set_ o v)
theorem over_eq : ∀ (vs : List Value) (o : Nat) (cs : List Value), o + vs.length ≤ cs.length → over cs o vs = cs.take o ++ vs ++ cs.drop (o + vs.length)
  | [], o, cs, _ => by simp [over]
  | v :: r, o, cs, h => by
    rw [over, over_eq r (o + 1) (cs.set o v) (by simp at h ⊢; omega)]
    simp only [List.length_cons] at h ⊢
    have h1 : (cs.set o v).take (o + 1) = cs.take o ++ [v] := by
      apply List.ext_getElem?
      intro k
      by_cases hk : k < o
      · rw [List.getElem?_take, List.getElem?_append_left (by simp; omega), List.getElem?_take]
        simp [hk, show k < o + 1 by omega, show o ≠ k by omega]
      · by_cases hk2 : k = o
        · subst hk2
          rw [List.getElem?_take, List.getElem?_append_right (by simp; omega)]
          simp [show min k cs.length = k by omega, show k < cs.length by omega]
        · rw [List.getElem?_take, List.getElem?_append_right (by simp; omega)]
          simp [show ¬ k < o + 1 by omega, show min o cs.length = o by omega]
          omega
    have h2 : (cs.set o v).drop (o + 1 + r.length) = cs.drop (o + (r.length + 1)) := by
      rw [List.drop_set_of_lt (by omega), show o + 1 + r.length = o + (r.length + 1) by omega]
    rw [h1, h2]
    simp
theorem below_setCells {B : Nat} {a : World} (b : Nat) (hb : B ≤ b) : ∀ (vs : List Value) (o : Nat) (w : World), Below B a w → Below B a (w.setCells b o vs)
  | [], _, _, h => h
  | v :: r, o, w, h => by
    rw [World.setCells]
    exact below_setCells b hb r (o + 1) _ (h.setCell (by simpa using hb) v)
theorem below_drewN' {B : Nat} {a w : World} (h : Below B a w) (n : Nat) : Below B a (w.drewN n) := ⟨h.os, h.tape, h.output, h.size, h.block⟩

def U8 (l : List Nat) : List Value := l.map fun n : Nat => Value.int .u8 (n : Int)
def U32 (l : List Nat) : List Value := l.map fun n : Nat => Value.int .u32 (n : Int)
theorem U8_get {l : List Nat} {i : Nat} (h : i < l.length) : (U8 l)[i]? = some (.int .u8 (l.getD i 0 : Nat)) := by simp [U8, h]
theorem U32_get {l : List Nat} {i : Nat} (h : i < l.length) : (U32 l)[i]? = some (.int .u32 (l.getD i 0 : Nat)) := by simp [U32, h]
@[simp] theorem U8_length (l : List Nat) : (U8 l).length = l.length := by simp [U8]
@[simp] theorem U32_length (l : List Nat) : (U32 l).length = l.length := by simp [U32]
theorem U8_append (a b : List Nat) : U8 (a ++ b) = U8 a ++ U8 b := by simp [U8]
theorem U8_set (l : List Nat) (i n : Nat) : (U8 l).set i (.int .u8 (n : Int)) = U8 (l.set i n) := by simp [U8, List.map_set]
theorem U32_set (l : List Nat) (i n : Nat) : (U32 l).set i (.int .u32 (n : Int)) = U32 (l.set i n) := by simp [U32, List.map_set]
theorem U8_one (l : List Nat) : ∀ v ∈ U8 l, v.oneCell' = true := by
  intro v hv; obtain ⟨n, _, rfl⟩ := List.mem_map.1 hv; rfl
theorem U32_one (l : List Nat) : ∀ v ∈ U32 l, v.oneCell' = true := by
  intro v hv; obtain ⟨n, _, rfl⟩ := List.mem_map.1 hv; rfl
end Go.Proofs.YthkbnbnfjnliaaaDoor
