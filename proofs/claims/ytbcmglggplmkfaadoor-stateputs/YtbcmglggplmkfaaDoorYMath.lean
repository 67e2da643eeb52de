/- Plain mathematics: a vertex as bytes, and read again. No condition. -/
import Derived.Test.YtbcmglggplmkfaaDoorJA
import Derived.Test.YtbcmglggplmkfaaDoorJI
namespace Go.Proofs.YtbcmglggplmkfaaDoor
open Wire
set_option maxRecDepth 100000

def rightX (x : Vx) : Bool := decide (0 ≤ x.id) && decide (x.id < 64) && !great x.val && !great x.inn && (x.has || decide (x.inn = 0))
def bitN (b : Bool) : Nat := if b then 1 else 0
/-- The five numbers of a vertex. -/
def numsX (x : Vx) : List Nat := [x.id.toNat, fold x.val, bitN x.act, bitN x.has, fold x.inn]
/-- Its bytes. -/
def bytesX (x : Vx) : List Nat := num x.id.toNat ++ num (fold x.val) ++ [bitN x.act] ++ [bitN x.has] ++ num (fold x.inn)
/-- So many numbers one by one: they, what is left, the first error. -/
def rdk : Nat → List Nat → List Nat × List Nat × Nat
  | 0, l => ([], l, 0)
  | k + 1, l => if (rd l).2.2 = 0 then ((rd l).1 :: (rdk k (l.drop (rd l).2.1)).1, (rdk k (l.drop (rd l).2.1)).2) else ([], [], (rd l).2.2)
/-- The vertex of five numbers, and whether they are one's. -/
def ofX (v : List Nat) : Vx := ⟨v.getD 0 0, unfold_ (v.getD 1 0), decide (v.getD 2 0 = 1), decide (v.getD 3 0 = 1), unfold_ (v.getD 4 0)⟩
def formX (v : List Nat) : Bool := decide (v.getD 0 0 ≤ 63) && decide (v.getD 2 0 ≤ 1) && decide (v.getD 3 0 ≤ 1) && rightX (ofX v)
/-- What the bytes are: a vertex and an error. -/
def getX (l : List Nat) : Vx × Nat :=
  if (rdk 5 l).2.2 ≠ 0 then (noVx, (rdk 5 l).2.2)
  else if (rdk 5 l).2.1 ≠ [] then (noVx, 22)
  else if formX (rdk 5 l).1 then (ofX (rdk 5 l).1, 0)
  else (noVx, 100)
theorem bitN_lt (b : Bool) : bitN b < 128 := by cases b <;> decide
theorem bitN_inj (b : Bool) : decide (bitN b = 1) = b := by cases b <;> rfl
theorem bytesX_nums (x : Vx) : bytesX x = ((numsX x).map num).flatten := by
  simp [bytesX, numsX, num_lt (bitN_lt x.act), num_lt (bitN_lt x.has)]
theorem right_parts {x : Vx} (h : rightX x = true) : 0 ≤ x.id ∧ x.id < 64 ∧ great x.val = false ∧ great x.inn = false ∧ (x.has = true ∨ x.inn = 0) := by
  simp [rightX] at h; obtain ⟨⟨⟨⟨h1, h2⟩, h3⟩, h4⟩, h5⟩ := h; exact ⟨h1, h2, h3, h4, h5⟩
theorem fold_small {v : Int} (h : great v = false) : fold v ≤ 2251799813685249 := by
  have := great_no h; unfold fold; split <;> omega
theorem numsX_lt {x : Vx} (h : rightX x = true) : ∀ n ∈ numsX x, n < 18446744073709551616 := fun n hn => by
  obtain ⟨h1, h2, h3, h4, _⟩ := right_parts h
  have f1 := fold_small h3; have f2 := fold_small h4; have b1 := bitN_lt x.act; have b2 := bitN_lt x.has
  simp only [numsX, List.mem_cons, List.not_mem_nil, or_false] at hn
  rcases hn with rfl | rfl | rfl | rfl | rfl <;> omega
theorem bytesX_lt (x : Vx) : ∀ c ∈ bytesX x, c < 256 := fun c hc => by
  rw [bytesX_nums, List.mem_flatten] at hc
  obtain ⟨l, hl, hc⟩ := hc
  obtain ⟨n, _, rfl⟩ := List.mem_map.1 hl
  exact num_bytes n c hc
/-- From 5 to 19 bytes. -/
theorem bytesX_size {x : Vx} (h : rightX x = true) : 5 ≤ (bytesX x).length ∧ (bytesX x).length ≤ 19 := by
  obtain ⟨h1, h2, h3, h4, _⟩ := right_parts h
  have f1 := num_le 7 _ (show fold x.val < 128 ^ (7 + 1) by have := fold_small h3; omega)
  have f2 := num_le 7 _ (show fold x.inn < 128 ^ (7 + 1) by have := fold_small h4; omega)
  have p1 := num_pos (fold x.val); have p2 := num_pos (fold x.inn)
  have i1 : (num x.id.toNat).length = 1 := (num_one _).2 (by omega)
  simp only [bytesX, List.length_append, List.length_cons, List.length_nil]
  omega
theorem rdk_nums : ∀ (ns : List Nat) (r : List Nat), (∀ n ∈ ns, n < 18446744073709551616) → rdk ns.length ((ns.map num).flatten ++ r) = (ns, r, 0)
  | [], r, _ => by simp [rdk]
  | n :: ns, r, h => by
    have hn := rd_num n ((ns.map num).flatten ++ r) (h n (by simp))
    have ih := rdk_nums ns r (fun m hm => h m (by simp [hm]))
    simp only [List.length_cons, rdk, List.map_cons, List.flatten_cons, List.append_assoc, hn, if_true, List.drop_left', ih]
theorem ofX_nums {x : Vx} (h : 0 ≤ x.id) : ofX (numsX x) = x := by
  obtain ⟨a, b, c, d, e⟩ := x
  simp only [ofX, numsX, List.getD_cons_zero, List.getD_cons_succ, unfold_fold, bitN_inj, Vx.mk.injEq, and_true]
  exact Int.toNat_of_nonneg h
/-- What is put is got again. -/
theorem getX_bytes {x : Vx} (h : rightX x = true) : getX (bytesX x) = (x, 0) := by
  have hr := right_parts h
  have h5 := rdk_nums (numsX x) [] (numsX_lt h)
  rw [List.append_nil, ← bytesX_nums] at h5
  have h5 : rdk 5 (bytesX x) = (numsX x, [], 0) := h5
  have hf : formX (numsX x) = true := by
    have b1 : bitN x.act ≤ 1 := by cases x.act <;> decide
    have b2 : bitN x.has ≤ 1 := by cases x.has <;> decide
    have hid : x.id.toNat ≤ 63 := by omega
    unfold formX; rw [ofX_nums hr.1, h]; simp [numsX, b1, b2, hid]
  unfold getX
  rw [h5]
  simp [hf, ofX_nums hr.1]
theorem bytesX_inj {x y : Vx} (hx : rightX x = true) (hy : rightX y = true) (h : bytesX x = bytesX y) : x = y := by
  have a := getX_bytes hx; have b := getX_bytes hy
  rw [h, b] at a
  exact (congrArg Prod.fst a).symm
theorem rdk_len : ∀ (k : Nat) (l : List Nat), (rdk k l).2.2 = 0 → (rdk k l).1.length = k
  | 0, l, _ => rfl
  | k + 1, l, h => by
    by_cases h0 : (rd l).2.2 = 0
    · simp only [rdk, h0, if_true] at h ⊢
      simp [rdk_len k _ h]
    · simp only [rdk, h0, if_false] at h
theorem rdk_back : ∀ (k : Nat) (l : List Nat), (∀ c ∈ l, c < 256) → (rdk k l).2.2 = 0 → l = ((rdk k l).1.map num).flatten ++ (rdk k l).2.1
  | 0, l, _, _ => by simp [rdk]
  | k + 1, l, hb, h => by
    by_cases h0 : (rd l).2.2 = 0
    · simp only [rdk, h0, if_true] at h ⊢
      obtain ⟨_, _, h3, _⟩ := rd_back l (rd l).1 (rd l).2.1 hb (by rw [← h0])
      have ih := rdk_back k (l.drop (rd l).2.1) (fun c hc => hb c (List.mem_of_mem_drop hc)) h
      rw [List.map_cons, List.flatten_cons, List.append_assoc, ← ih, ← h3, List.take_append_drop]
    · simp only [rdk, h0, if_false] at h
theorem nums_ofX {v : List Nat} (hl : v.length = 5) (h : formX v = true) : numsX (ofX v) = v := by
  match v, hl with
  | [a, b, c, d, e], _ =>
    simp [formX, ofX] at h
    obtain ⟨⟨⟨h1, h2⟩, h3⟩, _⟩ := h
    have hb : ∀ n, n ≤ 1 → bitN (decide (n = 1)) = n := fun n hn => by
      obtain rfl | rfl : n = 0 ∨ n = 1 := by omega
      · rfl
      · rfl
    simp [numsX, ofX, fold_unfold, hb c h2, hb d h3]
/-- What is got has just these bytes. -/
theorem getX_back {l : List Nat} (hb : ∀ c ∈ l, c < 256) (h : (getX l).2 = 0) : rightX (getX l).1 = true ∧ bytesX (getX l).1 = l := by
  unfold getX at h ⊢
  by_cases h1 : (rdk 5 l).2.2 = 0
  · by_cases h2 : (rdk 5 l).2.1 = []
    · by_cases h3 : formX (rdk 5 l).1 = true
      · simp only [h1, h2, h3, ne_eq, not_true_eq_false, if_false, if_true]
        have hl := rdk_len 5 l h1
        refine ⟨?_, ?_⟩
        · unfold formX at h3; simp only [Bool.and_eq_true] at h3; exact h3.2
        · rw [bytesX_nums, nums_ofX hl h3]
          have := rdk_back 5 l hb h1
          rw [h2, List.append_nil] at this
          exact this.symm
      · simp [h1, h2, h3] at h
    · simp [h1, h2] at h
  · simp [h1] at h
theorem getX_err {l : List Nat} {e : Nat} (h : (rdk 5 l).2.2 = e) (he : e ≠ 0) : getX l = (noVx, e) := by
  unfold getX; rw [if_pos (by rw [h]; exact he), h]
theorem getX_more {l : List Nat} (h : (rdk 5 l).2.2 = 0) (h2 : (rdk 5 l).2.1 ≠ []) : getX l = (noVx, 22) := by
  unfold getX; rw [if_neg (by rw [h]; simp), if_pos h2]
theorem getX_form {l v : List Nat} (h : rdk 5 l = (v, [], 0)) (hf : formX v = false) : getX l = (noVx, 100) := by
  unfold getX; simp [h, hf]
theorem getX_ok {l v : List Nat} (h : rdk 5 l = (v, [], 0)) (hf : formX v = true) : getX l = (ofX v, 0) := by
  unfold getX; simp [h, hf]
/-- After i numbers of L: these, and what is left. -/
def RdI (L : List Nat) (i : Nat) (ns l : List Nat) : Prop := rdk 5 L = (ns ++ (rdk (5 - i) l).1, (rdk (5 - i) l).2)
theorem RdI.zero (L : List Nat) : RdI L 0 [] L := rfl
theorem RdI.step {L ns l : List Nat} {i : Nat} (h : RdI L i ns l) (hi : i < 5) (h0 : (rd l).2.2 = 0) : RdI L (i + 1) (ns ++ [(rd l).1]) (l.drop (rd l).2.1) := by
  unfold RdI at h ⊢
  rw [h, show 5 - i = (5 - (i + 1)) + 1 by omega]
  simp only [rdk, h0, if_true, List.append_assoc, List.singleton_append]
theorem RdI.err {L ns l : List Nat} {i : Nat} (h : RdI L i ns l) (hi : i < 5) (h0 : (rd l).2.2 ≠ 0) : (rdk 5 L).2.2 = (rd l).2.2 := by
  unfold RdI at h
  rw [h, show 5 - i = (5 - (i + 1)) + 1 by omega]
  simp only [rdk, h0, if_false]
theorem RdI.all {L ns l : List Nat} (h : RdI L 5 ns l) : rdk 5 L = (ns, l, 0) := by
  unfold RdI at h; rw [h]; simp [rdk]
theorem five {l : List Nat} (h : l.length = 5) : ∃ a b c d e, l = [a, b, c, d, e] := by
  match l, h with
  | [a, b, c, d, e], _ => exact ⟨a, b, c, d, e, rfl⟩
end Go.Proofs.YtbcmglggplmkfaaDoor
