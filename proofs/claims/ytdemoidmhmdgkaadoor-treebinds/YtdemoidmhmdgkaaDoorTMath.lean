/- Plain mathematics: trees of sums, as the document's chapter 3 says it. No condition. -/
import Derived.Test.YtdemoidmhmdgkaaDoorMath2
import Derived.Test.YtdemoidmhmdgkaaDoorWMath
namespace Tree

/-- How many bits a number has. -/
def blen (x : Nat) : Nat := if x = 0 then 0 else Nat.log2 x + 1
def half (n : Nat) : Nat := 2 ^ Nat.log2 (n - 1)
theorem half_pos (n : Nat) : 1 ≤ half n := Nat.pow_pos (by omega)
theorem half_lt {n : Nat} (h : 2 ≤ n) : half n < n := by
  have := Nat.log2_self_le (n := n - 1) (by omega)
  unfold half; omega
theorem half_ge {n : Nat} (h : 2 ≤ n) : n ≤ 2 * half n := by
  have := Nat.lt_log2_self (n := n - 1)
  unfold half
  rw [Nat.pow_succ] at this
  omega
theorem half_blen {n : Nat} (h : 2 ≤ n) : half n = 2 ^ (blen (n - 1) - 1) := by
  unfold half blen
  rw [if_neg (by omega)]; simp
theorem blen_shift (x k : Nat) (h : 2 ^ k ≤ x) : blen x = blen (x / 2 ^ k) + k := by
  have hp : 0 < 2 ^ k := Nat.pow_pos (by omega)
  have hd : 0 < x / 2 ^ k := Nat.div_pos h hp
  unfold blen
  rw [if_neg (by omega), if_neg (by omega)]
  have h1 : x ≠ 0 := by omega
  have : Nat.log2 x = Nat.log2 (x / 2 ^ k) + k := by
    rw [Nat.log2_eq_iff h1]
    have h2 := Nat.log2_self_le (n := x / 2 ^ k) (by omega)
    have h3 := Nat.lt_log2_self (n := x / 2 ^ k)
    rw [Nat.le_div_iff_mul_le hp, ← Nat.pow_add] at h2
    rw [Nat.div_lt_iff_lt_mul hp, ← Nat.pow_add] at h3
    refine ⟨h2, ?_⟩
    rw [show Nat.log2 (x / 2 ^ k) + k + 1 = Nat.log2 (x / 2 ^ k) + 1 + k by omega]
    exact h3
  omega
theorem blen_le (x k : Nat) (h : x < 2 ^ k) : blen x ≤ k := by
  unfold blen
  split
  · omega
  · have := (Nat.log2_lt (by assumption)).2 h
    omega
theorem blen_pos {x : Nat} (h : 0 < x) : 1 ≤ blen x := by unfold blen; rw [if_neg (by omega)]; omega

def leaf (s : List Nat) : List Nat := Sha.sha (0 :: s)
def node (a b : List Nat) : List Nat := Sha.sha (1 :: (a ++ b))
def root (n : Nat) (t : List Nat) : List Nat := Sha.sha (3 :: (Wire.num n ++ t))
def top (l : List (List Nat)) : List Nat :=
  if _h : l.length < 2 then (match l with | [] => Sha.sha [2] | s :: _ => leaf s)
  else node (top (l.take (half l.length))) (top (l.drop (half l.length)))
termination_by l.length
decreasing_by
  · have := half_lt (n := l.length) (by omega); rw [List.length_take]; omega
  · have := half_pos l.length; have := half_lt (n := l.length) (by omega); rw [List.length_drop]; omega
theorem top_nil : top [] = Sha.sha [2] := by rw [top]; simp
theorem top_one (s : List Nat) : top [s] = leaf s := by rw [top]; simp
theorem top_more {l : List (List Nat)} (h : 2 ≤ l.length) : top l = node (top (l.take (half l.length))) (top (l.drop (half l.length))) := by
  rw [top, dif_neg (by omega)]
/-- The parts beside the way from a leaf up: from, to, left. -/
def path (first n at_ : Nat) : List (Nat × Nat × Bool) :=
  if _h : n < 2 then []
  else if at_ < first + half n then path first (half n) at_ ++ [(first + half n, first + n, false)]
  else path (first + half n) (n - half n) at_ ++ [(first, first + half n, true)]
termination_by n
decreasing_by
  · exact half_lt (by omega)
  · have := half_pos n; omega
theorem path_small {first n at_ : Nat} (h : n < 2) : path first n at_ = [] := by rw [path, dif_pos h]
theorem path_left {first n at_ : Nat} (h : 2 ≤ n) (ha : at_ < first + half n) : path first n at_ = path first (half n) at_ ++ [(first + half n, first + n, false)] := by
  rw [path, dif_neg (by omega), if_pos ha]
theorem path_right {first n at_ : Nat} (h : 2 ≤ n) (ha : ¬ at_ < first + half n) : path first n at_ = path (first + half n) (n - half n) at_ ++ [(first, first + half n, true)] := by
  rw [path, dif_neg (by omega), if_neg ha]
/-- One part beside the way. -/
def step (t other : List Nat) (left : Bool) : List Nat := if left then node other t else node t other
theorem leaf_len (s : List Nat) : (leaf s).length = 32 := Sha.Holds.sumText
theorem node_len (a b : List Nat) : (node a b).length = 32 := Sha.Holds.sumText
end Tree
