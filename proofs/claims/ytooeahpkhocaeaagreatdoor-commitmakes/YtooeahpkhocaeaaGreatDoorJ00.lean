/- Plain mathematics: numbers as bytes, and read again, as the document's chapter 2 says it. No condition. -/
import Derived.Test.YtooeahpkhocaeaaGreatDoorRows
import Derived.WalkKit
import Derived.WalkSpells
import Derived.WalkLawsBesides
import Derived.Laws.BitsAllLaws
import Derived.Lib.Hide
namespace Wire

def num (n : Nat) : List Nat := if n < 128 then [n] else (n % 128 + 128) :: num (n / 128)
termination_by n
decreasing_by omega
theorem num_lt {n : Nat} (h : n < 128) : num n = [n] := by rw [num, if_pos h]
theorem num_ge {n : Nat} (h : ¬ n < 128) : num n = (n % 128 + 128) :: num (n / 128) := by rw [num, if_neg h]
theorem num_bytes (n : Nat) : ∀ x ∈ num n, x < 256 := by
  induction n using Nat.strongRecOn with
  | _ n ih =>
    intro x hx
    by_cases h : n < 128
    · rw [num_lt h] at hx
      rw [List.mem_singleton.1 hx]; omega
    · rw [num_ge h] at hx
      rcases List.mem_cons.1 hx with rfl | hx
      · omega
      · exact ih (n / 128) (by omega) x hx
theorem num_pos (n : Nat) : 0 < (num n).length := by
  by_cases h : n < 128
  · rw [num_lt h]; simp
  · rw [num_ge h]; simp
theorem num_le : ∀ (k n : Nat), n < 128 ^ (k + 1) → (num n).length ≤ k + 1
  | 0, n, h => by rw [num_lt (by simpa using h)]; simp
  | k + 1, n, h => by
    by_cases h1 : n < 128
    · rw [num_lt h1]; simp
    · rw [num_ge h1]
      have := num_le k (n / 128) (by rw [Nat.pow_succ] at h; exact Nat.div_lt_of_lt_mul (by rw [Nat.mul_comm]; exact h))
      simp; omega
theorem num_len10 (n : Nat) (h : n < 18446744073709551616) : (num n).length ≤ 10 := num_le 9 n (by omega)
theorem num_one (n : Nat) : (num n).length = 1 ↔ n < 128 := by
  by_cases h : n < 128
  · rw [num_lt h]; simp [h]
  · rw [num_ge h]
    have := num_pos (n / 128)
    simp [h]
    intro e
    rw [e] at this
    simp at this
/-- What is read from place k on, v having come of the k bytes ahead: the number, how many bytes it has, the error. -/
def rdFrom : Nat → Nat → List Nat → Nat × Nat × Nat
  | _, _, [] => (0, 0, 20)
  | k, v, c :: r => if (0 < k ∧ c = 0) ∨ (k = 9 ∧ 1 < c) then (0, 0, 21) else if c < 128 then (v + c % 128 * 128 ^ k, k + 1, 0) else rdFrom (k + 1) (v + c % 128 * 128 ^ k) r
def rd (l : List Nat) : Nat × Nat × Nat := rdFrom 0 0 l
theorem rdFrom_form {k v c : Nat} {r : List Nat} (h : (0 < k ∧ c = 0) ∨ (k = 9 ∧ 1 < c)) : rdFrom k v (c :: r) = (0, 0, 21) := by rw [rdFrom, if_pos h]
theorem rdFrom_last {k v c : Nat} {r : List Nat} (h : ¬ ((0 < k ∧ c = 0) ∨ (k = 9 ∧ 1 < c))) (hc : c < 128) : rdFrom k v (c :: r) = (v + c % 128 * 128 ^ k, k + 1, 0) := by rw [rdFrom, if_neg h, if_pos hc]
theorem rdFrom_more {k v c : Nat} {r : List Nat} (h : ¬ ((0 < k ∧ c = 0) ∨ (k = 9 ∧ 1 < c))) (hc : ¬ c < 128) : rdFrom k v (c :: r) = rdFrom (k + 1) (v + c % 128 * 128 ^ k) r := by rw [rdFrom, if_neg h, if_neg hc]

/-- What was written is read again. -/
theorem rdFrom_num : ∀ (d k v n : Nat) (r : List Nat), k + d = 9 → (0 < k → 0 < n) → n < 2 * 128 ^ d → rdFrom k v (num n ++ r) = (v + n * 128 ^ k, k + (num n).length, 0)
  | 0, k, v, n, r, hk, hp, hn => by
    have hn2 : n < 2 := by simpa using hn
    rw [num_lt (by omega), List.singleton_append, rdFrom_last (by omega) (by omega)]
    simp [Nat.mod_eq_of_lt (show n < 128 by omega)]
  | d + 1, k, v, n, r, hk, hp, hn => by
    by_cases h : n < 128
    · rw [num_lt h, List.singleton_append, rdFrom_last (by omega) h]
      simp [Nat.mod_eq_of_lt h]
    · rw [num_ge h, List.cons_append, rdFrom_more (by omega) (by omega), rdFrom_num d (k + 1) _ (n / 128) r (by omega) (by omega) (by
        rw [Nat.pow_succ] at hn
        exact Nat.div_lt_of_lt_mul (by omega))]
      refine Prod.ext ?_ (Prod.ext ?_ rfl)
      · show v + (n % 128 + 128) % 128 * 128 ^ k + n / 128 * 128 ^ (k + 1) = v + n * 128 ^ k
        have e : n = n % 128 + n / 128 * 128 := by omega
        rw [show (n % 128 + 128) % 128 = n % 128 by omega, Nat.pow_succ]
        conv => rhs; rw [e]
        rw [Nat.add_mul, Nat.mul_assoc, Nat.mul_comm 128 (128 ^ k)]
        omega
      · simp; omega
theorem rd_num (n : Nat) (r : List Nat) (h : n < 18446744073709551616) : rd (num n ++ r) = (n, (num n).length, 0) := by
  have := rdFrom_num 9 0 0 n r rfl (by omega) (by simpa using h)
  simpa [rd] using this
/-- What is read was written so. -/
theorem rdFrom_back : ∀ (l : List Nat) (k v x m : Nat), (∀ c ∈ l, c < 256) → k ≤ 9 → rdFrom k v l = (x, m, 0) → ∃ n j, x = v + n * 128 ^ k ∧ m = k + j ∧ j ≤ l.length ∧ l.take j = num n ∧ (0 < k → 0 < n) ∧ 0 < j ∧ n < 2 * 128 ^ (9 - k)
  | [], k, v, x, m, _, _, h => by simp [rdFrom] at h
  | c :: r, k, v, x, m, hb, hk, h => by
    by_cases hf : (0 < k ∧ c = 0) ∨ (k = 9 ∧ 1 < c)
    · rw [rdFrom_form hf] at h; simp at h
    · by_cases hc : c < 128
      · rw [rdFrom_last hf hc] at h
        simp only [Prod.mk.injEq] at h
        refine ⟨c, 1, by rw [← h.1, Nat.mod_eq_of_lt hc], h.2.1.symm, by simp, by rw [num_lt hc]; simp, by omega, by omega, ?_⟩
        by_cases h9 : k = 9
        · subst h9; simp; omega
        · have : 128 ^ 1 ≤ 128 ^ (9 - k) := Nat.pow_le_pow_right (by omega) (by omega)
          omega
      · rw [rdFrom_more hf hc] at h
        have hcb := hb c (List.mem_cons_self ..)
        have hk9 : k ≠ 9 := by omega
        obtain ⟨n, j, e1, e2, e3, e4, e5, e6, e7⟩ := rdFrom_back r (k + 1) _ x m (fun c hc => hb c (List.mem_cons_of_mem _ hc)) (by omega) h
        have hn : 0 < n := e5 (by omega)
        refine ⟨c % 128 + n * 128, j + 1, ?_, by omega, by simp; exact e3, ?_, by omega, by omega, ?_⟩
        · rw [e1, Nat.pow_succ, Nat.add_mul, Nat.mul_assoc, Nat.mul_comm 128 (128 ^ k)]; omega
        · rw [List.take_succ_cons, e4, num_ge (show ¬ c % 128 + n * 128 < 128 by omega), show (c % 128 + n * 128) % 128 + 128 = c by omega, show (c % 128 + n * 128) / 128 = n by omega]
        · have : 9 - k = 9 - (k + 1) + 1 := by omega
          rw [this, Nat.pow_succ]
          generalize 128 ^ (9 - (k + 1)) = q at *
          omega
theorem rd_back (l : List Nat) (x m : Nat) (hb : ∀ c ∈ l, c < 256) (h : rd l = (x, m, 0)) : m ≤ l.length ∧ 0 < m ∧ l.take m = num x ∧ x < 18446744073709551616 := by
  obtain ⟨n, j, e1, e2, e3, e4, _, e6, e7⟩ := rdFrom_back l 0 0 x m hb (by omega) h
  simp at e1 e2
  subst e1 e2
  exact ⟨e3, e6, e4, by simpa using e7⟩
/-- The errors. -/
theorem rdFrom_err : ∀ (l : List Nat) (k v : Nat), (rdFrom k v l).2.2 = 0 ∨ ((rdFrom k v l) = (0, 0, 20)) ∨ rdFrom k v l = (0, 0, 21)
  | [], k, v => by simp [rdFrom]
  | c :: r, k, v => by
    rw [rdFrom]
    split
    · simp
    · split
      · simp
      · exact rdFrom_err r _ _
theorem rd_err (l : List Nat) : (rd l).2.2 = 0 ∨ rd l = (0, 0, 20) ∨ rd l = (0, 0, 21) := rdFrom_err l 0 0
/-- One that may be below 0. -/
def fold (n : Int) : Nat := if 0 ≤ n then 2 * n.toNat else 2 * (-1 - n).toNat + 1
theorem fold_lt (n : Int) (h1 : -9223372036854775808 ≤ n) (h2 : n ≤ 9223372036854775807) : fold n < 18446744073709551616 := by
  unfold fold
  split <;> omega
end Wire
/- Plain mathematics: commitments as bytes, and read again. No condition. -/
namespace Go.Proofs.YtooeahpkhocaeaaGreatDoor
open Wire
set_option maxRecDepth 100000

/-- A commitment: whose, of which step, two kinds of sums as lists of bytes. -/
structure Cm where
  w : Int
  st : Int
  root : List Nat
  bs : List (List Nat)
  deriving DecidableEq
/-- A sum is of 32 bytes. -/
def sumOk (h : List Nat) : Prop := h.length = 32 ∧ ∀ c ∈ h, c < 256
structure Cm.Ok (c : Cm) : Prop where
  root : sumOk c.root
  bs : ∀ h ∈ c.bs, sumOk h
def zero32 : List Nat := List.replicate 32 0
def noCm : Cm := ⟨0, 0, zero32, []⟩
def rightC (c : Cm) : Bool := decide (0 ≤ c.w) && decide (c.w < 64) && decide (0 ≤ c.st) && decide (c.st < 64) && decide (1 ≤ c.bs.length) && decide (c.bs.length ≤ 64)
def bytesC (c : Cm) : List Nat := 67 :: (num c.w.toNat ++ (num c.st.toNat ++ (c.root ++ (num c.bs.length ++ c.bs.flatten))))
/-- So many sums, one behind the other: they, what is left, what is wrong. -/
def rdHs : Nat → List Nat → List (List Nat) × List Nat × Nat
  | 0, l => ([], l, 0)
  | k + 1, l => if l.length < 32 then ([], [], 20) else (l.take 32 :: (rdHs k (l.drop 32)).1, (rdHs k (l.drop 32)).2)
/-- What stands behind the numbers and the root. -/
def getC4 (a b : Nat) (root : List Nat) (n : Nat) (l : List Nat) : Cm × Nat :=
  if 63 < a ∨ 63 < b ∨ n < 1 ∨ 64 < n then (noCm, 120)
  else if (rdHs n l).2.2 ≠ 0 then (noCm, (rdHs n l).2.2)
  else if (rdHs n l).2.1 ≠ [] then (noCm, 22)
  else (⟨a, b, root, (rdHs n l).1⟩, 0)
def getC3 (a b : Nat) (root l : List Nat) : Cm × Nat := if (rd l).2.2 ≠ 0 then (noCm, (rd l).2.2) else getC4 a b root (rd l).1 (l.drop (rd l).2.1)
def getC2 (a b : Nat) (l : List Nat) : Cm × Nat := if l.length < 32 then (noCm, 20) else getC3 a b (l.take 32) (l.drop 32)
def getC1 (a : Nat) (l : List Nat) : Cm × Nat := if (rd l).2.2 ≠ 0 then (noCm, (rd l).2.2) else getC2 a (rd l).1 (l.drop (rd l).2.1)
def getC0 (l : List Nat) : Cm × Nat := if (rd l).2.2 ≠ 0 then (noCm, (rd l).2.2) else getC1 (rd l).1 (l.drop (rd l).2.1)
/-- What bytes are: a commitment, and what is wrong. -/
def getC : List Nat → Cm × Nat
  | [] => (noCm, 120)
  | c :: l => if c = 67 then getC0 l else (noCm, 120)
theorem getC_67 (l : List Nat) : getC (67 :: l) = getC0 l := by simp [getC]
theorem rightC_iff (c : Cm) : rightC c = true ↔ 0 ≤ c.w ∧ c.w < 64 ∧ 0 ≤ c.st ∧ c.st < 64 ∧ 1 ≤ c.bs.length ∧ c.bs.length ≤ 64 := by
  simp [rightC, and_assoc]
theorem rdHs_flat : ∀ (bs : List (List Nat)) (r : List Nat), (∀ h ∈ bs, h.length = 32) → rdHs bs.length (bs.flatten ++ r) = (bs, r, 0)
  | [], r, _ => by simp [rdHs]
  | h :: bs, r, hb => by
    have h1 := hb h (by simp)
    have ih := rdHs_flat bs r (fun x hx => hb x (by simp [hx]))
    simp only [List.length_cons, List.flatten_cons, List.append_assoc, rdHs]
    rw [if_neg (by rw [List.length_append]; omega), List.take_left' h1, List.drop_left' h1, ih]
theorem num_drop (n : Nat) (r : List Nat) (h : n < 18446744073709551616) : (rd (num n ++ r)).1 = n ∧ (rd (num n ++ r)).2.2 = 0 ∧ (num n ++ r).drop (rd (num n ++ r)).2.1 = r := by
  rw [rd_num n r h]; exact ⟨rfl, rfl, by simp⟩
/-- Bytes of a commitment, and more behind them. -/
theorem getC_more {c : Cm} (hr : rightC c = true) (ho : c.Ok) (r : List Nat) : getC (bytesC c ++ r) = if r = [] then (c, 0) else (noCm, 22) := by
  obtain ⟨h1, h2, h3, h4, h5, h6⟩ := (rightC_iff c).1 hr
  have hroot := ho.root.1
  obtain ⟨a1, a2, a3⟩ := num_drop c.w.toNat (num c.st.toNat ++ (c.root ++ (num c.bs.length ++ (c.bs.flatten ++ r)))) (by omega)
  obtain ⟨b1, b2, b3⟩ := num_drop c.st.toNat (c.root ++ (num c.bs.length ++ (c.bs.flatten ++ r))) (by omega)
  obtain ⟨d1, d2, d3⟩ := num_drop c.bs.length (c.bs.flatten ++ r) (by omega)
  have hf := rdHs_flat c.bs r (fun h hh => (ho.bs h hh).1)
  have e : bytesC c ++ r = 67 :: (num c.w.toNat ++ (num c.st.toNat ++ (c.root ++ (num c.bs.length ++ (c.bs.flatten ++ r))))) := by simp [bytesC]
  rw [e, getC_67]
  unfold getC0
  rw [if_neg (by rw [a2]; simp), a1, a3]
  unfold getC1
  rw [if_neg (by rw [b2]; simp), b1, b3]
  unfold getC2
  rw [if_neg (by rw [List.length_append]; omega), List.take_left' hroot, List.drop_left' hroot]
  unfold getC3
  rw [if_neg (by rw [d2]; simp), d1, d3]
  unfold getC4
  rw [if_neg (by omega), hf]
  simp only [ne_eq, not_true_eq_false, if_false]
  by_cases hn : r = []
  · rw [if_neg (by simp [hn]), if_pos hn]
    obtain ⟨w, st, root, bs⟩ := c
    simp only [Prod.mk.injEq, and_true, Cm.mk.injEq]
    exact ⟨Int.toNat_of_nonneg h1, Int.toNat_of_nonneg h3⟩
  · rw [if_pos hn, if_neg hn]
theorem getC_bytes {c : Cm} (hr : rightC c = true) (ho : c.Ok) : getC (bytesC c) = (c, 0) := by
  have h := getC_more hr ho []
  rwa [List.append_nil, if_pos rfl] at h
theorem bytesC_lt {c : Cm} (ho : c.Ok) : ∀ x ∈ bytesC c, x < 256 := fun x hx => by
  simp only [bytesC, List.mem_cons, List.mem_append, List.mem_flatten] at hx
  rcases hx with rfl | hx | hx | hx | hx | ⟨h, hh, hx⟩
  · omega
  · exact num_bytes _ x hx
  · exact num_bytes _ x hx
  · exact ho.root.2 x hx
  · exact num_bytes _ x hx
  · exact (ho.bs h hh).2 x hx
end Go.Proofs.YtooeahpkhocaeaaGreatDoor
/- Plain mathematics: the sum SHA-256 on lists of natural numbers (bytes), as the document's chapter 1 says it. No condition. -/
namespace Sha

def rotr (k x : Nat) : Nat := x / 2 ^ k + x % 2 ^ k * 2 ^ (32 - k)
def s0 (x : Nat) : Nat := rotr 7 x ^^^ rotr 18 x ^^^ x / 8
def s1 (x : Nat) : Nat := rotr 17 x ^^^ rotr 19 x ^^^ x / 1024
def e1 (x : Nat) : Nat := rotr 6 x ^^^ rotr 11 x ^^^ rotr 25 x
def e0 (x : Nat) : Nat := rotr 2 x ^^^ rotr 13 x ^^^ rotr 22 x
def ch (e f g : Nat) : Nat := (e &&& f) ^^^ ((4294967295 - e) &&& g)
def maj (a b c : Nat) : Nat := (a &&& b) ^^^ (a &&& c) ^^^ (b &&& c)

def K : List Nat := [1116352408, 1899447441, 3049323471, 3921009573, 961987163, 1508970993, 2453635748, 2870763221, 3624381080, 310598401, 607225278, 1426881987, 1925078388, 2162078206, 2614888103, 3248222580, 3835390401, 4022224774, 264347078, 604807628, 770255983, 1249150122, 1555081692, 1996064986, 2554220882, 2821834349, 2952996808, 3210313671, 3336571891, 3584528711, 113926993, 338241895, 666307205, 773529912, 1294757372, 1396182291, 1695183700, 1986661051, 2177026350, 2456956037, 2730485921, 2820302411, 3259730800, 3345764771, 3516065817, 3600352804, 4094571909, 275423344, 430227734, 506948616, 659060556, 883997877, 958139571, 1322822218, 1537002063, 1747873779, 1955562222, 2024104815, 2227730452, 2361852424, 2428436474, 2756734187, 3204031479, 3329325298]

/-- The t-th of a block's first 16 numbers. -/
def word (b : List Nat) (t : Nat) : Nat := b.getD (4 * t) 0 * 16777216 + b.getD (4 * t + 1) 0 * 65536 + b.getD (4 * t + 2) 0 * 256 + b.getD (4 * t + 3) 0
/-- The next number behind those that are there. -/
def next (b l : List Nat) : Nat := if l.length < 16 then word b l.length else (l.getD (l.length - 16) 0 + l.getD (l.length - 7) 0 + s0 (l.getD (l.length - 15) 0) + s1 (l.getD (l.length - 2) 0)) % 4294967296
def sched (b : List Nat) : Nat → List Nat
  | 0 => []
  | t + 1 => sched b t ++ [next b (sched b t)]

structure St where
  a : Nat
  b : Nat
  c : Nat
  d : Nat
  e : Nat
  f : Nat
  g : Nat
  h : Nat

def t1 (k w : Nat) (s : St) : Nat := s.h + e1 s.e + ch s.e s.f s.g + k + w
def t2 (s : St) : Nat := e0 s.a + maj s.a s.b s.c
def rnd (k w : Nat) (s : St) : St := ⟨(t1 k w s + t2 s) % 4294967296, s.a, s.b, s.c, (s.d + t1 k w s) % 4294967296, s.e, s.f, s.g⟩
def rounds (ws : List Nat) : Nat → St → St
  | 0, s => s
  | n + 1, s => rnd (K.getD n 0) (ws.getD n 0) (rounds ws n s)
def plus (s r : St) : St := ⟨(s.a + r.a) % 4294967296, (s.b + r.b) % 4294967296, (s.c + r.c) % 4294967296, (s.d + r.d) % 4294967296, (s.e + r.e) % 4294967296, (s.f + r.f) % 4294967296, (s.g + r.g) % 4294967296, (s.h + r.h) % 4294967296⟩
def compress (s : St) (b : List Nat) : St := plus s (rounds (sched b 64) 64 s)
def init : St := ⟨1779033703, 3144134277, 1013904242, 2773480762, 1359893119, 2600822924, 528734635, 1541459225⟩
/-- n blocks. -/
def run : Nat → St → List Nat → St
  | 0, s, _ => s
  | n + 1, s, l => run n (compress s (l.take 64)) (l.drop 64)
def St.list (s : St) : List Nat := [s.a, s.b, s.c, s.d, s.e, s.f, s.g, s.h]
def be4 (x : Nat) : List Nat := [x / 16777216, x / 65536 % 256, x / 256 % 256, x % 256]
def be8 (x : Nat) : List Nat := [x / 72057594037927936 % 256, x / 281474976710656 % 256, x / 1099511627776 % 256, x / 4294967296 % 256, x / 16777216 % 256, x / 65536 % 256, x / 256 % 256, x % 256]
def ending (n : Nat) : List Nat := 128 :: List.replicate ((119 - n % 64) % 64) 0 ++ be8 (8 * n)
def out (s : St) : List Nat := s.list.flatMap be4
def sha (l : List Nat) : List Nat := out (run ((l ++ ending l.length).length / 64) init (l ++ ending l.length))

/-! ### bounds -/
theorem xor_lt {a b : Nat} (ha : a < 4294967296) (hb : b < 4294967296) : a ^^^ b < 4294967296 := Nat.xor_lt_two_pow (n := 32) ha hb
theorem and_lt {a b : Nat} (hb : b < 4294967296) : a &&& b < 4294967296 := Nat.and_lt_two_pow (n := 32) _ hb
theorem and_lt' {a b : Nat} (ha : a < 4294967296) : a &&& b < 4294967296 := by rw [Nat.and_comm]; exact and_lt ha
theorem rotr_lt {k x : Nat} (hk : k ≤ 32) (hx : x < 4294967296) : rotr k x < 4294967296 := by
  unfold rotr
  have hp : 2 ^ k * 2 ^ (32 - k) = 4294967296 := by rw [← Nat.pow_add, show k + (32 - k) = 32 by omega]
  have hk0 : 0 < 2 ^ k := Nat.pow_pos (by omega)
  have h1 : x / 2 ^ k < 2 ^ (32 - k) := by rw [Nat.div_lt_iff_lt_mul hk0, Nat.mul_comm, hp]; exact hx
  have h2 : x % 2 ^ k + 1 ≤ 2 ^ k := Nat.mod_lt _ hk0
  have h3 : (x % 2 ^ k + 1) * 2 ^ (32 - k) ≤ 2 ^ k * 2 ^ (32 - k) := Nat.mul_le_mul_right _ h2
  rw [Nat.add_mul, hp, Nat.one_mul] at h3
  omega
theorem s0_lt {x : Nat} (hx : x < 4294967296) : s0 x < 4294967296 := xor_lt (xor_lt (rotr_lt (by omega) hx) (rotr_lt (by omega) hx)) (by omega)
theorem s1_lt {x : Nat} (hx : x < 4294967296) : s1 x < 4294967296 := xor_lt (xor_lt (rotr_lt (by omega) hx) (rotr_lt (by omega) hx)) (by omega)
theorem e1_lt {x : Nat} (hx : x < 4294967296) : e1 x < 4294967296 := xor_lt (xor_lt (rotr_lt (by omega) hx) (rotr_lt (by omega) hx)) (rotr_lt (by omega) hx)
theorem e0_lt {x : Nat} (hx : x < 4294967296) : e0 x < 4294967296 := xor_lt (xor_lt (rotr_lt (by omega) hx) (rotr_lt (by omega) hx)) (rotr_lt (by omega) hx)
theorem ch_lt {e f g : Nat} (he : e < 4294967296) (hg : g < 4294967296) : ch e f g < 4294967296 := xor_lt (and_lt' he) (and_lt hg)
theorem maj_lt {a b c : Nat} (ha : a < 4294967296) (hb : b < 4294967296) : maj a b c < 4294967296 := xor_lt (xor_lt (and_lt' ha) (and_lt' ha)) (and_lt' hb)

/-- The or of two parts that share no bit is their sum. -/
theorem or_parts (k x : Nat) (hk : k ≤ 32) (hx : x < 4294967296) : (x * 2 ^ (32 - k) % 4294967296) ||| (x / 2 ^ k) = rotr k x := by
  have hp : 2 ^ k * 2 ^ (32 - k) = 4294967296 := by rw [← Nat.pow_add, show k + (32 - k) = 32 by omega]
  have hk0 : 0 < 2 ^ k := Nat.pow_pos (by omega)
  have h1 : x / 2 ^ k < 2 ^ (32 - k) := by rw [Nat.div_lt_iff_lt_mul hk0, Nat.mul_comm, hp]; exact hx
  have hm : x * 2 ^ (32 - k) % 4294967296 = 2 ^ (32 - k) * (x % 2 ^ k) := by
    rw [← hp, Nat.mul_comm x, Nat.mul_comm (2 ^ k), Nat.mul_mod_mul_left]
  rw [hm, ← Nat.two_pow_add_eq_or_of_lt h1]
  unfold rotr
  rw [Nat.mul_comm, Nat.add_comm]

theorem sched_length (b : List Nat) (t : Nat) : (sched b t).length = t := by induction t <;> simp_all [sched]
theorem sched_get (b : List Nat) {i t : Nat} (h : i < t) : (sched b t).getD i 0 = next b (sched b i) := by
  induction t with
  | zero => omega
  | succ t ih =>
    have hl := sched_length b t
    by_cases hi : i < t
    · have := ih hi
      simp only [sched, List.getD_eq_getElem?_getD] at this ⊢
      rw [List.getElem?_append_left (by omega)]; exact this
    · obtain rfl : i = t := by omega
      simp only [sched, List.getD_eq_getElem?_getD]
      rw [List.getElem?_append_right (by omega)]; simp [hl]
def Bytes (l : List Nat) : Prop := ∀ x ∈ l, x < 256
theorem Bytes.getD {l : List Nat} (h : Bytes l) (i : Nat) : l.getD i 0 < 256 := by
  rw [List.getD_eq_getElem?_getD]
  by_cases hi : i < l.length
  · rw [List.getElem?_eq_getElem hi]; exact h _ (List.getElem_mem hi)
  · rw [List.getElem?_eq_none (by omega)]; simp
theorem word_lt {b : List Nat} (h : Bytes b) (t : Nat) : word b t < 4294967296 := by
  have h0 := h.getD (4 * t); have h1 := h.getD (4 * t + 1); have h2 := h.getD (4 * t + 2); have h3 := h.getD (4 * t + 3)
  unfold word; omega
theorem next_lt {b l : List Nat} (h : Bytes b) : next b l < 4294967296 := by
  unfold next; split
  · exact word_lt h _
  · omega
theorem sched_lt {b : List Nat} (h : Bytes b) (t i : Nat) : (sched b t).getD i 0 < 4294967296 := by
  by_cases hi : i < t
  · rw [sched_get b hi]; exact next_lt h
  · rw [List.getD_eq_getElem?_getD, List.getElem?_eq_none (by rw [sched_length]; omega)]; simp

structure St.Ok (s : St) : Prop where
  a : s.a < 4294967296
  b : s.b < 4294967296
  c : s.c < 4294967296
  d : s.d < 4294967296
  e : s.e < 4294967296
  f : s.f < 4294967296
  g : s.g < 4294967296
  h : s.h < 4294967296
theorem rnd_ok {k w : Nat} {s : St} (h : s.Ok) : (rnd k w s).Ok := ⟨Nat.mod_lt _ (by omega), h.a, h.b, h.c, Nat.mod_lt _ (by omega), h.e, h.f, h.g⟩
theorem rounds_ok {ws : List Nat} {s : St} (h : s.Ok) (n : Nat) : (rounds ws n s).Ok := by
  induction n with
  | zero => exact h
  | succ n ih => exact rnd_ok ih
theorem plus_ok (s r : St) : (plus s r).Ok := ⟨Nat.mod_lt _ (by omega), Nat.mod_lt _ (by omega), Nat.mod_lt _ (by omega), Nat.mod_lt _ (by omega), Nat.mod_lt _ (by omega), Nat.mod_lt _ (by omega), Nat.mod_lt _ (by omega), Nat.mod_lt _ (by omega)⟩
theorem compress_ok (s : St) (b : List Nat) : (compress s b).Ok := plus_ok _ _
theorem init_ok : init.Ok := ⟨by decide, by decide, by decide, by decide, by decide, by decide, by decide, by decide⟩
theorem run_ok (n : Nat) : ∀ {s : St} {l : List Nat}, s.Ok → (run n s l).Ok := by
  induction n with
  | zero => intro s l h; exact h
  | succ n ih => intro s l _; exact ih (compress_ok _ _)

end Sha
/- Walks of layer 1's small functions: RotateLeft32, turned. Conditions: the number has 32 bits, it is turned by 1 to 31. -/
namespace Go.Proofs.YtooeahpkhocaeaaGreatDoor
open Go.RowKit

theorem mask31 (k : Int) (h1 : 1 ≤ k) (h2 : k ≤ 31) : bits BinOp.and IntKind.u64 (IntKind.u64.wrap (-k)) 31 = 32 - k := by
  have h : ∀ k : Nat, k < 32 → 1 ≤ k → bits BinOp.and IntKind.u64 (IntKind.u64.wrap (-(k:Int))) 31 = 32 - (k : Int) := by decide +kernel
  obtain ⟨n, rfl⟩ := Int.eq_ofNat_of_zero_le (show 0 ≤ k by omega)
  exact h n (by omega) (by omega)

theorem rot_arith (x k : Int) (h0 : 0 ≤ x) (h1 : x < 4294967296) (hk1 : 1 ≤ k) (hk2 : k ≤ 31) :
    bits BinOp.or IntKind.u32 (x * 2 ^ (32 - k).toNat % 4294967296) (x / 2 ^ (32 - (32 - k)).toNat) = ((Sha.rotr k.toNat x.toNat : Nat) : Int) := by
  obtain ⟨X, rfl⟩ := Int.eq_ofNat_of_zero_le h0
  obtain ⟨n, rfl⟩ := Int.eq_ofNat_of_zero_le (show 0 ≤ k by omega)
  have e1 : ((32 : Int) - (n : Int)).toNat = 32 - n := by omega
  have e2 : ((32 : Int) - (32 - (n : Int))).toNat = n := by omega
  rw [e1, e2]
  have hd : (X : Int) / 2 ^ n = ((X / 2 ^ n : Nat) : Int) := by simp
  have hm : (X : Int) * 2 ^ (32 - n) % 4294967296 = ((X * 2 ^ (32 - n) % 4294967296 : Nat) : Int) := by simp
  have hlt : X / 2 ^ n < 4294967296 := Nat.lt_of_le_of_lt (Nat.div_le_self _ _) (by omega)
  rw [hd, hm, u32_or_nat _ _ (Nat.mod_lt _ (by omega)) hlt, Sha.or_parts n X (by omega) (by omega)]
  simp

set_option maxHeartbeats 400000 in
theorem turned_any (x k : Int) (w : World) (h0 : 0 ≤ x) (h1 : x < 4294967296) (hk1 : 1 ≤ k) (hk2 : k ≤ 31) :
    Calls Tryz.prog 103 #[.int .u32 x, .int .i64 k] w fun e w' => e = .returned (.int .u32 (Sha.rotr k.toNat x.toNat : Nat)) ∧ w = w' := by
  have hr := rot_arith x k h0 h1 hk1 hk2
  have he := mask31 k hk1 hk2
  have HR := Lib.hid hr
  clear hr
  go_enter Tryz.func103, Tryz.ntmps103
  go_wp2
  go_ret
  exact ⟨congrArg (fun n => Ending.returned (.int .u32 n)) (by rw [← HR.out]), rfl⟩

end Go.Proofs.YtooeahpkhocaeaaGreatDoor
