/- A region that draws, where a guard may be of an operation that was not wanted itself. No condition. -/
import Derived.Test.YtooeahpkhocaeaaDoorEngK
import Derived.Test.YtooeahpkhocaeaaDoorJ00
import Derived.Test.YtooeahpkhocaeaaDoorRows
import Derived.WalkKit
import Derived.WalkSpells
import Derived.WalkLawsBesides
import Derived.Laws.BitsAllLaws
import Derived.Lib.Hide
namespace Go.Proofs.YtooeahpkhocaeaaDoor
open Go.RowKit
set_option maxRecDepth 100000

section
variable {P : Program} {K : World → World → Prop} {ops : Array Oper} {Q : Exit → Act → World → Prop} {S : World → Prop} {L : List (Nat × Value)} {n : Nat}
end
end Go.Proofs.YtooeahpkhocaeaaDoor
/- A region that draws, where an operation may yield nothing: a store. No condition. -/
namespace Go.Proofs.YtooeahpkhocaeaaDoor
open Go.RowKit
set_option maxRecDepth 100000

section
variable {P : Program} {K : World → World → Prop} {ops : Array Oper} {Q : Exit → Act → World → Prop} {S : World → Prop} {L : List (Nat × Value)} {n : Nat}
end
end Go.Proofs.YtooeahpkhocaeaaDoor
/- Plain mathematics: the sum SHA-256 on lists of natural numbers (bytes), as the document's chapter 1 says it. No condition. -/
namespace Sha

def rotr (k x : Nat) : Nat := x / 2 ^ k + x % 2 ^ k * 2 ^ (32 - k)
def s0 (x : Nat) : Nat := rotr 7 x ^^^ rotr 18 x ^^^ x / 8
def s1 (x : Nat) : Nat := rotr 17 x ^^^ rotr 19 x ^^^ x / 1024
def e1 (x : Nat) : Nat := rotr 6 x ^^^ rotr 11 x ^^^ rotr 25 x
def e0 (x : Nat) : Nat := rotr 2 x ^^^ rotr 13 x ^^^ rotr 22 x
def ch (e f g : Nat) : Nat := (e &&& f) ^^^ ((4294967295 - e) &&& g)
def maj (a b c : Nat) : Nat := (a &&& b) ^^^ (a &&& c) ^^^ (b &&& c)

def K : List Nat := [1116352408, 1899447441, 3049323471, 3921009573, 961987163, 1508970993, 2453635748, 2870763221, 3624381080, 310598401, 607225278, 1426881987, 1925078388, 2162078206, 2614888103, 3248222580, 3835390401, 4022224774, 264347078, 604807628, 770255983, 1249150122, 1555081692, 1996064986, 2554220882, 2821834349, 2952996808, 3210313671, 3336571891, 3584528711, 113926993, 338241895, 666307205, 773529912, 1294757372, 1396182291, 1695183700, 1986661051, 2177026350, 2456956037, 2730485921, 2820302411, 3259730800, 3345764771, 3516065817, 3600352804, 4094571909, 275423344, 430227734, 506948616, 659060556, 883997877, 958139571, 1322822218, 1537002063, 1747873779, 1955562222, 2024104815, 2227730452, 2361852424, 2428436474, 2756734187, 3204031479, 3329325298]

/-- The t-th of a block's first 16 numbers. -/
def word (b : List Nat) (t : Nat) : Nat := b.getD (4 * t) 0 * 16777216 + b.getD (4 * t + 1) 0 * 65536 + b.getD (4 * t + 2) 0 * 256 + b.getD (4 * t + 3) 0
/-- The next number behind those that are there. -/
def next (b l : List Nat) : Nat := if l.length < 16 then word b l.length else (l.getD (l.length - 16) 0 + l.getD (l.length - 7) 0 + s0 (l.getD (l.length - 15) 0) + s1 (l.getD (l.length - 2) 0)) % 4294967296
def sched (b : List Nat) : Nat → List Nat
  | 0 => []
  | t + 1 => sched b t ++ [next b (sched b t)]

structure St where
  a : Nat
  b : Nat
  c : Nat
  d : Nat
  e : Nat
  f : Nat
  g : Nat
  h : Nat

def t1 (k w : Nat) (s : St) : Nat := s.h + e1 s.e + ch s.e s.f s.g + k + w
def t2 (s : St) : Nat := e0 s.a + maj s.a s.b s.c
def rnd (k w : Nat) (s : St) : St := ⟨(t1 k w s + t2 s) % 4294967296, s.a, s.b, s.c, (s.d + t1 k w s) % 4294967296, s.e, s.f, s.g⟩
def rounds (ws : List Nat) : Nat → St → St
  | 0, s => s
  | n + 1, s => rnd (K.getD n 0) (ws.getD n 0) (rounds ws n s)
def plus (s r : St) : St := ⟨(s.a + r.a) % 4294967296, (s.b + r.b) % 4294967296, (s.c + r.c) % 4294967296, (s.d + r.d) % 4294967296, (s.e + r.e) % 4294967296, (s.f + r.f) % 4294967296, (s.g + r.g) % 4294967296, (s.h + r.h) % 4294967296⟩
def compress (s : St) (b : List Nat) : St := plus s (rounds (sched b 64) 64 s)
def init : St := ⟨1779033703, 3144134277, 1013904242, 2773480762, 1359893119, 2600822924, 528734635, 1541459225⟩
/-- n blocks. -/
def run : Nat → St → List Nat → St
  | 0, s, _ => s
  | n + 1, s, l => run n (compress s (l.take 64)) (l.drop 64)
def St.list (s : St) : List Nat := [s.a, s.b, s.c, s.d, s.e, s.f, s.g, s.h]
def be4 (x : Nat) : List Nat := [x / 16777216, x / 65536 % 256, x / 256 % 256, x % 256]
def be8 (x : Nat) : List Nat := [x / 72057594037927936 % 256, x / 281474976710656 % 256, x / 1099511627776 % 256, x / 4294967296 % 256, x / 16777216 % 256, x / 65536 % 256, x / 256 % 256, x % 256]
def ending (n : Nat) : List Nat := 128 :: List.replicate ((119 - n % 64) % 64) 0 ++ be8 (8 * n)
def out (s : St) : List Nat := s.list.flatMap be4
def sha (l : List Nat) : List Nat := out (run ((l ++ ending l.length).length / 64) init (l ++ ending l.length))

/-! ### bounds -/
theorem xor_lt {a b : Nat} (ha : a < 4294967296) (hb : b < 4294967296) : a ^^^ b < 4294967296 := Nat.xor_lt_two_pow (n := 32) ha hb
theorem and_lt {a b : Nat} (hb : b < 4294967296) : a &&& b < 4294967296 := Nat.and_lt_two_pow (n := 32) _ hb
theorem rotr_lt {k x : Nat} (hk : k ≤ 32) (hx : x < 4294967296) : rotr k x < 4294967296 := by
  unfold rotr
  have hp : 2 ^ k * 2 ^ (32 - k) = 4294967296 := by rw [← Nat.pow_add, show k + (32 - k) = 32 by omega]
  have hk0 : 0 < 2 ^ k := Nat.pow_pos (by omega)
  have h1 : x / 2 ^ k < 2 ^ (32 - k) := by rw [Nat.div_lt_iff_lt_mul hk0, Nat.mul_comm, hp]; exact hx
  have h2 : x % 2 ^ k + 1 ≤ 2 ^ k := Nat.mod_lt _ hk0
  have h3 : (x % 2 ^ k + 1) * 2 ^ (32 - k) ≤ 2 ^ k * 2 ^ (32 - k) := Nat.mul_le_mul_right _ h2
  rw [Nat.add_mul, hp, Nat.one_mul] at h3
  omega
/-- The or of two parts that share no bit is their sum. -/
theorem or_parts (k x : Nat) (hk : k ≤ 32) (hx : x < 4294967296) : (x * 2 ^ (32 - k) % 4294967296) ||| (x / 2 ^ k) = rotr k x := by
  have hp : 2 ^ k * 2 ^ (32 - k) = 4294967296 := by rw [← Nat.pow_add, show k + (32 - k) = 32 by omega]
  have hk0 : 0 < 2 ^ k := Nat.pow_pos (by omega)
  have h1 : x / 2 ^ k < 2 ^ (32 - k) := by rw [Nat.div_lt_iff_lt_mul hk0, Nat.mul_comm, hp]; exact hx
  have hm : x * 2 ^ (32 - k) % 4294967296 = 2 ^ (32 - k) * (x % 2 ^ k) := by
    rw [← hp, Nat.mul_comm x, Nat.mul_comm (2 ^ k), Nat.mul_mod_mul_left]
  rw [hm, ← Nat.two_pow_add_eq_or_of_lt h1]
  unfold rotr
  rw [Nat.mul_comm, Nat.add_comm]

theorem sched_length (b : List Nat) (t : Nat) : (sched b t).length = t := by induction t <;> simp_all [sched]
theorem sched_get (b : List Nat) {i t : Nat} (h : i < t) : (sched b t).getD i 0 = next b (sched b i) := by
  induction t with
  | zero => omega
  | succ t ih =>
    have hl := sched_length b t
    by_cases hi : i < t
    · have := ih hi
      simp only [sched, List.getD_eq_getElem?_getD] at this ⊢
      rw [List.getElem?_append_left (by omega)]; exact this
    · obtain rfl : i = t := by omega
      simp only [sched, List.getD_eq_getElem?_getD]
      rw [List.getElem?_append_right (by omega)]; simp [hl]
def Bytes (l : List Nat) : Prop := ∀ x ∈ l, x < 256
theorem Bytes.getD {l : List Nat} (h : Bytes l) (i : Nat) : l.getD i 0 < 256 := by
  rw [List.getD_eq_getElem?_getD]
  by_cases hi : i < l.length
  · rw [List.getElem?_eq_getElem hi]; exact h _ (List.getElem_mem hi)
  · rw [List.getElem?_eq_none (by omega)]; simp
theorem word_lt {b : List Nat} (h : Bytes b) (t : Nat) : word b t < 4294967296 := by
  have h0 := h.getD (4 * t); have h1 := h.getD (4 * t + 1); have h2 := h.getD (4 * t + 2); have h3 := h.getD (4 * t + 3)
  unfold word; omega
theorem next_lt {b l : List Nat} (h : Bytes b) : next b l < 4294967296 := by
  unfold next; split
  · exact word_lt h _
  · omega
theorem sched_lt {b : List Nat} (h : Bytes b) (t i : Nat) : (sched b t).getD i 0 < 4294967296 := by
  by_cases hi : i < t
  · rw [sched_get b hi]; exact next_lt h
  · rw [List.getD_eq_getElem?_getD, List.getElem?_eq_none (by rw [sched_length]; omega)]; simp

structure St.Ok (s : St) : Prop where
  a : s.a < 4294967296
  b : s.b < 4294967296
  c : s.c < 4294967296
  d : s.d < 4294967296
  e : s.e < 4294967296
  f : s.f < 4294967296
  g : s.g < 4294967296
  h : s.h < 4294967296
theorem rnd_ok {k w : Nat} {s : St} (h : s.Ok) : (rnd k w s).Ok := ⟨Nat.mod_lt _ (by omega), h.a, h.b, h.c, Nat.mod_lt _ (by omega), h.e, h.f, h.g⟩
theorem rounds_ok {ws : List Nat} {s : St} (h : s.Ok) (n : Nat) : (rounds ws n s).Ok := by
  induction n with
  | zero => exact h
  | succ n ih => exact rnd_ok ih
theorem plus_ok (s r : St) : (plus s r).Ok := ⟨Nat.mod_lt _ (by omega), Nat.mod_lt _ (by omega), Nat.mod_lt _ (by omega), Nat.mod_lt _ (by omega), Nat.mod_lt _ (by omega), Nat.mod_lt _ (by omega), Nat.mod_lt _ (by omega), Nat.mod_lt _ (by omega)⟩
theorem compress_ok (s : St) (b : List Nat) : (compress s b).Ok := plus_ok _ _
theorem init_ok : init.Ok := ⟨by decide, by decide, by decide, by decide, by decide, by decide, by decide, by decide⟩
theorem run_ok (n : Nat) : ∀ {s : St} {l : List Nat}, s.Ok → (run n s l).Ok := by
  induction n with
  | zero => intro s l h; exact h
  | succ n ih => intro s l _; exact ih (compress_ok _ _)

end Sha
/- Plain mathematics of the sum, block by block. No condition. -/
namespace Sha
theorem run_append (k : Nat) : ∀ (s : St) (l x : List Nat), 64 * k ≤ l.length → run k s (l ++ x) = run k s l := by
  induction k with
  | zero => intros; rfl
  | succ k ih =>
    intro s l x h
    simp only [run]
    rw [List.take_append_of_le_length (by omega), List.drop_append_of_le_length (by omega)]
    exact ih _ _ _ (by rw [List.length_drop]; omega)
theorem run_succ (k : Nat) : ∀ (s : St) (l : List Nat), run (k + 1) s l = compress (run k s l) ((l.drop (64 * k)).take 64) := by
  induction k with
  | zero => intro s l; simp [run]
  | succ k ih =>
    intro s l
    rw [run, ih]
    simp only [run, List.drop_drop]
    rw [show 64 + 64 * k = 64 * (k + 1) by omega]
/-- What a running sum keeps of the bytes l: the numbers behind the whole blocks, the rest in its part. -/
structure Holds (l : List Nat) (s : St) (part : List Nat) (fill : Nat) : Prop where
  now : s = run (l.length / 64) init l
  len : part.length = 64
  byt : Bytes part
  fil : fill = l.length % 64
  rest : part.take fill = l.drop (64 * (l.length / 64))
theorem Holds.ok {l : List Nat} {s : St} {part : List Nat} {fill : Nat} (h : Holds l s part fill) : s.Ok := by rw [h.now]; exact run_ok _ init_ok
theorem Holds.begin : Holds [] init (List.replicate 64 0) 0 := ⟨rfl, by simp, fun x hx => by simp at hx; omega, rfl, rfl⟩
def laid (part : List Nat) (fill : Nat) (x : List Nat) : List Nat := part.take fill ++ x ++ part.drop (fill + x.length)
theorem Bytes.append {a b : List Nat} (ha : Bytes a) (hb : Bytes b) : Bytes (a ++ b) := fun x hx => by
  rcases List.mem_append.1 hx with h | h
  · exact ha x h
  · exact hb x h
theorem Bytes.take {a : List Nat} (ha : Bytes a) (n : Nat) : Bytes (a.take n) := fun x hx => ha x (List.mem_of_mem_take hx)
theorem Bytes.drop {a : List Nat} (ha : Bytes a) (n : Nat) : Bytes (a.drop n) := fun x hx => ha x (List.mem_of_mem_drop hx)
theorem laid_length {part x : List Nat} {fill : Nat} (hp : part.length = 64) (h : fill + x.length ≤ 64) : (laid part fill x).length = 64 := by
  simp [laid, hp]; omega
theorem laid_bytes {part x : List Nat} {fill : Nat} (hp : Bytes part) (hx : Bytes x) : Bytes (laid part fill x) := ((hp.take _).append hx).append (hp.drop _)
/-- Fewer bytes than fill the block. -/
theorem Holds.more {l x part : List Nat} {s : St} {fill : Nat} (h : Holds l s part fill) (hx : Bytes x) (hl : fill + x.length < 64) : Holds (l ++ x) s (laid part fill x) (fill + x.length) := by
  have hf := h.fil
  have hd : (l ++ x).length / 64 = l.length / 64 := by rw [List.length_append]; omega
  refine ⟨?_, laid_length h.len (by omega), laid_bytes h.byt hx, by rw [List.length_append]; omega, ?_⟩
  · rw [hd, run_append _ _ _ _ (by omega)]; exact h.now
  · rw [hd, List.drop_append_of_le_length (by omega), ← h.rest]
    unfold laid
    have h1 : (part.take fill).length = fill := by rw [List.length_take, h.len]; omega
    rw [List.take_append_of_le_length (by rw [List.length_append, h1]; exact Nat.le_refl _), List.take_of_length_le (by rw [List.length_append, h1]; exact Nat.le_refl _)]
/-- As many as fill it. -/
theorem Holds.full {l x part : List Nat} {s : St} {fill : Nat} (h : Holds l s part fill) (hx : Bytes x) (hl : fill + x.length = 64) : Holds (l ++ x) (compress s (laid part fill x)) (laid part fill x) 0 := by
  have hf := h.fil
  have hd : (l ++ x).length / 64 = l.length / 64 + 1 := by rw [List.length_append]; omega
  have hb : laid part fill x = (l ++ x).drop (64 * (l.length / 64)) := by
    unfold laid
    have hz : part.drop 64 = [] := List.drop_of_length_le (by rw [h.len]; exact Nat.le_refl _)
    rw [h.rest, List.drop_append_of_le_length (by omega), hl, hz, List.append_nil]
  refine ⟨?_, laid_length h.len (by omega), laid_bytes h.byt hx, by rw [List.length_append]; omega, ?_⟩
  · rw [hd, run_succ, ← hb, List.take_of_length_le (by rw [laid_length h.len (by omega)]; exact Nat.le_refl _), run_append _ _ _ _ (by omega), ← h.now]
  · rw [hd, List.take_zero, List.drop_of_length_le (by rw [List.length_append]; omega)]
theorem ending_bytes (n : Nat) : Bytes (ending n) := by
  intro x hx
  simp [ending, be8] at hx
  omega
theorem ending_le (n : Nat) : (ending n).length ≤ 72 := by simp [ending, be8]; omega
theorem Holds.sum {l part : List Nat} {s : St} {fill : Nat} (h : Holds (l ++ ending l.length) s part fill) : out s = sha l := by
  unfold sha; rw [h.now]
theorem Holds.sumText {l : List Nat} : (sha l).length = 32 := by simp [sha, out, St.list, be4]
end Sha
/- Plain mathematics: trees of sums, as the document's chapter 3 says it. No condition. -/
namespace Tree

/-- How many bits a number has. -/
def blen (x : Nat) : Nat := if x = 0 then 0 else Nat.log2 x + 1
def half (n : Nat) : Nat := 2 ^ Nat.log2 (n - 1)
theorem half_pos (n : Nat) : 1 ≤ half n := Nat.pow_pos (by omega)
theorem half_lt {n : Nat} (h : 2 ≤ n) : half n < n := by
  have := Nat.log2_self_le (n := n - 1) (by omega)
  unfold half; omega
theorem half_blen {n : Nat} (h : 2 ≤ n) : half n = 2 ^ (blen (n - 1) - 1) := by
  unfold half blen
  rw [if_neg (by omega)]; simp
theorem blen_shift (x k : Nat) (h : 2 ^ k ≤ x) : blen x = blen (x / 2 ^ k) + k := by
  have hp : 0 < 2 ^ k := Nat.pow_pos (by omega)
  have hd : 0 < x / 2 ^ k := Nat.div_pos h hp
  unfold blen
  rw [if_neg (by omega), if_neg (by omega)]
  have h1 : x ≠ 0 := by omega
  have : Nat.log2 x = Nat.log2 (x / 2 ^ k) + k := by
    rw [Nat.log2_eq_iff h1]
    have h2 := Nat.log2_self_le (n := x / 2 ^ k) (by omega)
    have h3 := Nat.lt_log2_self (n := x / 2 ^ k)
    rw [Nat.le_div_iff_mul_le hp, ← Nat.pow_add] at h2
    rw [Nat.div_lt_iff_lt_mul hp, ← Nat.pow_add] at h3
    refine ⟨h2, ?_⟩
    rw [show Nat.log2 (x / 2 ^ k) + k + 1 = Nat.log2 (x / 2 ^ k) + 1 + k by omega]
    exact h3
  omega
theorem blen_le (x k : Nat) (h : x < 2 ^ k) : blen x ≤ k := by
  unfold blen
  split
  · omega
  · have := (Nat.log2_lt (by assumption)).2 h
    omega
theorem blen_pos {x : Nat} (h : 0 < x) : 1 ≤ blen x := by unfold blen; rw [if_neg (by omega)]; omega

def leaf (s : List Nat) : List Nat := Sha.sha (0 :: s)
def node (a b : List Nat) : List Nat := Sha.sha (1 :: (a ++ b))
def root (n : Nat) (t : List Nat) : List Nat := Sha.sha (3 :: (Wire.num n ++ t))
def top (l : List (List Nat)) : List Nat :=
  if _h : l.length < 2 then (match l with | [] => Sha.sha [2] | s :: _ => leaf s)
  else node (top (l.take (half l.length))) (top (l.drop (half l.length)))
termination_by l.length
decreasing_by
  · have := half_lt (n := l.length) (by omega); rw [List.length_take]; omega
  · have := half_pos l.length; have := half_lt (n := l.length) (by omega); rw [List.length_drop]; omega
theorem top_nil : top [] = Sha.sha [2] := by rw [top]; simp
theorem top_one (s : List Nat) : top [s] = leaf s := by rw [top]; simp
theorem top_more {l : List (List Nat)} (h : 2 ≤ l.length) : top l = node (top (l.take (half l.length))) (top (l.drop (half l.length))) := by
  rw [top, dif_neg (by omega)]
/-- One part beside the way. -/
def step (t other : List Nat) (left : Bool) : List Nat := if left then node other t else node t other
theorem leaf_len (s : List Nat) : (leaf s).length = 32 := Sha.Holds.sumText
theorem node_len (a b : List Nat) : (node a b).length = 32 := Sha.Holds.sumText
end Tree
/- Walks of layer 1's small functions: RotateLeft32, turned. Conditions: the number has 32 bits, it is turned by 1 to 31. -/
namespace Go.Proofs.YtooeahpkhocaeaaDoor
open Go.RowKit

theorem mask31 (k : Int) (h1 : 1 ≤ k) (h2 : k ≤ 31) : bits BinOp.and IntKind.u64 (IntKind.u64.wrap (-k)) 31 = 32 - k := by
  have h : ∀ k : Nat, k < 32 → 1 ≤ k → bits BinOp.and IntKind.u64 (IntKind.u64.wrap (-(k:Int))) 31 = 32 - (k : Int) := by decide +kernel
  obtain ⟨n, rfl⟩ := Int.eq_ofNat_of_zero_le (show 0 ≤ k by omega)
  exact h n (by omega) (by omega)

theorem rot_arith (x k : Int) (h0 : 0 ≤ x) (h1 : x < 4294967296) (hk1 : 1 ≤ k) (hk2 : k ≤ 31) :
    bits BinOp.or IntKind.u32 (x * 2 ^ (32 - k).toNat % 4294967296) (x / 2 ^ (32 - (32 - k)).toNat) = ((Sha.rotr k.toNat x.toNat : Nat) : Int) := by
  obtain ⟨X, rfl⟩ := Int.eq_ofNat_of_zero_le h0
  obtain ⟨n, rfl⟩ := Int.eq_ofNat_of_zero_le (show 0 ≤ k by omega)
  have e1 : ((32 : Int) - (n : Int)).toNat = 32 - n := by omega
  have e2 : ((32 : Int) - (32 - (n : Int))).toNat = n := by omega
  rw [e1, e2]
  have hd : (X : Int) / 2 ^ n = ((X / 2 ^ n : Nat) : Int) := by simp
  have hm : (X : Int) * 2 ^ (32 - n) % 4294967296 = ((X * 2 ^ (32 - n) % 4294967296 : Nat) : Int) := by simp
  have hlt : X / 2 ^ n < 4294967296 := Nat.lt_of_le_of_lt (Nat.div_le_self _ _) (by omega)
  rw [hd, hm, u32_or_nat _ _ (Nat.mod_lt _ (by omega)) hlt, Sha.or_parts n X (by omega) (by omega)]
  simp

set_option maxHeartbeats 400000 in
theorem turned_any (x k : Int) (w : World) (h0 : 0 ≤ x) (h1 : x < 4294967296) (hk1 : 1 ≤ k) (hk2 : k ≤ 31) :
    Calls Tryd.prog 87 #[.int .u32 x, .int .i64 k] w fun e w' => e = .returned (.int .u32 (Sha.rotr k.toNat x.toNat : Nat)) ∧ w = w' := by
  have hr := rot_arith x k h0 h1 hk1 hk2
  have he := mask31 k hk1 hk2
  have HR := Lib.hid hr
  clear hr
  go_enter Tryd.func87, Tryd.ntmps87
  go_wp2
  go_ret
  exact ⟨congrArg (fun n => Ending.returned (.int .u32 n)) (by rw [← HR.out]), rfl⟩

end Go.Proofs.YtooeahpkhocaeaaDoor
