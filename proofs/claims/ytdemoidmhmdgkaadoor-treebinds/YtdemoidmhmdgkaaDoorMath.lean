/- Plain mathematics: the sum SHA-256 on lists of natural numbers (bytes), as the document's chapter 1 says it. No condition. -/
namespace Sha

def rotr (k x : Nat) : Nat := x / 2 ^ k + x % 2 ^ k * 2 ^ (32 - k)
def s0 (x : Nat) : Nat := rotr 7 x ^^^ rotr 18 x ^^^ x / 8
def s1 (x : Nat) : Nat := rotr 17 x ^^^ rotr 19 x ^^^ x / 1024
def e1 (x : Nat) : Nat := rotr 6 x ^^^ rotr 11 x ^^^ rotr 25 x
def e0 (x : Nat) : Nat := rotr 2 x ^^^ rotr 13 x ^^^ rotr 22 x
def ch (e f g : Nat) : Nat := (e &&& f) ^^^ ((4294967295 - e) &&& g)
def maj (a b c : Nat) : Nat := (a &&& b) ^^^ (a &&& c) ^^^ (b &&& c)

def K : List Nat := [1116352408, 1899447441, 3049323471, 3921009573, 961987163, 1508970993, 2453635748, 2870763221, 3624381080, 310598401, 607225278, 1426881987, 1925078388, 2162078206, 2614888103, 3248222580, 3835390401, 4022224774, 264347078, 604807628, 770255983, 1249150122, 1555081692, 1996064986, 2554220882, 2821834349, 2952996808, 3210313671, 3336571891, 3584528711, 113926993, 338241895, 666307205, 773529912, 1294757372, 1396182291, 1695183700, 1986661051, 2177026350, 2456956037, 2730485921, 2820302411, 3259730800, 3345764771, 3516065817, 3600352804, 4094571909, 275423344, 430227734, 506948616, 659060556, 883997877, 958139571, 1322822218, 1537002063, 1747873779, 1955562222, 2024104815, 2227730452, 2361852424, 2428436474, 2756734187, 3204031479, 3329325298]

/-- The t-th of a block's first 16 numbers. -/
def word (b : List Nat) (t : Nat) : Nat := b.getD (4 * t) 0 * 16777216 + b.getD (4 * t + 1) 0 * 65536 + b.getD (4 * t + 2) 0 * 256 + b.getD (4 * t + 3) 0
/-- The next number behind those that are there. -/
def next (b l : List Nat) : Nat := if l.length < 16 then word b l.length else (l.getD (l.length - 16) 0 + l.getD (l.length - 7) 0 + s0 (l.getD (l.length - 15) 0) + s1 (l.getD (l.length - 2) 0)) % 4294967296
def sched (b : List Nat) : Nat → List Nat
  | 0 => []
  | t + 1 => sched b t ++ [next b (sched b t)]

structure St where
  a : Nat
  b : Nat
  c : Nat
  d : Nat
  e : Nat
  f : Nat
  g : Nat
  h : Nat

def t1 (k w : Nat) (s : St) : Nat := s.h + e1 s.e + ch s.e s.f s.g + k + w
def t2 (s : St) : Nat := e0 s.a + maj s.a s.b s.c
def rnd (k w : Nat) (s : St) : St := ⟨(t1 k w s + t2 s) % 4294967296, s.a, s.b, s.c, (s.d + t1 k w s) % 4294967296, s.e, s.f, s.g⟩
def rounds (ws : List Nat) : Nat → St → St
  | 0, s => s
  | n + 1, s => rnd (K.getD n 0) (ws.getD n 0) (rounds ws n s)
def plus (s r : St) : St := ⟨(s.a + r.a) % 4294967296, (s.b + r.b) % 4294967296, (s.c + r.c) % 4294967296, (s.d + r.d) % 4294967296, (s.e + r.e) % 4294967296, (s.f + r.f) % 4294967296, (s.g + r.g) % 4294967296, (s.h + r.h) % 4294967296⟩
def compress (s : St) (b : List Nat) : St := plus s (rounds (sched b 64) 64 s)
def init : St := ⟨1779033703, 3144134277, 1013904242, 2773480762, 1359893119, 2600822924, 528734635, 1541459225⟩
/-- n blocks. -/
def run : Nat → St → List Nat → St
  | 0, s, _ => s
  | n + 1, s, l => run n (compress s (l.take 64)) (l.drop 64)
def St.list (s : St) : List Nat := [s.a, s.b, s.c, s.d, s.e, s.f, s.g, s.h]
def be4 (x : Nat) : List Nat := [x / 16777216, x / 65536 % 256, x / 256 % 256, x % 256]
def be8 (x : Nat) : List Nat := [x / 72057594037927936 % 256, x / 281474976710656 % 256, x / 1099511627776 % 256, x / 4294967296 % 256, x / 16777216 % 256, x / 65536 % 256, x / 256 % 256, x % 256]
def ending (n : Nat) : List Nat := 128 :: List.replicate ((119 - n % 64) % 64) 0 ++ be8 (8 * n)
def out (s : St) : List Nat := s.list.flatMap be4
def sha (l : List Nat) : List Nat := out (run ((l ++ ending l.length).length / 64) init (l ++ ending l.length))

/-! ### bounds -/
theorem xor_lt {a b : Nat} (ha : a < 4294967296) (hb : b < 4294967296) : a ^^^ b < 4294967296 := Nat.xor_lt_two_pow (n := 32) ha hb
theorem and_lt {a b : Nat} (hb : b < 4294967296) : a &&& b < 4294967296 := Nat.and_lt_two_pow (n := 32) _ hb
theorem and_lt' {a b : Nat} (ha : a < 4294967296) : a &&& b < 4294967296 := by rw [Nat.and_comm]; exact and_lt ha
theorem rotr_lt {k x : Nat} (hk : k ≤ 32) (hx : x < 4294967296) : rotr k x < 4294967296 := by
  unfold rotr
  have hp : 2 ^ k * 2 ^ (32 - k) = 4294967296 := by rw [← Nat.pow_add, show k + (32 - k) = 32 by omega]
  have hk0 : 0 < 2 ^ k := Nat.pow_pos (by omega)
  have h1 : x / 2 ^ k < 2 ^ (32 - k) := by rw [Nat.div_lt_iff_lt_mul hk0, Nat.mul_comm, hp]; exact hx
  have h2 : x % 2 ^ k + 1 ≤ 2 ^ k := Nat.mod_lt _ hk0
  have h3 : (x % 2 ^ k + 1) * 2 ^ (32 - k) ≤ 2 ^ k * 2 ^ (32 - k) := Nat.mul_le_mul_right _ h2
  rw [Nat.add_mul, hp, Nat.one_mul] at h3
  omega
theorem s0_lt {x : Nat} (hx : x < 4294967296) : s0 x < 4294967296 := xor_lt (xor_lt (rotr_lt (by omega) hx) (rotr_lt (by omega) hx)) (by omega)
theorem s1_lt {x : Nat} (hx : x < 4294967296) : s1 x < 4294967296 := xor_lt (xor_lt (rotr_lt (by omega) hx) (rotr_lt (by omega) hx)) (by omega)
theorem e1_lt {x : Nat} (hx : x < 4294967296) : e1 x < 4294967296 := xor_lt (xor_lt (rotr_lt (by omega) hx) (rotr_lt (by omega) hx)) (rotr_lt (by omega) hx)
theorem e0_lt {x : Nat} (hx : x < 4294967296) : e0 x < 4294967296 := xor_lt (xor_lt (rotr_lt (by omega) hx) (rotr_lt (by omega) hx)) (rotr_lt (by omega) hx)
theorem ch_lt {e f g : Nat} (he : e < 4294967296) (hg : g < 4294967296) : ch e f g < 4294967296 := xor_lt (and_lt' he) (and_lt hg)
theorem maj_lt {a b c : Nat} (ha : a < 4294967296) (hb : b < 4294967296) : maj a b c < 4294967296 := xor_lt (xor_lt (and_lt' ha) (and_lt' ha)) (and_lt' hb)

/-- The or of two parts that share no bit is their sum. -/
theorem or_parts (k x : Nat) (hk : k ≤ 32) (hx : x < 4294967296) : (x * 2 ^ (32 - k) % 4294967296) ||| (x / 2 ^ k) = rotr k x := by
  have hp : 2 ^ k * 2 ^ (32 - k) = 4294967296 := by rw [← Nat.pow_add, show k + (32 - k) = 32 by omega]
  have hk0 : 0 < 2 ^ k := Nat.pow_pos (by omega)
  have h1 : x / 2 ^ k < 2 ^ (32 - k) := by rw [Nat.div_lt_iff_lt_mul hk0, Nat.mul_comm, hp]; exact hx
  have hm : x * 2 ^ (32 - k) % 4294967296 = 2 ^ (32 - k) * (x % 2 ^ k) := by
    rw [← hp, Nat.mul_comm x, Nat.mul_comm (2 ^ k), Nat.mul_mod_mul_left]
  rw [hm, ← Nat.two_pow_add_eq_or_of_lt h1]
  unfold rotr
  rw [Nat.mul_comm, Nat.add_comm]

theorem sched_length (b : List Nat) (t : Nat) : (sched b t).length = t := by induction t <;> simp_all [sched]
theorem sched_get (b : List Nat) {i t : Nat} (h : i < t) : (sched b t).getD i 0 = next b (sched b i) := by
  induction t with
  | zero => omega
  | succ t ih =>
    have hl := sched_length b t
    by_cases hi : i < t
    · have := ih hi
      simp only [sched, List.getD_eq_getElem?_getD] at this ⊢
      rw [List.getElem?_append_left (by omega)]; exact this
    · obtain rfl : i = t := by omega
      simp only [sched, List.getD_eq_getElem?_getD]
      rw [List.getElem?_append_right (by omega)]; simp [hl]
theorem sched_stable (b : List Nat) {i t u : Nat} (h : i < t) (h' : i < u) : (sched b t).getD i 0 = (sched b u).getD i 0 := by rw [sched_get b h, sched_get b h']

def Bytes (l : List Nat) : Prop := ∀ x ∈ l, x < 256
theorem Bytes.getD {l : List Nat} (h : Bytes l) (i : Nat) : l.getD i 0 < 256 := by
  rw [List.getD_eq_getElem?_getD]
  by_cases hi : i < l.length
  · rw [List.getElem?_eq_getElem hi]; exact h _ (List.getElem_mem hi)
  · rw [List.getElem?_eq_none (by omega)]; simp
theorem word_lt {b : List Nat} (h : Bytes b) (t : Nat) : word b t < 4294967296 := by
  have h0 := h.getD (4 * t); have h1 := h.getD (4 * t + 1); have h2 := h.getD (4 * t + 2); have h3 := h.getD (4 * t + 3)
  unfold word; omega
theorem next_lt {b l : List Nat} (h : Bytes b) : next b l < 4294967296 := by
  unfold next; split
  · exact word_lt h _
  · omega
theorem sched_lt {b : List Nat} (h : Bytes b) (t i : Nat) : (sched b t).getD i 0 < 4294967296 := by
  by_cases hi : i < t
  · rw [sched_get b hi]; exact next_lt h
  · rw [List.getD_eq_getElem?_getD, List.getElem?_eq_none (by rw [sched_length]; omega)]; simp

structure St.Ok (s : St) : Prop where
  a : s.a < 4294967296
  b : s.b < 4294967296
  c : s.c < 4294967296
  d : s.d < 4294967296
  e : s.e < 4294967296
  f : s.f < 4294967296
  g : s.g < 4294967296
  h : s.h < 4294967296
theorem rnd_ok {k w : Nat} {s : St} (h : s.Ok) : (rnd k w s).Ok := ⟨Nat.mod_lt _ (by omega), h.a, h.b, h.c, Nat.mod_lt _ (by omega), h.e, h.f, h.g⟩
theorem rounds_ok {ws : List Nat} {s : St} (h : s.Ok) (n : Nat) : (rounds ws n s).Ok := by
  induction n with
  | zero => exact h
  | succ n ih => exact rnd_ok ih
theorem plus_ok (s r : St) : (plus s r).Ok := ⟨Nat.mod_lt _ (by omega), Nat.mod_lt _ (by omega), Nat.mod_lt _ (by omega), Nat.mod_lt _ (by omega), Nat.mod_lt _ (by omega), Nat.mod_lt _ (by omega), Nat.mod_lt _ (by omega), Nat.mod_lt _ (by omega)⟩
theorem compress_ok (s : St) (b : List Nat) : (compress s b).Ok := plus_ok _ _
theorem init_ok : init.Ok := ⟨by decide, by decide, by decide, by decide, by decide, by decide, by decide, by decide⟩
theorem run_ok (n : Nat) : ∀ {s : St} {l : List Nat}, s.Ok → (run n s l).Ok := by
  induction n with
  | zero => intro s l h; exact h
  | succ n ih => intro s l _; exact ih (compress_ok _ _)

theorem sha_abc : sha [97, 98, 99] = [0xba, 0x78, 0x16, 0xbf, 0x8f, 0x01, 0xcf, 0xea, 0x41, 0x41, 0x40, 0xde, 0x5d, 0xae, 0x22, 0x23, 0xb0, 0x03, 0x61, 0xa3, 0x96, 0x17, 0x7a, 0x9c, 0xb4, 0x10, 0xff, 0x61, 0xf2, 0x00, 0x15, 0xad] := by decide +kernel
end Sha
