/- Plain mathematics for the document's own Of: numbers of 32 bits kept in 64. Conditions: numbers of 32 bits. -/
import Derived.Test.YtdemoidmhmdgkaaDoorRefSmall
namespace Go.Proofs.YtdemoidmhmdgkaaDoor
open Go.RowKit
set_option maxRecDepth 100000

theorem x64 (a b : Nat) (ha : a < 4294967296) (hb : b < 4294967296) : bits BinOp.xor IntKind.u64 (a : Int) (b : Int) = ((a ^^^ b : Nat) : Int) := u64_xor_nat a b (by omega) (by omega)
theorem a64 (a b : Nat) (ha : a < 4294967296) (hb : b < 4294967296) : bits BinOp.and IntKind.u64 (a : Int) (b : Int) = ((a &&& b : Nat) : Int) := u64_and_nat a b (by omega) (by omega)
theorem s0_64 (x : Nat) (h : x < 4294967296) : bits BinOp.xor IntKind.u64 (bits BinOp.xor IntKind.u64 ↑(Sha.rotr 7 x) ↑(Sha.rotr 18 x)) (↑x / 8) = ((Sha.s0 x : Nat) : Int) := by
  have h7 := Sha.rotr_lt (k := 7) (by omega) h
  have h18 := Sha.rotr_lt (k := 18) (by omega) h
  rw [show (x : Int) / 8 = ((x / 8 : Nat) : Int) by omega, x64 _ _ h7 h18, x64 _ _ (Sha.xor_lt h7 h18) (by omega)]; rfl
theorem s1_64 (x : Nat) (h : x < 4294967296) : bits BinOp.xor IntKind.u64 (bits BinOp.xor IntKind.u64 ↑(Sha.rotr 17 x) ↑(Sha.rotr 19 x)) (↑x / 1024) = ((Sha.s1 x : Nat) : Int) := by
  have h7 := Sha.rotr_lt (k := 17) (by omega) h
  have h18 := Sha.rotr_lt (k := 19) (by omega) h
  rw [show (x : Int) / 1024 = ((x / 1024 : Nat) : Int) by omega, x64 _ _ h7 h18, x64 _ _ (Sha.xor_lt h7 h18) (by omega)]; rfl
theorem e1_64 (E : Nat) (h : E < 4294967296) : bits BinOp.xor IntKind.u64 (bits BinOp.xor IntKind.u64 ↑(Sha.rotr 6 E) ↑(Sha.rotr 11 E)) ↑(Sha.rotr 25 E) = ((Sha.e1 E : Nat) : Int) := by
  have h1 := Sha.rotr_lt (k := 6) (by omega) h
  have h2 := Sha.rotr_lt (k := 11) (by omega) h
  have h3 := Sha.rotr_lt (k := 25) (by omega) h
  rw [x64 _ _ h1 h2, x64 _ _ (Sha.xor_lt h1 h2) h3]; rfl
theorem e0_64 (E : Nat) (h : E < 4294967296) : bits BinOp.xor IntKind.u64 (bits BinOp.xor IntKind.u64 ↑(Sha.rotr 2 E) ↑(Sha.rotr 13 E)) ↑(Sha.rotr 22 E) = ((Sha.e0 E : Nat) : Int) := by
  have h1 := Sha.rotr_lt (k := 2) (by omega) h
  have h2 := Sha.rotr_lt (k := 13) (by omega) h
  have h3 := Sha.rotr_lt (k := 22) (by omega) h
  rw [x64 _ _ h1 h2, x64 _ _ (Sha.xor_lt h1 h2) h3]; rfl
theorem ch_64 (E F G : Nat) (hE : E < 4294967296) (hF : F < 4294967296) (hG : G < 4294967296) :
    bits BinOp.xor IntKind.u64 (bits BinOp.and IntKind.u64 ↑E ↑F) (bits BinOp.and IntKind.u64 (4294967295 - ↑E) ↑G) = ((Sha.ch E F G : Nat) : Int) := by
  rw [show (4294967295 : Int) - (E : Int) = ((4294967295 - E : Nat) : Int) by omega, a64 _ _ hE hF, a64 _ _ (by omega) hG, x64 _ _ (Sha.and_lt hF) (Sha.and_lt hG)]; rfl
theorem maj_64 (A B C : Nat) (hA : A < 4294967296) (hB : B < 4294967296) (hC : C < 4294967296) :
    bits BinOp.xor IntKind.u64 (bits BinOp.xor IntKind.u64 (bits BinOp.and IntKind.u64 ↑A ↑B) (bits BinOp.and IntKind.u64 ↑A ↑C)) (bits BinOp.and IntKind.u64 ↑B ↑C) = ((Sha.maj A B C : Nat) : Int) := by
  rw [a64 _ _ hA hB, a64 _ _ hA hC, a64 _ _ hB hC, x64 _ _ (Sha.and_lt hB) (Sha.and_lt hC), x64 _ _ (Sha.xor_lt (Sha.and_lt hB) (Sha.and_lt hC)) (Sha.and_lt hC)]; rfl
theorem be8_bytes (x : Nat) : Sha.Bytes (Sha.be8 x) := by
  intro y hy
  simp only [Sha.be8, List.mem_cons, List.not_mem_nil, or_false] at hy
  omega
theorem bytes_ending {l : List Nat} (h : Sha.Bytes l) (n : Nat) : Sha.Bytes (l ++ Sha.ending n) := by
  intro y hy
  unfold Sha.ending at hy
  simp only [List.mem_append, List.mem_cons] at hy
  rcases hy with hy | (rfl | hy) | hy
  · exact h y hy
  · omega
  · rw [List.mem_replicate] at hy; omega
  · exact be8_bytes _ y hy
/-- One number more of a block's, as the document's own Of has it. -/
theorem sched_more (b : List Nat) (t : Nat) (ht : t < 16) : Sha.sched b (t + 1) = Sha.sched b t ++ [b.getD (4 * t) 0 * 16777216 + b.getD (4 * t + 1) 0 * 65536 + b.getD (4 * t + 2) 0 * 256 + b.getD (4 * t + 3) 0] := by
  simp [Sha.sched, Sha.next, Sha.sched_length, ht, Sha.word]
theorem sched_more' (b : List Nat) (t : Nat) (ht : 16 ≤ t) : Sha.sched b (t + 1) = Sha.sched b t ++ [((Sha.sched b t).getD (t - 16) 0 + (Sha.sched b t).getD (t - 7) 0 + Sha.s0 ((Sha.sched b t).getD (t - 15) 0) + Sha.s1 ((Sha.sched b t).getD (t - 2) 0)) % 4294967296] := by
  rw [Sha.sched]
  unfold Sha.next
  rw [Sha.sched_length, if_neg (by omega)]
theorem block_get (M : List Nat) (A j : Nat) (hj : j < 64) : ((M.drop A).take 64).getD j 0 = M.getD (A + j) 0 := by
  simp only [List.getD_eq_getElem?_getD]
  rw [List.getElem?_take, if_pos hj, List.getElem?_drop]
theorem block_bytes {M : List Nat} (h : Sha.Bytes M) (A : Nat) : Sha.Bytes ((M.drop A).take 64) := fun x hx => h x (List.mem_of_mem_drop (List.mem_of_mem_take hx))
end Go.Proofs.YtdemoidmhmdgkaaDoor
