/- The contract of hash.behind: the eight numbers behind a block. Conditions: numbers of 32 bits, a block of 64 bytes, the table of constants lies as it was laid. -/
import Derived.Test.YthkbnbnfjnliaaaDoorWords
namespace Go.Proofs.YthkbnbnfjnliaaaDoor
open Go.RowKit

/-- The table of the constants lies where it was laid. -/
def Kept (w : World) : Prop := ∀ i, i < 64 → w.cell? ⟨0, i, none⟩ = some (.int .u32 (Sha.K.getD i 0 : Nat))
theorem Kept.pos {w : World} (h : Kept w) : 0 < w.heap.size := World.block_lt_of_cell? w _ (h 0 (by omega))
theorem Kept.below {w w' : World} {B : Nat} (h : Kept w) (hb : Below B w w') (hB : 0 < B) : Kept w' := fun i hi => by
  rw [hb.cell (p := ⟨0, i, none⟩) hB]; exact h i hi
def Regs (s : Sha.St) (a b c d e f g h : Value) : Prop := a = .int .u32 (s.a : Nat) ∧ b = .int .u32 (s.b : Nat) ∧ c = .int .u32 (s.c : Nat) ∧ d = .int .u32 (s.d : Nat) ∧ e = .int .u32 (s.e : Nat) ∧ f = .int .u32 (s.f : Nat) ∧ g = .int .u32 (s.g : Nat) ∧ h = .int .u32 (s.h : Nat)
def BRel (w : World) (s : Sha.St) (bs : List Nat) (g : Nat) (V : World) : Prop := Below w.heap.size w V ∧ Has V w.heap.size 125 (U32 s.list) ∧ Has V (w.heap.size + 1 + 1) 125 (U32 [0, 0, 0, 0, 0, 0, 0, 0]) ∧ Has V g 137 (U32 (Sha.sched bs 64)) ∧ Kept V
theorem K_lt (t : Nat) : Sha.K.getD t 0 < 4294967296 := by
  by_cases h : t < 64
  · have : ∀ t, t < 64 → Sha.K.getD t 0 < 4294967296 := by decide +kernel
    exact this t h
  · rw [List.getD_eq_getElem?_getD, List.getElem?_eq_none (by show 64 ≤ t; omega)]; simp
theorem not_raw (E : Nat) (h : E < 4294967296) : bits BinOp.xor IntKind.u32 (if IntKind.u32.signed = true then -1 else IntKind.u32.max) (E : Int) = ((4294967295 - E : Nat) : Int) := by
  have e : (if IntKind.u32.signed = true then (-1 : Int) else IntKind.u32.max) = ((4294967295 : Nat) : Int) := by decide
  rw [e, u32_xor_nat _ _ (by decide) h]
  congr 1
  apply Nat.eq_of_testBit_eq
  intro i
  rw [Nat.testBit_xor, show (4294967295 : Nat) = 2 ^ 32 - 1 by decide, Nat.testBit_two_pow_sub_one, show 2 ^ 32 - 1 - E = 2 ^ 32 - (E + 1) by omega, Nat.testBit_two_pow_sub_succ (by omega)]
  by_cases hi : i < 32
  · simp [hi]
  · have : E.testBit i = false := Nat.testBit_lt_two_pow (Nat.lt_of_lt_of_le h (by
      have : 2 ^ 32 ≤ 2 ^ i := Nat.pow_le_pow_right (by omega) (by omega)
      simpa using this))
    simp [hi, this]
theorem e1_raw (E : Nat) (h : E < 4294967296) : bits BinOp.xor IntKind.u32 (bits BinOp.xor IntKind.u32 ↑(Sha.rotr 6 E) ↑(Sha.rotr 11 E)) ↑(Sha.rotr 25 E) = ((Sha.e1 E : Nat) : Int) := by
  have h1 := Sha.rotr_lt (k := 6) (by omega) h
  have h2 := Sha.rotr_lt (k := 11) (by omega) h
  have h3 := Sha.rotr_lt (k := 25) (by omega) h
  rw [u32_xor_nat _ _ h1 h2, u32_xor_nat _ _ (Sha.xor_lt h1 h2) h3]; rfl
theorem e0_raw (E : Nat) (h : E < 4294967296) : bits BinOp.xor IntKind.u32 (bits BinOp.xor IntKind.u32 ↑(Sha.rotr 2 E) ↑(Sha.rotr 13 E)) ↑(Sha.rotr 22 E) = ((Sha.e0 E : Nat) : Int) := by
  have h1 := Sha.rotr_lt (k := 2) (by omega) h
  have h2 := Sha.rotr_lt (k := 13) (by omega) h
  have h3 := Sha.rotr_lt (k := 22) (by omega) h
  rw [u32_xor_nat _ _ h1 h2, u32_xor_nat _ _ (Sha.xor_lt h1 h2) h3]; rfl
theorem ch_raw (E F G : Nat) (hE : E < 4294967296) (hF : F < 4294967296) (hG : G < 4294967296) :
    bits BinOp.xor IntKind.u32 (bits BinOp.and IntKind.u32 ↑E ↑F) (bits BinOp.and IntKind.u32 (bits BinOp.xor IntKind.u32 (if IntKind.u32.signed = true then -1 else IntKind.u32.max) ↑E) ↑G) = ((Sha.ch E F G : Nat) : Int) := by
  rw [not_raw E hE, u32_and_nat _ _ hE hF, u32_and_nat _ _ (by omega) hG, u32_xor_nat _ _ (Sha.and_lt hF) (Sha.and_lt hG)]; rfl
theorem maj_raw (A B C : Nat) (hA : A < 4294967296) (hB : B < 4294967296) (hC : C < 4294967296) :
    bits BinOp.xor IntKind.u32 (bits BinOp.xor IntKind.u32 (bits BinOp.and IntKind.u32 ↑A ↑B) (bits BinOp.and IntKind.u32 ↑A ↑C)) (bits BinOp.and IntKind.u32 ↑B ↑C) = ((Sha.maj A B C : Nat) : Int) := by
  rw [u32_and_nat _ _ hA hB, u32_and_nat _ _ hA hC, u32_and_nat _ _ hB hC, u32_xor_nat _ _ (Sha.and_lt hB) (Sha.and_lt hC), u32_xor_nat _ _ (Sha.xor_lt (Sha.and_lt hB) (Sha.and_lt hC)) (Sha.and_lt hC)]; rfl
theorem vU32 {a : Int} {b : Nat} (h : a = (b : Int)) : Value.int .u32 a = .int .u32 (b : Int) := by rw [h]
theorem rnd_a (A B C D E F G H k w : Nat) (o : (Sha.St.mk A B C D E F G H).Ok) :
    ((↑H + bits BinOp.xor IntKind.u32 (bits BinOp.xor IntKind.u32 ↑(Sha.rotr 6 E) ↑(Sha.rotr 11 E)) ↑(Sha.rotr 25 E) + bits BinOp.xor IntKind.u32 (bits BinOp.and IntKind.u32 ↑E ↑F) (bits BinOp.and IntKind.u32 (bits BinOp.xor IntKind.u32 (if IntKind.u32.signed = true then -1 else IntKind.u32.max) ↑E) ↑G) + ↑k + ↑w) % 4294967296
      + (bits BinOp.xor IntKind.u32 (bits BinOp.xor IntKind.u32 ↑(Sha.rotr 2 A) ↑(Sha.rotr 13 A)) ↑(Sha.rotr 22 A) + bits BinOp.xor IntKind.u32 (bits BinOp.xor IntKind.u32 (bits BinOp.and IntKind.u32 ↑A ↑B) (bits BinOp.and IntKind.u32 ↑A ↑C)) (bits BinOp.and IntKind.u32 ↑B ↑C)) % 4294967296) % 4294967296
    = (((Sha.rnd k w (Sha.St.mk A B C D E F G H)).a : Nat) : Int) := by
  rw [e1_raw E o.e, ch_raw E F G o.e o.f o.g, e0_raw A o.a, maj_raw A B C o.a o.b o.c]
  simp only [Sha.rnd, Sha.t1, Sha.t2]
  omega
theorem rnd_e (A B C D E F G H k w : Nat) (o : (Sha.St.mk A B C D E F G H).Ok) :
    (↑D + (↑H + bits BinOp.xor IntKind.u32 (bits BinOp.xor IntKind.u32 ↑(Sha.rotr 6 E) ↑(Sha.rotr 11 E)) ↑(Sha.rotr 25 E) + bits BinOp.xor IntKind.u32 (bits BinOp.and IntKind.u32 ↑E ↑F) (bits BinOp.and IntKind.u32 (bits BinOp.xor IntKind.u32 (if IntKind.u32.signed = true then -1 else IntKind.u32.max) ↑E) ↑G) + ↑k + ↑w) % 4294967296) % 4294967296
    = (((Sha.rnd k w (Sha.St.mk A B C D E F G H)).e : Nat) : Int) := by
  rw [e1_raw E o.e, ch_raw E F G o.e o.f o.g]
  simp only [Sha.rnd, Sha.t1]
  omega
theorem turned_quiet (x k : Int) {w : World} {n : Nat} (h0 : 0 ≤ x) (h1 : x < 4294967296) (hk1 : 1 ≤ k) (hk2 : k ≤ 31) :
    Calls Tryd.prog 99 #[.int .u32 x, .int .i64 k] (w.drewN n) fun e w' => e = .returned (.int .u32 (Sha.rotr k.toNat x.toNat : Nat)) ∧ ∃ m, w' = w.drewN m :=
  (turned_any x k _ h0 h1 hk1 hk2).mono fun _ _ ⟨he, hw⟩ => ⟨he, n, hw.symm⟩
theorem U8_drop (l : List Nat) (n : Nat) : (U8 l).drop n = U8 (l.drop n) := by simp [U8]
theorem und62 : Tryd.prog.underlying 125 = some (.array 8 114) := by kernel_rfl
theorem und63 : Tryd.prog.underlying 127 = some (.array 64 5) := by kernel_rfl
theorem size63' : (Tryd.prog.info? 127).map (·.size) = some 64 := by kernel_rfl
theorem size62' : (Tryd.prog.info? 125).map (·.size) = some 8 := by kernel_rfl
theorem size63 {bs : List Nat} (h : bs.length = 64) : (Tryd.prog.info? 127).map (·.size) = some (U8 bs).toArray.size := by rw [size63', List.size_toArray, U8_length, h]
theorem sizeS {bs : List Nat} (h : bs.length = 64) : (Tryd.prog.info? 137).map (·.size) = some (U32 bs).toArray.size := by rw [size69', List.size_toArray, U32_length, h]

set_option maxRecDepth 100000 in
set_option maxHeartbeats 1000000 in
theorem behind_any (s : Sha.St) (bs : List Nat) (hs : s.Ok) (hb : Sha.Bytes bs) (hl : bs.length = 64) (w : World) (hk : Kept w) :
    Calls Tryd.prog 91 #[.agg (U32 s.list).toArray, .agg (U8 bs).toArray] w fun e w' => e = .returned (.agg (U32 (Sha.compress s bs).list).toArray) ∧ Below w.heap.size w w' := by
  have HL := Lib.hid hl
  have HK := Lib.hid hk
  have hB : ∀ o : Obj, Has (((w.alloc (.cells (U32 s.list).toArray 125)).alloc (.cells (U8 bs).toArray 127)).alloc o) (w.heap.size + 1) 127 (U8 bs) := fun o =>
    (Has.new' (w.alloc _) 127 (U8 bs) _ _ rfl (by simp)).alloc _
  have HB := Lib.hid hB
  clear hl hk hB
  go_enter Tryd.func91, Tryd.ntmps91
  go_wp2_with (first
    | (refine wpList_load_row rfl 127 (.tmp 3) rfl (w.heap.size + 1) rfl 127 _ (0, 0) (.array 64 5) (HB.out _) und63 rfl (size63 HL.out) ?_)
    | (go_at_call 98; (with_reducible refine (words_any bs hb HL.out _).mono ?_); rintro e w1 ⟨rfl, hw1⟩; have HW1 := Lib.hid hw1; clear hw1)
    | (refine wpList_store_row rfl 137 (.tmp 5) (.tmp 18) rfl w1.heap.size _ rfl rfl 137 _ (heap_alloc_last w1 _) (sizeS (Sha.sched_length bs 64)) (by simp [Sha.sched_length]) (all_oneCell_toArray (U32_one _)) ?_))
  rw [World.setRow_alloc_new]
  obtain ⟨W, hW⟩ : ∃ W, W = w1.alloc (.cells (U32 (Sha.sched bs 64)).toArray 137) := ⟨_, rfl⟩
  rw [← hW]
  have hz : w.heap.size + 1 + 1 + 1 ≤ w1.heap.size := by have := HW1.out.size; simpa using this
  have hBe : Below w.heap.size w W := by
    rw [hW]
    exact (((((Below.refl _ _).alloc (Nat.le_refl _) _).alloc (by simp) _).alloc (by simp; omega) _).trans (HW1.out.mono (by simp; omega))).alloc (by omega) _
  have hA : Has W w.heap.size 125 (U32 s.list) := by
    rw [hW]
    exact (Has.below (((Has.new w 125 (U32 s.list)).alloc _).alloc _) HW1.out (by simp; omega)).alloc _
  have hC : Has W (w.heap.size + 1 + 1) 125 (U32 [0, 0, 0, 0, 0, 0, 0, 0]) := by
    rw [hW]
    exact (Has.below (Has.new' ((w.alloc _).alloc _) 125 (U32 [0, 0, 0, 0, 0, 0, 0, 0]) _ _ rfl (by simp)) HW1.out (by simp)).alloc _
  have hD : Has W w1.heap.size 137 (U32 (Sha.sched bs 64)) := by rw [hW]; exact Has.new _ _ _
  have HW := Lib.hid hW
  clear hW HW HW1
  have HBe := Lib.hid hBe
  have HA := Lib.hid hA
  have HC := Lib.hid hC
  have HD := Lib.hid hD
  clear hBe hA hC hD
  have HKW := Lib.hid (HK.out.below HBe.out HK.out.pos)
  have a0 : W.cell? ⟨w.heap.size, 0, none⟩ = some (.int .u32 (s.a : Nat)) := by rw [HA.out.cell]; rfl
  have a1 : W.cell? ⟨w.heap.size, 1, none⟩ = some (.int .u32 (s.b : Nat)) := by rw [HA.out.cell]; rfl
  have a2 : W.cell? ⟨w.heap.size, 2, none⟩ = some (.int .u32 (s.c : Nat)) := by rw [HA.out.cell]; rfl
  have a3 : W.cell? ⟨w.heap.size, 3, none⟩ = some (.int .u32 (s.d : Nat)) := by rw [HA.out.cell]; rfl
  have a4 : W.cell? ⟨w.heap.size, 4, none⟩ = some (.int .u32 (s.e : Nat)) := by rw [HA.out.cell]; rfl
  have a5 : W.cell? ⟨w.heap.size, 5, none⟩ = some (.int .u32 (s.f : Nat)) := by rw [HA.out.cell]; rfl
  have a6 : W.cell? ⟨w.heap.size, 6, none⟩ = some (.int .u32 (s.g : Nat)) := by rw [HA.out.cell]; rfl
  have a7 : W.cell? ⟨w.heap.size, 7, none⟩ = some (.int .u32 (s.h : Nat)) := by rw [HA.out.cell]; rfl
  go_quiet (fail)
  go_wp2
  have HR : Hid (BRel w s bs w1.heap.size (W.drewN nq)) := ⟨below_drewN' HBe.out nq, HA.out.drewN nq, HC.out.drewN nq, HD.out.drewN nq, HKW.out⟩
  clear HBe HA HC HD HKW a0 a1 a2 a3 a4 a5 a6 a7
  go_loopw [6, 7, 8, 9, 10, 11, 12, 13, 35] (fun a b c d e f g h i V => ∃ t : Nat, t ≤ 64 ∧ i = .int .i64 (t : Int) ∧ Regs (Sha.rounds (Sha.sched bs 64) t s) a b c d e f g h ∧ BRel w s bs w1.heap.size V) (fun _ _ _ _ _ _ _ _ i _ => 64 - (intOf i).toNat)
  case atStart => exact ⟨0, by omega, rfl, ⟨rfl, rfl, rfl, rfl, rfl, rfl, rfl, rfl⟩, HR.out⟩
  case round =>
    clear HR
    obtain ⟨t, ht, rfl, ⟨rfl, rfl, rfl, rfl, rfl, rfl, rfl, rfl⟩, hR⟩ := hrel
    have HR := Lib.hid hR
    clear hR
    have HO := Lib.hid (Sha.rounds_ok (ws := Sha.sched bs 64) hs t)
    by_cases hlt : t < 64
    · have HN := Lib.hid (show Sha.rounds (Sha.sched bs 64) (t + 1) s = Sha.rnd (Sha.K.getD t 0) ((Sha.sched bs 64).getD t 0) (Sha.rounds (Sha.sched bs 64) t s) from rfl)
      have ck := HR.out.2.2.2.2 t hlt
      have cw : wr.cell? ⟨w1.heap.size, t, none⟩ = some (.int .u32 ((Sha.sched bs 64).getD t 0 : Nat)) := by
        rw [HR.out.2.2.2.1.cell, U32_get (by rw [Sha.sched_length]; exact hlt)]
      have Bw := Lib.hid (Sha.sched_lt hb 64 t)
      have Bk := Lib.hid (show Sha.K.getD t 0 < 4294967296 from K_lt t)
      generalize Sha.K.getD t 0 = kt at *
      generalize (Sha.sched bs 64).getD t 0 = wt at *
      generalize Sha.rounds (Sha.sched bs 64) t s = r at *
      obtain ⟨A, B, C, D, E, F, G, H⟩ := r
      have t64 : (t : Int) < 64 := by omega
      go_wp2
      go_quiet ((go_at_call 99; exact turned_quiet _ _ (by omega) (by have := HO.out.e; simp at this; omega) (by decide) (by decide)))
      go_wp2_with (go_at_call 99; (with_reducible refine (turned_any _ _ _ (by omega) (by have := HO.out.a; simp at this; omega) (by decide) (by decide)).mono ?_); rintro e w' ⟨rfl, rfl⟩)
      have hO := HO.out
      refine ⟨⟨t + 1, by omega, by go_num, ?_, below_drewN' HR.out.1 _, HR.out.2.1.drewN _, HR.out.2.2.1.drewN _, HR.out.2.2.2.1.drewN _, HR.out.2.2.2.2⟩, by simp [intOf]; omega⟩
      rw [HN.out]
      exact ⟨vU32 (rnd_a A B C D E F G H kt wt hO), rfl, rfl, rfl, vU32 (rnd_e A B C D E F G H kt wt hO), rfl, rfl, rfl⟩
    · have HN := Lib.hid (show Sha.compress s bs = Sha.plus s (Sha.rounds (Sha.sched bs 64) t s) by rw [show t = 64 by omega]; rfl)
      generalize Sha.rounds (Sha.sched bs 64) t s = r at *
      obtain ⟨A, B, C, D, E, F, G, H⟩ := r
      have HA := Lib.hid HR.out.2.1
      have a0 : wr.cell? ⟨w.heap.size, 0, none⟩ = some (.int .u32 (s.a : Nat)) := by rw [HA.out.cell]; rfl
      have a1 : wr.cell? ⟨w.heap.size, 1, none⟩ = some (.int .u32 (s.b : Nat)) := by rw [HA.out.cell]; rfl
      have a2 : wr.cell? ⟨w.heap.size, 2, none⟩ = some (.int .u32 (s.c : Nat)) := by rw [HA.out.cell]; rfl
      have a3 : wr.cell? ⟨w.heap.size, 3, none⟩ = some (.int .u32 (s.d : Nat)) := by rw [HA.out.cell]; rfl
      have a4 : wr.cell? ⟨w.heap.size, 4, none⟩ = some (.int .u32 (s.e : Nat)) := by rw [HA.out.cell]; rfl
      have a5 : wr.cell? ⟨w.heap.size, 5, none⟩ = some (.int .u32 (s.f : Nat)) := by rw [HA.out.cell]; rfl
      have a6 : wr.cell? ⟨w.heap.size, 6, none⟩ = some (.int .u32 (s.g : Nat)) := by rw [HA.out.cell]; rfl
      have a7 : wr.cell? ⟨w.heap.size, 7, none⟩ = some (.int .u32 (s.h : Nat)) := by rw [HA.out.cell]; rfl
      go_wp2_with (first | (refine wpList_store_row rfl 125 (.tmp 4) (.tmp 130) rfl (w.heap.size + 1 + 1) _ rfl rfl 125 _ HR.out.2.2.1 (by rw [size62']; rfl) (by rfl) (by simp [Value.oneCell']) ?_))
      refine bodyPost_ret (results_cell_row rfl _ _ (w.heap.size + 1 + 1) 125 _ (0, 0) (.array 8 114) rfl (setRow_heap wr _ _ _ 125 _ HR.out.2.2.1) und62 rfl (by rw [size62']; rfl)) rfl ⟨?_, below_setRow HR.out.1 (by omega) _⟩
      rw [HN.out]
      simp [U32, Sha.St.list, Sha.plus]

end Go.Proofs.YthkbnbnfjnliaaaDoor
