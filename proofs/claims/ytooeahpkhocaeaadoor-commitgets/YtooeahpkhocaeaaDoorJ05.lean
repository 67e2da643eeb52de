/- The contract of hash.behind: the eight numbers behind a block. Conditions: numbers of 32 bits, a block of 64 bytes, the table of constants lies as it was laid. -/
import Derived.Test.YtooeahpkhocaeaaDoorWords
namespace Go.Proofs.YtooeahpkhocaeaaDoor
open Go.RowKit

/-- The table of the constants lies where it was laid. -/
def Kept (w : World) : Prop := ∀ i, i < 64 → w.cell? ⟨0, i, none⟩ = some (.int .u32 (Sha.K.getD i 0 : Nat))
theorem Kept.pos {w : World} (h : Kept w) : 0 < w.heap.size := World.block_lt_of_cell? w _ (h 0 (by omega))
theorem Kept.below {w w' : World} {B : Nat} (h : Kept w) (hb : Below B w w') (hB : 0 < B) : Kept w' := fun i hi => by
  rw [hb.cell (p := ⟨0, i, none⟩) hB]; exact h i hi
def Regs (s : Sha.St) (a b c d e f g h : Value) : Prop := a = .int .u32 (s.a : Nat) ∧ b = .int .u32 (s.b : Nat) ∧ c = .int .u32 (s.c : Nat) ∧ d = .int .u32 (s.d : Nat) ∧ e = .int .u32 (s.e : Nat) ∧ f = .int .u32 (s.f : Nat) ∧ g = .int .u32 (s.g : Nat) ∧ h = .int .u32 (s.h : Nat)
def BRel (w : World) (s : Sha.St) (bs : List Nat) (g : Nat) (V : World) : Prop := Below w.heap.size w V ∧ Has V w.heap.size 122 (U32 s.list) ∧ Has V (w.heap.size + 1 + 1) 122 (U32 [0, 0, 0, 0, 0, 0, 0, 0]) ∧ Has V g 137 (U32 (Sha.sched bs 64)) ∧ Kept V
theorem K_lt (t : Nat) : Sha.K.getD t 0 < 4294967296 := by
  by_cases h : t < 64
  · have : ∀ t, t < 64 → Sha.K.getD t 0 < 4294967296 := by decide +kernel
    exact this t h
  · rw [List.getD_eq_getElem?_getD, List.getElem?_eq_none (by show 64 ≤ t; omega)]; simp
theorem not_raw (E : Nat) (h : E < 4294967296) : bits BinOp.xor IntKind.u32 (if IntKind.u32.signed = true then -1 else IntKind.u32.max) (E : Int) = ((4294967295 - E : Nat) : Int) := by
  have e : (if IntKind.u32.signed = true then (-1 : Int) else IntKind.u32.max) = ((4294967295 : Nat) : Int) := by decide
  rw [e, u32_xor_nat _ _ (by decide) h]
  congr 1
  apply Nat.eq_of_testBit_eq
  intro i
  rw [Nat.testBit_xor, show (4294967295 : Nat) = 2 ^ 32 - 1 by decide, Nat.testBit_two_pow_sub_one, show 2 ^ 32 - 1 - E = 2 ^ 32 - (E + 1) by omega, Nat.testBit_two_pow_sub_succ (by omega)]
  by_cases hi : i < 32
  · simp [hi]
  · have : E.testBit i = false := Nat.testBit_lt_two_pow (Nat.lt_of_lt_of_le h (by
      have : 2 ^ 32 ≤ 2 ^ i := Nat.pow_le_pow_right (by omega) (by omega)
      simpa using this))
    simp [hi, this]
theorem e1_raw (E : Nat) (h : E < 4294967296) : bits BinOp.xor IntKind.u32 (bits BinOp.xor IntKind.u32 ↑(Sha.rotr 6 E) ↑(Sha.rotr 11 E)) ↑(Sha.rotr 25 E) = ((Sha.e1 E : Nat) : Int) := by
  have h1 := Sha.rotr_lt (k := 6) (by omega) h
  have h2 := Sha.rotr_lt (k := 11) (by omega) h
  have h3 := Sha.rotr_lt (k := 25) (by omega) h
  rw [u32_xor_nat _ _ h1 h2, u32_xor_nat _ _ (Sha.xor_lt h1 h2) h3]; rfl
theorem e0_raw (E : Nat) (h : E < 4294967296) : bits BinOp.xor IntKind.u32 (bits BinOp.xor IntKind.u32 ↑(Sha.rotr 2 E) ↑(Sha.rotr 13 E)) ↑(Sha.rotr 22 E) = ((Sha.e0 E : Nat) : Int) := by
  have h1 := Sha.rotr_lt (k := 2) (by omega) h
  have h2 := Sha.rotr_lt (k := 13) (by omega) h
  have h3 := Sha.rotr_lt (k := 22) (by omega) h
  rw [u32_xor_nat _ _ h1 h2, u32_xor_nat _ _ (Sha.xor_lt h1 h2) h3]; rfl
theorem ch_raw (E F G : Nat) (hE : E < 4294967296) (hF : F < 4294967296) (hG : G < 4294967296) :
    bits BinOp.xor IntKind.u32 (bits BinOp.and IntKind.u32 ↑E ↑F) (bits BinOp.and IntKind.u32 (bits BinOp.xor IntKind.u32 (if IntKind.u32.signed = true then -1 else IntKind.u32.max) ↑E) ↑G) = ((Sha.ch E F G : Nat) : Int) := by
  rw [not_raw E hE, u32_and_nat _ _ hE hF, u32_and_nat _ _ (by omega) hG, u32_xor_nat _ _ (Sha.and_lt hF) (Sha.and_lt hG)]; rfl
theorem maj_raw (A B C : Nat) (hA : A < 4294967296) (hB : B < 4294967296) (hC : C < 4294967296) :
    bits BinOp.xor IntKind.u32 (bits BinOp.xor IntKind.u32 (bits BinOp.and IntKind.u32 ↑A ↑B) (bits BinOp.and IntKind.u32 ↑A ↑C)) (bits BinOp.and IntKind.u32 ↑B ↑C) = ((Sha.maj A B C : Nat) : Int) := by
  rw [u32_and_nat _ _ hA hB, u32_and_nat _ _ hA hC, u32_and_nat _ _ hB hC, u32_xor_nat _ _ (Sha.and_lt hB) (Sha.and_lt hC), u32_xor_nat _ _ (Sha.xor_lt (Sha.and_lt hB) (Sha.and_lt hC)) (Sha.and_lt hC)]; rfl
theorem vU32 {a : Int} {b : Nat} (h : a = (b : Int)) : Value.int .u32 a = .int .u32 (b : Int) := by rw [h]
theorem rnd_a (A B C D E F G H k w : Nat) (o : (Sha.St.mk A B C D E F G H).Ok) :
    ((↑H + bits BinOp.xor IntKind.u32 (bits BinOp.xor IntKind.u32 ↑(Sha.rotr 6 E) ↑(Sha.rotr 11 E)) ↑(Sha.rotr 25 E) + bits BinOp.xor IntKind.u32 (bits BinOp.and IntKind.u32 ↑E ↑F) (bits BinOp.and IntKind.u32 (bits BinOp.xor IntKind.u32 (if IntKind.u32.signed = true then -1 else IntKind.u32.max) ↑E) ↑G) + ↑k + ↑w) % 4294967296
      + (bits BinOp.xor IntKind.u32 (bits BinOp.xor IntKind.u32 ↑(Sha.rotr 2 A) ↑(Sha.rotr 13 A)) ↑(Sha.rotr 22 A) + bits BinOp.xor IntKind.u32 (bits BinOp.xor IntKind.u32 (bits BinOp.and IntKind.u32 ↑A ↑B) (bits BinOp.and IntKind.u32 ↑A ↑C)) (bits BinOp.and IntKind.u32 ↑B ↑C)) % 4294967296) % 4294967296
    = (((Sha.rnd k w (Sha.St.mk A B C D E F G H)).a : Nat) : Int) := by
  rw [e1_raw E o.e, ch_raw E F G o.e o.f o.g, e0_raw A o.a, maj_raw A B C o.a o.b o.c]
  simp only [Sha.rnd, Sha.t1, Sha.t2]
  omega
theorem rnd_e (A B C D E F G H k w : Nat) (o : (Sha.St.mk A B C D E F G H).Ok) :
    (↑D + (↑H + bits BinOp.xor IntKind.u32 (bits BinOp.xor IntKind.u32 ↑(Sha.rotr 6 E) ↑(Sha.rotr 11 E)) ↑(Sha.rotr 25 E) + bits BinOp.xor IntKind.u32 (bits BinOp.and IntKind.u32 ↑E ↑F) (bits BinOp.and IntKind.u32 (bits BinOp.xor IntKind.u32 (if IntKind.u32.signed = true then -1 else IntKind.u32.max) ↑E) ↑G) + ↑k + ↑w) % 4294967296) % 4294967296
    = (((Sha.rnd k w (Sha.St.mk A B C D E F G H)).e : Nat) : Int) := by
  rw [e1_raw E o.e, ch_raw E F G o.e o.f o.g]
  simp only [Sha.rnd, Sha.t1]
  omega
theorem turned_quiet (x k : Int) {w : World} {n : Nat} (h0 : 0 ≤ x) (h1 : x < 4294967296) (hk1 : 1 ≤ k) (hk2 : k ≤ 31) :
    Calls Tryd.prog 87 #[.int .u32 x, .int .i64 k] (w.drewN n) fun e w' => e = .returned (.int .u32 (Sha.rotr k.toNat x.toNat : Nat)) ∧ ∃ m, w' = w.drewN m :=
  (turned_any x k _ h0 h1 hk1 hk2).mono fun _ _ ⟨he, hw⟩ => ⟨he, n, hw.symm⟩
theorem U8_drop (l : List Nat) (n : Nat) : (U8 l).drop n = U8 (l.drop n) := by simp [U8]
theorem und62 : Tryd.prog.underlying 122 = some (.array 8 117) := by kernel_rfl
theorem und63 : Tryd.prog.underlying 124 = some (.array 64 5) := by kernel_rfl
theorem size63' : (Tryd.prog.info? 124).map (·.size) = some 64 := by kernel_rfl
theorem size62' : (Tryd.prog.info? 122).map (·.size) = some 8 := by kernel_rfl
theorem size63 {bs : List Nat} (h : bs.length = 64) : (Tryd.prog.info? 124).map (·.size) = some (U8 bs).toArray.size := by rw [size63', List.size_toArray, U8_length, h]
theorem sizeS {bs : List Nat} (h : bs.length = 64) : (Tryd.prog.info? 137).map (·.size) = some (U32 bs).toArray.size := by rw [size69', List.size_toArray, U32_length, h]

set_option maxRecDepth 100000 in
set_option maxHeartbeats 1000000 in
theorem behind_any (s : Sha.St) (bs : List Nat) (hs : s.Ok) (hb : Sha.Bytes bs) (hl : bs.length = 64) (w : World) (hk : Kept w) :
    Calls Tryd.prog 76 #[.agg (U32 s.list).toArray, .agg (U8 bs).toArray] w fun e w' => e = .returned (.agg (U32 (Sha.compress s bs).list).toArray) ∧ Below w.heap.size w w' := by
  have HL := Lib.hid hl
  have HK := Lib.hid hk
  have hB : ∀ o : Obj, Has (((w.alloc (.cells (U32 s.list).toArray 122)).alloc (.cells (U8 bs).toArray 124)).alloc o) (w.heap.size + 1) 124 (U8 bs) := fun o =>
    (Has.new' (w.alloc _) 124 (U8 bs) _ _ rfl (by simp)).alloc _
  have HB := Lib.hid hB
  clear hl hk hB
  go_enter Tryd.func76, Tryd.ntmps76
  go_wp2_with (first
    | (refine wpList_load_row rfl 124 (.tmp 3) rfl (w.heap.size + 1) rfl 124 _ (0, 0) (.array 64 5) (HB.out _) und63 rfl (size63 HL.out) ?_)
    | (go_at_call 86; (with_reducible refine (words_any bs hb HL.out _).mono ?_); rintro e w1 ⟨rfl, hw1⟩; have HW1 := Lib.hid hw1; clear hw1)
    | (refine wpList_store_row rfl 137 (.tmp 5) (.tmp 18) rfl w1.heap.size _ rfl rfl 137 _ (heap_alloc_last w1 _) (sizeS (Sha.sched_length bs 64)) (by simp [Sha.sched_length]) (all_oneCell_toArray (U32_one _)) ?_))
  rw [World.setRow_alloc_new]
  obtain ⟨W, hW⟩ : ∃ W, W = w1.alloc (.cells (U32 (Sha.sched bs 64)).toArray 137) := ⟨_, rfl⟩
  rw [← hW]
  have hz : w.heap.size + 1 + 1 + 1 ≤ w1.heap.size := by have := HW1.out.size; simpa using this
  have hBe : Below w.heap.size w W := by
    rw [hW]
    exact (((((Below.refl _ _).alloc (Nat.le_refl _) _).alloc (by simp) _).alloc (by simp; omega) _).trans (HW1.out.mono (by simp; omega))).alloc (by omega) _
  have hA : Has W w.heap.size 122 (U32 s.list) := by
    rw [hW]
    exact (Has.below (((Has.new w 122 (U32 s.list)).alloc _).alloc _) HW1.out (by simp; omega)).alloc _
  have hC : Has W (w.heap.size + 1 + 1) 122 (U32 [0, 0, 0, 0, 0, 0, 0, 0]) := by
    rw [hW]
    exact (Has.below (Has.new' ((w.alloc _).alloc _) 122 (U32 [0, 0, 0, 0, 0, 0, 0, 0]) _ _ rfl (by simp)) HW1.out (by simp)).alloc _
  have hD : Has W w1.heap.size 137 (U32 (Sha.sched bs 64)) := by rw [hW]; exact Has.new _ _ _
  have HW := Lib.hid hW
  clear hW HW HW1
  have HBe := Lib.hid hBe
  have HA := Lib.hid hA
  have HC := Lib.hid hC
  have HD := Lib.hid hD
  clear hBe hA hC hD
  have HKW := Lib.hid (HK.out.below HBe.out HK.out.pos)
  have a0 : W.cell? ⟨w.heap.size, 0, none⟩ = some (.int .u32 (s.a : Nat)) := by rw [HA.out.cell]; rfl
  have a1 : W.cell? ⟨w.heap.size, 1, none⟩ = some (.int .u32 (s.b : Nat)) := by rw [HA.out.cell]; rfl
  have a2 : W.cell? ⟨w.heap.size, 2, none⟩ = some (.int .u32 (s.c : Nat)) := by rw [HA.out.cell]; rfl
  have a3 : W.cell? ⟨w.heap.size, 3, none⟩ = some (.int .u32 (s.d : Nat)) := by rw [HA.out.cell]; rfl
  have a4 : W.cell? ⟨w.heap.size, 4, none⟩ = some (.int .u32 (s.e : Nat)) := by rw [HA.out.cell]; rfl
  have a5 : W.cell? ⟨w.heap.size, 5, none⟩ = some (.int .u32 (s.f : Nat)) := by rw [HA.out.cell]; rfl
  have a6 : W.cell? ⟨w.heap.size, 6, none⟩ = some (.int .u32 (s.g : Nat)) := by rw [HA.out.cell]; rfl
  have a7 : W.cell? ⟨w.heap.size, 7, none⟩ = some (.int .u32 (s.h : Nat)) := by rw [HA.out.cell]; rfl
  go_quiet (fail)
  go_wp2
  have HR : Hid (BRel w s bs w1.heap.size (W.drewN nq)) := ⟨below_drewN' HBe.out nq, HA.out.drewN nq, HC.out.drewN nq, HD.out.drewN nq, HKW.out⟩
  clear HBe HA HC HD HKW a0 a1 a2 a3 a4 a5 a6 a7
  go_loopw [6, 7, 8, 9, 10, 11, 12, 13, 35] (fun a b c d e f g h i V => ∃ t : Nat, t ≤ 64 ∧ i = .int .i64 (t : Int) ∧ Regs (Sha.rounds (Sha.sched bs 64) t s) a b c d e f g h ∧ BRel w s bs w1.heap.size V) (fun _ _ _ _ _ _ _ _ i _ => 64 - (intOf i).toNat)
  case atStart => exact ⟨0, by omega, rfl, ⟨rfl, rfl, rfl, rfl, rfl, rfl, rfl, rfl⟩, HR.out⟩
  case round =>
    clear HR
    obtain ⟨t, ht, rfl, ⟨rfl, rfl, rfl, rfl, rfl, rfl, rfl, rfl⟩, hR⟩ := hrel
    have HR := Lib.hid hR
    clear hR
    have HO := Lib.hid (Sha.rounds_ok (ws := Sha.sched bs 64) hs t)
    by_cases hlt : t < 64
    · have HN := Lib.hid (show Sha.rounds (Sha.sched bs 64) (t + 1) s = Sha.rnd (Sha.K.getD t 0) ((Sha.sched bs 64).getD t 0) (Sha.rounds (Sha.sched bs 64) t s) from rfl)
      have ck := HR.out.2.2.2.2 t hlt
      have cw : wr.cell? ⟨w1.heap.size, t, none⟩ = some (.int .u32 ((Sha.sched bs 64).getD t 0 : Nat)) := by
        rw [HR.out.2.2.2.1.cell, U32_get (by rw [Sha.sched_length]; exact hlt)]
      have Bw := Lib.hid (Sha.sched_lt hb 64 t)
      have Bk := Lib.hid (show Sha.K.getD t 0 < 4294967296 from K_lt t)
      generalize Sha.K.getD t 0 = kt at *
      generalize (Sha.sched bs 64).getD t 0 = wt at *
      generalize Sha.rounds (Sha.sched bs 64) t s = r at *
      obtain ⟨A, B, C, D, E, F, G, H⟩ := r
      have t64 : (t : Int) < 64 := by omega
      go_wp2
      go_quiet ((go_at_call 87; exact turned_quiet _ _ (by omega) (by have := HO.out.e; simp at this; omega) (by decide) (by decide)))
      go_wp2_with (go_at_call 87; (with_reducible refine (turned_any _ _ _ (by omega) (by have := HO.out.a; simp at this; omega) (by decide) (by decide)).mono ?_); rintro e w' ⟨rfl, rfl⟩)
      have hO := HO.out
      refine ⟨⟨t + 1, by omega, by go_num, ?_, below_drewN' HR.out.1 _, HR.out.2.1.drewN _, HR.out.2.2.1.drewN _, HR.out.2.2.2.1.drewN _, HR.out.2.2.2.2⟩, by simp [intOf]; omega⟩
      rw [HN.out]
      exact ⟨vU32 (rnd_a A B C D E F G H kt wt hO), rfl, rfl, rfl, vU32 (rnd_e A B C D E F G H kt wt hO), rfl, rfl, rfl⟩
    · have HN := Lib.hid (show Sha.compress s bs = Sha.plus s (Sha.rounds (Sha.sched bs 64) t s) by rw [show t = 64 by omega]; rfl)
      generalize Sha.rounds (Sha.sched bs 64) t s = r at *
      obtain ⟨A, B, C, D, E, F, G, H⟩ := r
      have HA := Lib.hid HR.out.2.1
      have a0 : wr.cell? ⟨w.heap.size, 0, none⟩ = some (.int .u32 (s.a : Nat)) := by rw [HA.out.cell]; rfl
      have a1 : wr.cell? ⟨w.heap.size, 1, none⟩ = some (.int .u32 (s.b : Nat)) := by rw [HA.out.cell]; rfl
      have a2 : wr.cell? ⟨w.heap.size, 2, none⟩ = some (.int .u32 (s.c : Nat)) := by rw [HA.out.cell]; rfl
      have a3 : wr.cell? ⟨w.heap.size, 3, none⟩ = some (.int .u32 (s.d : Nat)) := by rw [HA.out.cell]; rfl
      have a4 : wr.cell? ⟨w.heap.size, 4, none⟩ = some (.int .u32 (s.e : Nat)) := by rw [HA.out.cell]; rfl
      have a5 : wr.cell? ⟨w.heap.size, 5, none⟩ = some (.int .u32 (s.f : Nat)) := by rw [HA.out.cell]; rfl
      have a6 : wr.cell? ⟨w.heap.size, 6, none⟩ = some (.int .u32 (s.g : Nat)) := by rw [HA.out.cell]; rfl
      have a7 : wr.cell? ⟨w.heap.size, 7, none⟩ = some (.int .u32 (s.h : Nat)) := by rw [HA.out.cell]; rfl
      go_wp2_with (first | (refine wpList_store_row rfl 122 (.tmp 4) (.tmp 130) rfl (w.heap.size + 1 + 1) _ rfl rfl 122 _ HR.out.2.2.1 (by rw [size62']; rfl) (by rfl) (by simp [Value.oneCell']) ?_))
      refine bodyPost_ret (results_cell_row rfl _ _ (w.heap.size + 1 + 1) 122 _ (0, 0) (.array 8 117) rfl (setRow_heap wr _ _ _ 122 _ HR.out.2.2.1) und62 rfl (by rw [size62']; rfl)) rfl ⟨?_, below_setRow HR.out.1 (by omega) _⟩
      rw [HN.out]
      simp [U32, Sha.St.list, Sha.plus]

end Go.Proofs.YtooeahpkhocaeaaDoor
/- The contract of hash.ending: what stands behind so many bytes. Conditions: fewer than 2 to the 60 bytes. -/
namespace Go.Proofs.YtooeahpkhocaeaaDoor
open Go.RowKit

theorem und27 : Tryd.prog.underlying 45 = some (.slice 5) := by kernel_rfl
theorem info5' : (Tryd.prog.info? 5).map (fun i => (i.zero, i.size, i.bytes)) = some (some (.int .u8 0), 1, 1) := by kernel_rfl
theorem info5 : ∃ i, Tryd.prog.info? 5 = some i ∧ i.zero = some (.int .u8 0) ∧ i.size = 1 ∧ i.bytes = 1 := by
  have h := info5'
  cases hq : Tryd.prog.info? 5 with
  | none => rw [hq] at h; cases h
  | some i =>
    rw [hq] at h
    simp only [Option.map_some, Option.some.injEq, Prod.mk.injEq] at h
    exact ⟨i, rfl, h.1, h.2.1, h.2.2⟩
theorem below_of_grown {B : Nat} {a w w' : World} {row : Option Nat} (h : Below B a w) (hg : w.grownBy w' row) (hr : ∀ g, row = some g → B ≤ g) (hB : B ≤ w.heap.size) : Below B a w' :=
  ⟨hg.os.trans h.os, hg.tape.trans h.tape, hg.output.trans h.output, Nat.le_trans h.size hg.size, fun i hi => (hg.block i (by omega) (fun e => by have := hr i e.symm; omega)).trans (h.block i hi)⟩
/-- append(s, x...) on []byte, s the call's own. -/
theorem wpList_app8 {ops : Array Oper} {rest : List Oper} {o : Oper} {a : Act} {w : World} {Q : Exit → Act → World → Prop} (hgd : o.guard = none) (s x : Operand)
    (ho : o.op = .call { callee := .builtin .append, args := #[s, x], argTypes := #[45, 45] }) (base : Nat)
    (v : Value) (n : Nat) (xs : List Nat) (hs : a.eval s = v) (hown : w.ownsRow base 5 1 v n (U8 xs))
    (g m c : Nat) (news : List Nat) (hx : a.eval x = .slice (some ⟨g, 0, none⟩) m c) (hl : news.length = m) (hnews : w.rangeAt g 0 (U8 news))
    (h63 : n + m ≤ 16777216) (hbase : base ≤ w.heap.size)
    (h : ∀ v' w', Hid (w'.ownsRow base 5 1 v' (n + m) (U8 (xs ++ news))) → Hid (∀ a, Below base a w → Below base a w') → wpList Tryd.prog ops Q rest (a.put o.dst v') w') : wpList Tryd.prog ops Q (o :: rest) a w := by
  obtain ⟨i5, hi5, hz5, hs5, hb5⟩ := info5
  refine wpList_append_own w hgd s x 45 ho base 5 i5 (.int .u8 0) 1 1 und27 hi5 hz5 hs5 hb5 rfl (by omega) v n _ hs hown ⟨g, 0, none⟩ m c (U8 news) hx (by simp [hl]) (fun j u hu => ?_) (U8_one _) (by unfold maxLen; omega) (by omega) hbase ?_
  · rw [Addr.add_mid]; exact hnews j u hu
  · intro v' w' h1 h2 _
    refine h v' w' (by rw [U8_append]; exact h1) (fun b hb => below_of_grown hb h2 (fun g hg => (hown.lt g hg).1) hbase)
theorem rangeAt_new (w : World) (t : TypeId) (o : Array Value) (g : Nat) (l : List Nat) (ho : o = (U8 l).toArray) (hg : g = w.heap.size) : (w.alloc (.cells o t)).rangeAt g 0 (U8 l) := by
  have := (Has.new' w t (U8 l) o g ho hg).range 0 (U8 l).length
  rw [List.drop_zero, List.take_length] at this
  exact this
theorem be8_get (c k : Nat) (h : k < 8) : (Sha.be8 c).take (k + 1) = (Sha.be8 c).take k ++ [c / 2 ^ (56 - 8 * k) % 256] := by
  match k, h with
  | 0, _ => simp [Sha.be8]
  | 1, _ => simp [Sha.be8]
  | 2, _ => simp [Sha.be8]
  | 3, _ => simp [Sha.be8]
  | 4, _ => simp [Sha.be8]
  | 5, _ => simp [Sha.be8]
  | 6, _ => simp [Sha.be8]
  | 7, _ => simp [Sha.be8]
/-- make([]byte, n, c). -/
theorem make_bytes (w : World) (kl kc : IntKind) (n c : Nat) (h : n ≤ c) (hc : c ≤ 65536) :
    (Instr.makeSlice 45 (.int kl (n : Int)) (.int kc (c : Int))).run Tryd.prog w = .ok (.slice (some ⟨w.heap.size, 0, none⟩) n c) (w.alloc (.cells (U8 (List.replicate c 0)).toArray 5)) := by
  obtain ⟨i, hi, hz, hs, hb⟩ := info5
  have := run_make (P := Tryd.prog) w 45 5 i _ und27 hi hz kl kc n c (by omega) (by omega) (by rw [hb]; omega) (by omega)
  rw [this]
  simp only [Int.toNat_natCast, hs, Nat.mul_one]
  have e : madeCells (Value.int IntKind.u8 0).cells c = (U8 (List.replicate c 0)).toArray := by
    apply Array.ext'
    show (madeCells #[Value.int IntKind.u8 0] c).toList = _
    rw [toList_madeCells_one]
    simp [U8]
  rw [e]

set_option maxRecDepth 100000 in
set_option maxHeartbeats 1000000 in
theorem ending_any (n : Nat) (hn : n < 1152921504606846976) (w : World) :
    Calls Tryd.prog 77 #[.int .u64 (n : Int)] w fun e w' => ∃ v, e = .returned v ∧ w'.ownsRow w.heap.size 5 1 v (Sha.ending n).length (U8 (Sha.ending n)) ∧ Below w.heap.size w w' := by
  obtain ⟨z, hz⟩ : ∃ z, z = (119 - n % 64) % 64 := ⟨_, rfl⟩
  have HN := Lib.hid hn
  have hmk : ∀ W : World, (Instr.makeSlice 45 (.int .u64 (1 + (z : Int))) (.int .u64 (1 + (z : Int) + 8))).run Tryd.prog W = .ok (.slice (some ⟨W.heap.size, 0, none⟩) (1 + z) (1 + z + 8)) (W.alloc (.cells (U8 (List.replicate (1 + z + 8) 0)).toArray 5)) := fun W => by
    have := make_bytes W .u64 .u64 (1 + z) (1 + z + 8) (by omega) (by omega)
    simpa using this
  have e1 : (119 - (n : Int) % 64) % 64 = (z : Int) := by omega
  obtain ⟨c, hc⟩ : ∃ c, c = 8 * n := ⟨_, rfl⟩
  have hw8 : IntKind.u64.wrap (8 * (n : Int)) = (c : Int) := by rw [IntKind.wrap_u64]; omega
  have HC := Lib.hid hc
  have HZ := Lib.hid hz
  clear hz hn hc
  have hz64 : z < 64 := by have := HZ.out; omega
  have h0 : ∀ W, Has W w.heap.size 5 ((U8 (List.replicate (1 + z + 8) 0)).set 0 (Value.int IntKind.u8 128)) → W.ownsRow w.heap.size 5 1 (.slice (some ⟨w.heap.size, 0, none⟩) (1 + z) (1 + z + 8)) (1 + z) (U8 (128 :: List.replicate z 0 ++ (Sha.be8 c).take 0)) := fun W hW => by
    refine ⟨by simp [U8]; omega, .inr ⟨w.heap.size, 1 + z + 8, _, rfl, Nat.le_refl _, hW, by omega, by unfold maxLen; omega, by simp, ?_⟩⟩
    simp only [Nat.mul_one]
    rw [show (1 + z + 8) = (z + 8) + 1 by omega, List.replicate_succ, show 1 + z = z + 1 by omega]
    simp [U8, show min z (z + 8) = z by omega]
  have H0 := Lib.hid h0
  clear h0
  go_enter Tryd.func77, Tryd.ntmps77
  go_wp2
  simp only [e1]
  go_loopw [4, 21] (fun v i V => ∃ k : Nat, k ≤ 8 ∧ i = .int .i64 (k : Int) ∧ V.ownsRow w.heap.size 5 1 v (1 + z + k) (U8 (128 :: List.replicate z 0 ++ (Sha.be8 c).take k)) ∧ Below w.heap.size w V) (fun _ i _ => 8 - (intOf i).toNat)
  case atStart => exact ⟨0, by omega, rfl, H0.out _ (Has.new _ _ _), (Below.refl _ _).alloc (Nat.le_refl _) _⟩
  case round =>
    clear H0 e1 hmk hw8
    obtain ⟨k, hk, rfl, hown, hbel⟩ := hrel
    have HB := Lib.hid hbel
    have HO := Lib.hid hown
    clear hbel hown
    by_cases hlt : k < 8
    · have HV := Lib.hid (be8_get c k hlt)
      obtain ⟨x, hx⟩ : ∃ x : Nat, x = c / 2 ^ (56 - 8 * k) % 256 := ⟨_, rfl⟩
      have hxe : (c : Int) / 2 ^ (56 - 8 * k) % 256 = (x : Int) := by rw [hx]; simp
      have HX := Lib.hid hx
      clear hx
      go_wp2_with (at_builtin; refine wpList_app8 rfl (.tmp 24) (.tmp 31) rfl w.heap.size _ (1 + z + k) _ rfl (HO.out.alloc _) wr.heap.size 1 1 [x] rfl rfl (rangeAt_new _ _ _ _ _ rfl rfl) (by omega) (by have := HB.out.size; simp; omega) ?_; intro v' w' HO' HB'; clear HO)
      refine ⟨⟨k + 1, by omega, by go_num, ?_, HB'.out w (HB.out.alloc (by have := HB.out.size; omega) _)⟩, by simp [intOf]; omega⟩
      rw [HV.out, ← HX.out, ← List.append_assoc]
      exact HO'.out
    · go_wp2
      go_ret
      refine ⟨_, rfl, ?_, HB.out⟩
      have e : Sha.ending n = 128 :: List.replicate z 0 ++ (Sha.be8 c).take k := by
        rw [HZ.out, HC.out, show k = 8 by omega]; rfl
      have el : (Sha.ending n).length = 1 + z + k := by
        rw [e, show k = 8 by omega]; simp [Sha.be8]; omega
      rw [el, e]
      exact HO.out

end Go.Proofs.YtooeahpkhocaeaaDoor
