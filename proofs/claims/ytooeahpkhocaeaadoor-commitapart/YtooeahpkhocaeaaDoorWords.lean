/- The contract of hash.words: a block of 64 bytes comes to its 64 numbers. Conditions: 64 bytes. -/
import Derived.Test.YtooeahpkhocaeaaDoorJ03
import Derived.Test.YtooeahpkhocaeaaDoorJ00
import Derived.StillTailTactics
import Derived.BigQuiet
import Derived.BigRegion
namespace Go.Proofs.YtooeahpkhocaeaaDoor
open Go.RowKit

def pad64 (l : List Nat) : List Nat := l ++ List.replicate (64 - l.length) 0
theorem below_setRow {B : Nat} {a w : World} (h : Below B a w) {g : Nat} (hg : B ≤ g) (c : Array Value) : Below B a (w.setRow g c) :=
  ⟨h.os, h.tape, h.output, by simpa [World.setRow] using h.size, fun i hi => by
    have : (w.setRow g c).heap[i]? = w.heap[i]? := by
      simp only [World.setRow, Array.getElem?_modify]
      rw [if_neg (by omega)]
    rw [this]; exact h.block i hi⟩
theorem pad64_set (l : List Nat) (x : Nat) (h : l.length < 64) : (pad64 l).set l.length x = pad64 (l ++ [x]) := by
  unfold pad64
  obtain ⟨n, hn⟩ : ∃ n, 64 - l.length = n + 1 := ⟨63 - l.length, by omega⟩
  rw [hn, List.replicate_succ, List.set_append_right _ _ (by omega)]
  simp [show 64 - (l.length + 1) = n by omega]
theorem pad64_length (l : List Nat) (h : l.length ≤ 64) : (pad64 l).length = 64 := by simp [pad64]; omega
theorem pad64_getD (l : List Nat) {i : Nat} (h : i < l.length) : (pad64 l).getD i 0 = l.getD i 0 := by
  simp only [pad64, List.getD_eq_getElem?_getD]
  rw [List.getElem?_append_left h]
theorem or_low (a b c k : Nat) (h : b < c) (hc : c = 2 ^ k) : c * a ||| b = c * a + b := by
  subst hc; rw [Nat.two_pow_add_eq_or_of_lt h]
theorem word_raw (x0 x1 x2 x3 : Nat) (h0 : x0 < 256) (h1 : x1 < 256) (h2 : x2 < 256) (h3 : x3 < 256) :
    bits BinOp.or IntKind.u32 (bits BinOp.or IntKind.u32 (bits BinOp.or IntKind.u32 (↑x0 * 16777216) (↑x1 * 65536)) (↑x2 * 256)) (↑x3) = ((x0 * 16777216 + x1 * 65536 + x2 * 256 + x3 : Nat) : Int) := by
  have e0 : (x0 : Int) * 16777216 = ((16777216 * x0 : Nat) : Int) := by omega
  have e1 : (x1 : Int) * 65536 = ((65536 * x1 : Nat) : Int) := by omega
  have e2 : (x2 : Int) * 256 = ((256 * x2 : Nat) : Int) := by omega
  have o1 := or_low x0 (65536 * x1) 16777216 24 (by omega) (by decide)
  have o2 := or_low (256 * x0 + x1) (256 * x2) 65536 16 (by omega) (by decide)
  have o3 := or_low (65536 * x0 + 256 * x1 + x2) x3 256 8 (by omega) (by decide)
  rw [e0, e1, e2, u32_or_nat _ _ (by omega) (by omega), o1, show 16777216 * x0 + 65536 * x1 = 65536 * (256 * x0 + x1) by omega, u32_or_nat _ _ (by omega) (by omega), o2,
    show 65536 * (256 * x0 + x1) + 256 * x2 = 256 * (65536 * x0 + 256 * x1 + x2) by omega, u32_or_nat _ _ (by omega) (by omega), o3]
  omega
def WR (w : World) (bs : List Nat) (t : Nat) (W : World) : Prop :=
  Below w.heap.size w W ∧ Has W w.heap.size 124 (U8 bs) ∧ Has W (w.heap.size + 1) 137 (U32 (pad64 [])) ∧ Has W (w.heap.size + 1 + 1) 137 (U32 (pad64 (Sha.sched bs t)))

theorem WR_step {w W : World} {bs : List Nat} {t x : Nat} {v : Int} (h : WR w bs t W) (ht : t < 64) (hx : Sha.sched bs (t + 1) = Sha.sched bs t ++ [x]) (hv : v = (x : Int)) (o : Nat) (ho : o = t) :
    WR w bs (t + 1) (W.setCell ⟨w.heap.size + 1 + 1, o, none⟩ (.int .u32 v)).drew := by
  obtain ⟨h1, h2, h3, h4⟩ := h
  subst hv ho
  refine ⟨(h1.setCell (by simp; omega) _).drew, (h2.far (by simp; omega) _).drew, (h3.far (by simp) _).drew, ?_⟩
  have := h4.set_ o (.int .u32 (x : Int))
  rw [U32_set] at this
  have hp := pad64_set (Sha.sched bs o) x (by rw [Sha.sched_length]; exact ht)
  rw [Sha.sched_length] at hp
  rw [hp, ← hx] at this
  exact this.drew
theorem s0_raw (x : Nat) (h : x < 4294967296) : bits BinOp.xor IntKind.u32 (bits BinOp.xor IntKind.u32 ↑(Sha.rotr 7 x) ↑(Sha.rotr 18 x)) (↑x / 8) = ((Sha.s0 x : Nat) : Int) := by
  have h7 := Sha.rotr_lt (k := 7) (by omega) h
  have h18 := Sha.rotr_lt (k := 18) (by omega) h
  rw [show (x : Int) / 8 = ((x / 8 : Nat) : Int) by omega, u32_xor_nat _ _ h7 h18, u32_xor_nat _ _ (Sha.xor_lt h7 h18) (by omega)]; rfl
theorem s1_raw (x : Nat) (h : x < 4294967296) : bits BinOp.xor IntKind.u32 (bits BinOp.xor IntKind.u32 ↑(Sha.rotr 17 x) ↑(Sha.rotr 19 x)) (↑x / 1024) = ((Sha.s1 x : Nat) : Int) := by
  have h7 := Sha.rotr_lt (k := 17) (by omega) h
  have h18 := Sha.rotr_lt (k := 19) (by omega) h
  rw [show (x : Int) / 1024 = ((x / 1024 : Nat) : Int) by omega, u32_xor_nat _ _ h7 h18, u32_xor_nat _ _ (Sha.xor_lt h7 h18) (by omega)]; rfl
theorem sched_raw (x0 x9 x1 x14 : Nat) (h1 : x1 < 4294967296) (h14 : x14 < 4294967296) :
    (↑x0 + ↑x9 + bits BinOp.xor IntKind.u32 (bits BinOp.xor IntKind.u32 ↑(Sha.rotr 7 x1) ↑(Sha.rotr 18 x1)) (↑x1 / 8) + bits BinOp.xor IntKind.u32 (bits BinOp.xor IntKind.u32 ↑(Sha.rotr 17 x14) ↑(Sha.rotr 19 x14)) (↑x14 / 1024)) % 4294967296
      = (((x0 + x9 + Sha.s0 x1 + Sha.s1 x14) % 4294967296 : Nat) : Int) := by
  rw [s0_raw x1 h1, s1_raw x14 h14]; omega
theorem sched64 (bs : List Nat) : pad64 (Sha.sched bs 64) = Sha.sched bs 64 := by simp [pad64, Sha.sched_length]
theorem und69 : Tryd.prog.underlying 137 = some (.array 64 117) := by kernel_rfl
theorem size69' : (Tryd.prog.info? 137).map (·.size) = some 64 := by kernel_rfl
theorem size69 {bs : List Nat} : (Tryd.prog.info? 137).map (·.size) = some (U32 (pad64 (Sha.sched bs (16 + 48)))).toArray.size := by
  rw [size69', List.size_toArray, U32_length, pad64_length _ (by rw [Sha.sched_length]; omega)]
set_option maxRecDepth 100000 in
set_option maxHeartbeats 1000000 in
theorem words_any (bs : List Nat) (hb : Sha.Bytes bs) (hl : bs.length = 64) (w : World) :
    Calls Tryd.prog 86 #[.agg (U8 bs).toArray] w fun e w' => e = .returned (.agg (U32 (Sha.sched bs 64)).toArray) ∧ Below w.heap.size w w' := by
  have HL := Lib.hid hl
  clear hl
  go_enter Tryd.func86, Tryd.ntmps86
  go_wp2
  go_loopw [10] (fun i W => ∃ t : Nat, t ≤ 16 ∧ i = .int .i64 (t : Int) ∧ WR w bs t W) (fun i _ => 16 - (intOf i).toNat)
  case atStart => 
    refine ⟨0, by omega, rfl, ?_, ?_, ?_, ?_⟩
    · exact ((((Below.refl _ _).alloc (Nat.le_refl _) _).alloc (by simp) _).alloc (by simp; omega) _)
    · exact ((Has.new w 124 (U8 bs)).alloc _).alloc _
    · exact (Has.new' (w.alloc _) 137 (U32 (pad64 [])) _ _ rfl (by simp)).alloc _
    · exact Has.new' ((w.alloc _).alloc _) 137 (U32 (pad64 [])) _ _ rfl (by simp)
  case round =>
    obtain ⟨t, ht, rfl, hrel⟩ := hrel
    by_cases hlt : t < 16
    · obtain ⟨h1, h2, h3, h4⟩ := hrel
      have H1 := Lib.hid h1
      have H3 := Lib.hid h3
      have H4 := Lib.hid h4
      clear h1 h3 h4
      have H2 := Lib.hid h2
      clear h2
      have hc : ∀ j, j < 4 → wr.cell? ⟨w.heap.size, 4 * t + j, none⟩ = some (.int .u8 (bs.getD (4 * t + j) 0 : Nat)) := fun j hj => by
        rw [H2.out.cell, U8_get (by rw [HL.out]; omega)]
      have c0 := hc 0 (by omega)
      have c1 := hc 1 (by omega)
      have c2 := hc 2 (by omega)
      have c3 := hc 3 (by omega)
      clear hc
      simp only [Nat.add_zero] at c0
      have b0 := hb.getD (4 * t)
      have b1 := hb.getD (4 * t + 1)
      have b2 := hb.getD (4 * t + 2)
      have b3 := hb.getD (4 * t + 3)
      have hx : Sha.sched bs (t + 1) = Sha.sched bs t ++ [bs.getD (4 * t) 0 * 16777216 + bs.getD (4 * t + 1) 0 * 65536 + bs.getD (4 * t + 2) 0 * 256 + bs.getD (4 * t + 3) 0] := by
        simp [Sha.sched, Sha.next, Sha.sched_length, hlt, Sha.word]
      generalize bs.getD (4 * t) 0 = x0 at *
      generalize bs.getD (4 * t + 1) 0 = x1 at *
      generalize bs.getD (4 * t + 2) 0 = x2 at *
      generalize bs.getD (4 * t + 3) 0 = x3 at *
      have HX := Lib.hid hx
      clear hx
      have hr := word_raw x0 x1 x2 x3 b0 b1 b2 b3
      have HR := Lib.hid hr
      clear hr
      have hold : wr.cell? ⟨w.heap.size + 1 + 1, t, none⟩ = some (.int .u32 ((pad64 (Sha.sched bs t)).getD t 0 : Nat)) := by
        rw [H4.out.cell, U32_get (by rw [pad64_length _ (by rw [Sha.sched_length]; omega)]; omega)]
      have hfro := H4.out.open_ t
      have t64 : (t : Int) < 64 := by omega
      have g0 : (0 : Int) ≤ 4 * t := by omega
      have g1 : (4 * t : Int) < 64 := by omega
      have g2 : (4 * t + 1: Int) < 64 := by omega
      have g3 : (4 * t + 2: Int) < 64 := by omega
      have g4 : (4 * t + 3: Int) < 64 := by omega
      have k1 : (0 : Int) ≤ 4 * t + 1 := by omega
      have k2 : (0 : Int) ≤ 4 * t + 2 := by omega
      have k3 : (0 : Int) ≤ 4 * t + 3 := by omega
      have n0 : (4 * t : Int).toNat = 4 * t := by omega
      have n1 : (4 * t + 1 : Int).toNat = 4 * t + 1 := by omega
      have n2 : (4 * t + 2 : Int).toNat = 4 * t + 2 := by omega
      have n3 : (4 * t + 3 : Int).toNat = 4 * t + 3 := by omega
      have w0 : IntKind.i64.wrap (4 * t : Int) = 4 * t := IntWalk.i64_in _ (by omega)
      have w1 : IntKind.i64.wrap (4 * t + 1 : Int) = 4 * t + 1 := IntWalk.i64_in _ (by omega)
      have w2 : IntKind.i64.wrap (4 * t + 2 : Int) = 4 * t + 2 := IntWalk.i64_in _ (by omega)
      have w3 : IntKind.i64.wrap (4 * t + 3 : Int) = 4 * t + 3 := IntWalk.i64_in _ (by omega)
      go_wp2
      go_still_tail 31, (by kernel_rfl)
      change wpList _ _ _ _ _ wr.drew
      clear w0 w1 w2 w3 n0 n1 n2 n3 c0 c1 c2 c3
      go_wp2
      exact ⟨⟨t + 1, by omega, by go_num, WR_step ⟨H1.out, H2.out, H3.out, H4.out⟩ (by omega) HX.out HR.out _ rfl⟩, by simp [intOf]; omega⟩
    · have hrel16 : WR w bs 16 wr := by
        obtain rfl : t = 16 := by omega
        exact hrel
      have R0 := Lib.hid hrel16
      clear hrel16
      clear hrel
      go_wp2
      go_loopw [45] (fun i W => ∃ t : Nat, t ≤ 48 ∧ i = .int .i64 (t : Int) ∧ WR w bs (16 + t) W) (fun i _ => 48 - (intOf i).toNat)
      case atStart => exact ⟨0, by omega, rfl, R0.out⟩
      case round =>
        clear R0 hlt ht
        obtain ⟨i, hi, rfl, hrel⟩ := hrel
        by_cases hlt : i < 48
        · obtain ⟨h1, h2, h3, h4⟩ := hrel
          have H1 := Lib.hid h1
          have H3 := Lib.hid h3
          have H4 := Lib.hid h4
          have H2 := Lib.hid h2
          clear h1 h3 h4 h2
          have hx : Sha.sched bs (16 + i + 1) = Sha.sched bs (16 + i) ++ [((Sha.sched bs (16 + i)).getD i 0 + (Sha.sched bs (16 + i)).getD (i + 9) 0 + Sha.s0 ((Sha.sched bs (16 + i)).getD (i + 1) 0) + Sha.s1 ((Sha.sched bs (16 + i)).getD (i + 14) 0)) % 4294967296] := by
            rw [Sha.sched]
            unfold Sha.next
            rw [Sha.sched_length, if_neg (by omega), show 16 + i - 16 = i by omega, show 16 + i - 7 = i + 9 by omega, show 16 + i - 15 = i + 1 by omega, show 16 + i - 2 = i + 14 by omega]
          have hc : ∀ j, j < 16 → wr.cell? ⟨w.heap.size + 1 + 1, i + j, none⟩ = some (.int .u32 ((Sha.sched bs (16 + i)).getD (i + j) 0 : Nat)) := fun j hj => by
            have hl : (Sha.sched bs (16 + i)).length = 16 + i := Sha.sched_length _ _
            rw [H4.out.cell, U32_get (by rw [pad64_length _ (by omega)]; omega), pad64_getD _ (by omega)]
          have c0 := hc 0 (by omega)
          have c1 := hc 1 (by omega)
          have c9 := hc 9 (by omega)
          have c14 := hc 14 (by omega)
          clear hc
          simp only [Nat.add_zero] at c0
          have B0 := Lib.hid <| Sha.sched_lt hb (16 + i) i
          have B1 := Lib.hid <| Sha.sched_lt hb (16 + i) (i + 1)
          have B9 := Lib.hid <| Sha.sched_lt hb (16 + i) (i + 9)
          have B14 := Lib.hid <| Sha.sched_lt hb (16 + i) (i + 14)
          generalize (Sha.sched bs (16 + i)).getD i 0 = x0 at *
          generalize (Sha.sched bs (16 + i)).getD (i + 1) 0 = x1 at *
          generalize (Sha.sched bs (16 + i)).getD (i + 9) 0 = x9 at *
          generalize (Sha.sched bs (16 + i)).getD (i + 14) 0 = x14 at *
          have HX := Lib.hid hx
          clear hx
          have hold : wr.cell? ⟨w.heap.size + 1 + 1, i + 16, none⟩ = some (.int .u32 ((pad64 (Sha.sched bs (16 + i))).getD (i + 16) 0 : Nat)) := by
            rw [H4.out.cell, U32_get (by rw [pad64_length _ (by rw [Sha.sched_length]; omega)]; omega)]
          have hfro := H4.out.open_ (i + 16)
          have g1 : (i : Int) + 1 < 64 := by omega
          have g14 : (i : Int) + 14 < 64 := by omega
          have g9 : (i : Int) + 9 < 64 := by omega
          have g16 : (i : Int) + 16 < 64 := by omega
          have k1 : (0 : Int) ≤ (i : Int) + 1 := by omega
          have k9 : (0 : Int) ≤ (i : Int) + 9 := by omega
          have k14 : (0 : Int) ≤ (i : Int) + 14 := by omega
          have k16 : (0 : Int) ≤ (i : Int) + 16 := by omega
          have gi : (i : Int) < 64 := by omega
          have n1 : ((i : Int) + 1).toNat = i + 1 := by omega
          have n14 : ((i : Int) + 14).toNat = i + 14 := by omega
          have n9 : ((i : Int) + 9).toNat = i + 9 := by omega
          have n16 : ((i : Int) + 16).toNat = i + 16 := by omega
          have w1 : IntKind.i64.wrap ((i : Int) + 1) = (i : Int) + 1 := IntWalk.i64_in _ (by omega)
          have w9 : IntKind.i64.wrap ((i : Int) + 9) = (i : Int) + 9 := IntWalk.i64_in _ (by omega)
          have w14 : IntKind.i64.wrap ((i : Int) + 14) = (i : Int) + 14 := IntWalk.i64_in _ (by omega)
          have w16 : IntKind.i64.wrap ((i : Int) + 16) = (i : Int) + 16 := IntWalk.i64_in _ (by omega)
          go_wp2
          go_quiet (fail)
          go_wp2_with (go_at_call 87; (with_reducible refine (turned_any _ _ _ (by omega) (by first | (have := B1.out; omega) | (have := B14.out; omega)) (by decide) (by decide)).mono ?_); rintro e w' ⟨rfl, rfl⟩)
          have H1' := Lib.hid (below_drewN' H1.out nq)
          have H2' := Lib.hid (H2.out.drewN nq)
          have H3' := Lib.hid (H3.out.drewN nq)
          have H4' := Lib.hid (H4.out.drewN nq)
          clear H1 H2 H3 H4
          rw [← World.cell?_drewN wr nq] at c0 c1 c9 c14 hold
          rw [← World.frozen?_drewN wr nq] at hfro
          generalize wr.drewN nq = W at *
          go_still_tail 15, (by kernel_rfl)
          change wpList _ _ _ _ _ W.drew
          clear w1 w9 w14 w16 n1 n9 n14 n16 c0 c1 c9 c14
          go_wp2
          exact ⟨⟨i + 1, by omega, by go_num, WR_step ⟨H1'.out, H2'.out, H3'.out, H4'.out⟩ (by omega) HX.out (sched_raw _ _ _ _ B1.out B14.out) _ (by omega)⟩, by simp [intOf]; omega⟩
        · obtain rfl : i = 48 := by omega
          obtain ⟨h1, h2, h3, h4⟩ := hrel
          have H1 := Lib.hid h1
          have H3 := Lib.hid h3
          have H4 := Lib.hid h4
          clear h1 h3 h4 h2 hlt hi
          go_wp2_with (first | (refine wpList_load_row rfl 137 (.tmp 3) rfl (w.heap.size + 1 + 1) rfl 137 _ (0, 0) (.array 64 117) H4.out und69 rfl size69 ?_) | (refine wpList_store_row rfl 137 (.tmp 2) (.tmp 88) rfl (w.heap.size + 1) _ rfl rfl 137 _ H3.out size69 (by simp only [List.size_toArray, U32_length]; rw [pad64_length _ (by simp), pad64_length _ (by rw [Sha.sched_length]; omega)]) (all_oneCell_toArray (U32_one _)) ?_))
          have hB : Below w.heap.size w (wr.setRow (w.heap.size + 1) (U32 (pad64 (Sha.sched bs (16 + 48)))).toArray) := below_setRow H1.out (by omega) _
          have hN := setRow_heap wr (w.heap.size + 1) _ (U32 (pad64 (Sha.sched bs (16 + 48)))).toArray 137 _ H3.out
          generalize wr.setRow (w.heap.size + 1) (U32 (pad64 (Sha.sched bs (16 + 48)))).toArray = W at *
          exact bodyPost_ret (results_cell_row rfl _ _ (w.heap.size + 1) 137 _ (0, 0) (.array 64 117) rfl hN und69 rfl size69) rfl ⟨by rw [sched64], hB⟩

end Go.Proofs.YtooeahpkhocaeaaDoor
