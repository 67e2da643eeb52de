/- The contracts of (*text).digit and hash.Text: a sum as 64 digits. Conditions: 32 bytes. -/
import Derived.Test.YtcinhbhagiffgaaDoorOf
namespace Go.Proofs.YtcinhbhagiffgaaDoor
open Go.RowKit

/-- The digit of a number below 16. -/
def dig (n : Nat) : Nat := if n < 10 then 48 + n else 87 + n
def tl (l : List Nat) (c : Nat) : List Value := U8 l ++ [.int .i64 (c : Int)]
theorem tl_count {l : List Nat} {c : Nat} (h : l.length = 64) : (tl l c)[64]? = some (.int .i64 (c : Int)) := by
  unfold tl; rw [List.getElem?_append_right (by simp [h])]; simp [h]
theorem tl_get {l : List Nat} {c i : Nat} (h : l.length = 64) (hi : i < 64) : (tl l c)[i]? = some (.int .u8 (l.getD i 0 : Nat)) := by
  unfold tl; rw [List.getElem?_append_left (by simp [h, hi]), U8_get (by omega)]
theorem tl_set {l : List Nat} {c i x : Nat} (h : l.length = 64) (hi : i < 64) : (tl l c).set i (.int .u8 (x : Int)) = tl (l.set i x) c := by
  unfold tl; rw [List.set_append_left _ _ (by simp [h, hi]), U8_set]
theorem tl_set_count {l : List Nat} {c d : Nat} (h : l.length = 64) : (tl l c).set 64 (.int .i64 (d : Int)) = tl l d := by
  unfold tl; rw [List.set_append_right _ _ (by simp [h])]; simp [h]
def digs : ByteArray := ⟨#[48, 49, 50, 51, 52, 53, 54, 55, 56, 57, 97, 98, 99, 100, 101, 102]⟩

theorem und9 : Tryd.prog.underlying 9 = some .string := by kernel_rfl
theorem digs_get : ∀ n : Fin 16, digs[n.val]? = some (UInt8.ofNat (dig n.val)) := by decide +kernel
theorem dig_lt (n : Nat) (h : n < 16) : dig n < 256 := by unfold dig; split <;> omega
theorem index_digs {k : IntKind} (n : Nat) (hn : n < 16) (w : World) : (Instr.index 9 (.string ⟨#[48, 49, 50, 51, 52, 53, 54, 55, 56, 57, 97, 98, 99, 100, 101, 102]⟩) (.int k (n : Int))).run Tryd.prog w = .ok (.int .u8 (dig n : Nat)) w := by
  have h := digs_get ⟨n, hn⟩
  have hl := dig_lt n hn
  simp only [digs] at h
  simp [Instr.index, asIntOf, Sem.run_bind, run_underlying und9 w, h]
  omega
set_option maxRecDepth 100000 in
set_option maxHeartbeats 1000000 in
theorem digit_any (g c n : Nat) (l : List Nat) (w : World) (hb : Has w g 54 (tl l c)) (hl : l.length = 64) (hc : c < 64) (hn : n < 16) :
    Calls Tryd.prog 27 #[.pointer (some ⟨g, 0, none⟩), .int .u8 (n : Int)] w fun e w' => e = .returned (.tuple #[]) ∧ Has w' g 54 (tl (l.set c (dig n)) (c + 1)) ∧ w.grownBy w' (some g) := by
  have c64 : w.cell? ⟨g, 64, none⟩ = some (.int .i64 (c : Int)) := by rw [hb.cell, tl_count hl]
  have cc : w.cell? ⟨g, c, none⟩ = some (.int .u8 (l.getD c 0 : Nat)) := by rw [hb.cell, tl_get hl hc]
  have fc := hb.open_ c
  have f64 := hb.open_ 64
  have HB := Lib.hid hb
  have HL := Lib.hid hl
  clear hb hl
  have c1 : (c : Int) < 64 := by omega
  have n1 : (n : Int) < 16 := by omega
  have hix := fun W : World => index_digs (k := .u8) n hn W
  go_enter Tryd.func27, Tryd.ntmps27
  go_wp2
  go_still_tail 10, (by kernel_rfl)
  change wpList _ _ _ _ _ w.drew
  go_wp2
  go_end0
  refine ⟨rfl, ?_, ?_⟩
  · have h1 := HB.out.set_ c (.int .u8 (dig n : Nat))
    rw [tl_set HL.out hc] at h1
    have h2 := h1.set_ 64 (.int .i64 ((c + 1 : Nat) : Int))
    rw [tl_set_count (by simp [HL.out])] at h2
    exact h2.drew
  · have h1 : w.grownBy (w.setCell ⟨g, c, none⟩ (.int .u8 (dig n : Nat))) (some g) := grown_set HB.out.lt _ _
    have h2 := grown_trans' h1 (grown_set (w := w.setCell ⟨g, c, none⟩ (.int .u8 (dig n : Nat))) (by simpa [World.setCell] using HB.out.lt) 64 (.int .i64 ((c : Int) + 1))) (by simpa [World.setCell] using HB.out.lt)
    exact ⟨h2.os, h2.tape, h2.output, h2.size, h2.block⟩

/-- Bytes as a string. -/
def S (l : List Nat) : ByteArray := ⟨(l.map UInt8.ofNat).toArray⟩
def hexs (l : List Nat) : List Nat := l.flatMap fun b => [dig (b / 16), dig (b % 16)]
theorem hexs_length (l : List Nat) : (hexs l).length = 2 * l.length := by
  induction l with
  | nil => rfl
  | cons a r ih => simp [hexs] at ih ⊢; omega
/-- The text behind i bytes. -/
def textPart (l : List Nat) (i : Nat) : List Nat := hexs (l.take i) ++ List.replicate (64 - 2 * i) 0
theorem textPart_length (l : List Nat) (i : Nat) (hl : l.length = 32) (hi : i ≤ 32) : (textPart l i).length = 64 := by
  simp [textPart, hexs_length, hl]; omega
theorem textPart_set (l : List Nat) (i : Nat) (hl : l.length = 32) (hi : i < 32) :
    ((textPart l i).set (2 * i) (dig (l.getD i 0 / 16))).set (2 * i + 1) (dig (l.getD i 0 % 16)) = textPart l (i + 1) := by
  unfold textPart
  have hlen : (hexs (l.take i)).length = 2 * i := by rw [hexs_length, List.length_take]; omega
  have hr : List.replicate (64 - 2 * i) 0 = 0 :: 0 :: List.replicate (64 - 2 * (i + 1)) 0 := by
    rw [← List.replicate_succ, ← List.replicate_succ]; congr 1; omega
  have ht : hexs (l.take (i + 1)) = hexs (l.take i) ++ [dig (l.getD i 0 / 16), dig (l.getD i 0 % 16)] := by
    rw [List.take_add_one, List.getElem?_eq_getElem (by omega)]
    unfold hexs
    rw [List.flatMap_append]
    simp only [Option.toList_some, List.flatMap_cons, List.flatMap_nil, List.append_nil]
    rw [List.getD_eq_getElem?_getD, List.getElem?_eq_getElem (by omega)]
    rfl
  rw [List.set_append_right _ _ (by omega), List.set_append_right _ _ (by omega), hr, ht, hlen]
  simp

def TextRel (w : World) (l : List Nat) (i : Nat) (V : World) : Prop := Below w.heap.size w V ∧ Has V (w.heap.size + 1) 54 (tl (textPart l i) (2 * i))
set_option maxRecDepth 100000 in
set_option maxHeartbeats 1000000 in
theorem text_any (l : List Nat) (hb : Sha.Bytes l) (hl : l.length = 32) (w : World) :
    Calls Tryd.prog 15 #[.agg (U8 l).toArray] w fun e w' => e = .returned (.string (S (hexs l))) ∧ Below w.heap.size w w' := by
  have HL := Lib.hid hl
  have hz := (zero_of_info (P := Tryd.prog) (t := 54) (v := .agg (tl (List.replicate 64 0) 0).toArray) (n := 65) (by kernel_rfl)).1
  clear hl
  go_enter Tryd.func15, Tryd.ntmps15
  go_wp2_with (refine wpList_load_row rfl 25 (.tmp 1) rfl w.heap.size rfl 25 _ (0, 0) (.array 32 5) ((Has.new w 25 (U8 l)).alloc _) und25 rfl (by rw [size25', List.size_toArray, U8_length, HL.out]) ?_)
  have h0 : TextRel w l 0 ((w.alloc (.cells (U8 l).toArray 25)).alloc (.cells (tl (List.replicate 64 0) 0).toArray 54)) :=
    ⟨(((Below.refl _ _).alloc (Nat.le_refl _) _).alloc (by simp) _), Has.new' _ _ _ _ _ rfl (by simp)⟩
  have H0 := Lib.hid h0
  clear h0 hz
  go_loopw [9] (fun i V => ∃ k : Nat, k ≤ 32 ∧ i = .int .i64 (k : Int) ∧ TextRel w l k V) (fun i _ => 32 - (intOf i).toNat)
  case atStart => exact ⟨0, by omega, rfl, H0.out⟩
  case round =>
    clear H0
    obtain ⟨k, hk, rfl, hrel⟩ := hrel
    have HR := Lib.hid hrel
    clear hrel
    by_cases hlt : k < 32
    · have hix : (U8 l)[k]? = some (.int .u8 (l.getD k 0 : Nat)) := U8_get (by have := HL.out; omega)
      have hb1 := hb.getD k
      have HT := Lib.hid (textPart_set l k HL.out hlt)
      have HTl := Lib.hid (textPart_length l k HL.out (by omega))
      generalize l.getD k 0 = x at *
      have k32 : (k : Int) < 32 := by omega
      have hidx := fun W : World => run_index_agg (P := Tryd.prog) (k := .i64) (U8 l) k _ und25 (by kernel_rfl : Tryd.prog.underlying 5 = some (.int .u8)) rfl (by kernel_rfl) hlt hix W
      have hand : bits BinOp.and IntKind.u8 (x : Int) 15 = (x : Int) % 16 := u8_and15 (x := (x : Int)) (by omega) (by omega)
      clear hix
      go_wp2_with fail
      rw [show (x : Int) / 16 = ((x / 16 : Nat) : Int) from by omega]
      refine (digit_any (w.heap.size + 1) (2 * k) (x / 16) _ wr HR.out.2 HTl.out (by omega) (by omega)).mono ?_
      rintro e w1 ⟨rfl, hh1, hg1⟩
      have HH1 := Lib.hid hh1
      have HG1 := Lib.hid hg1
      clear hh1 hg1
      go_wp2_with fail
      rw [show (x : Int) % 16 = ((x % 16 : Nat) : Int) from by omega]
      refine (digit_any (w.heap.size + 1) (2 * k + 1) (x % 16) _ w1 HH1.out (by rw [List.length_set]; exact HTl.out) (by omega) (by omega)).mono ?_
      rintro e w2 ⟨rfl, hh2, hg2⟩
      rw [HT.out] at hh2
      have hbel : Below w.heap.size w w2 := by
        have hz : w.heap.size + 1 < wr.heap.size := HR.out.2.lt
        have hz1 : w.heap.size + 1 < w1.heap.size := HH1.out.lt
        exact below_of_grown (below_of_grown HR.out.1 HG1.out (fun g e => by injection e with e; omega) (by omega)) hg2 (fun g e => by injection e with e; omega) (by omega)
      have HB2 := Lib.hid hbel
      have HH2 := Lib.hid hh2
      clear hbel hh2 hg2 HG1 HH1 hand hidx
      go_wp2
      exact ⟨⟨k + 1, by omega, by go_num, HB2.out, HH2.out⟩, by simp [intOf]; omega⟩
    · obtain rfl : k = 32 := by omega
      have hfin : textPart l 32 = hexs l := by
        unfold textPart
        rw [List.take_of_length_le (by rw [HL.out]; exact Nat.le_refl _)]
        simp
      have hH := HR.out.2
      rw [hfin] at hH
      have HB := Lib.hid HR.out.1
      have hconv : ∀ c, Sem.run Tryd.prog (convert 27 9 (.slice (some ⟨w.heap.size + 1, 0, none⟩) 64 c)) wr = .ok (.string ⟨((hexs l).map UInt8.ofNat).toArray⟩) wr := fun c => by
        have hlen : (hexs l).length = 64 := by rw [hexs_length, HL.out]
        have := run_convert_bytes_arg (P := Tryd.prog) (w := wr) 27 5 und27 (by kernel_rfl) (w.heap.size + 1) 0 64 c ((hexs l).map fun n : Nat => (n : Int)) (by simp [hlen]) (fun i hi => by
          rw [Nat.zero_add, hH.cell, tl_get hlen hi]
          simp [hlen, hi]) 9 und9
        rw [this]
        simp [strOfNums]
      clear hfin hH HR hlt hk
      go_wp2
      go_ret
      exact ⟨rfl, HB.out⟩
end Go.Proofs.YtcinhbhagiffgaaDoor
