/- The walk of HashTexts. Conditions: the table of constants lies as it was laid. -/
import Derived.Test.YtcinhbhagiffgaaDoorRefText
namespace Go.Proofs.YtcinhbhagiffgaaDoor
open Go.RowKit

set_option maxRecDepth 100000 in
set_option maxHeartbeats 1000000 in
theorem texts_walk (l : List Nat) (hb : Sha.Bytes l) (hl : l.length = 32) (w : World) (hk : Kept w) :
    Calls Tryd.prog 5 #[.agg (U8 l).toArray] w fun e w' => e = .returned (.bool true) ∧ Below w.heap.size w w' := by
  have hsz : (Tryd.prog.info? 25).map (·.size) = some (U8 l).toArray.size := by rw [size25', List.size_toArray, U8_length, hl]
  have HSz := Lib.hid hsz
  have HK := Lib.hid hk
  have HX0 := Lib.hid (Has.new w 25 (U8 l))
  have HB0 := Lib.hid (show Below w.heap.size w (w.alloc (.cells (U8 l).toArray 25)) from (Below.refl _ _).alloc (Nat.le_refl _) _)
  have HR := Lib.hid (read_text hb hl)
  have heh := fun W : World => run_eqHash l l hl hl W
  rw [beq_self_eq_true] at heh
  have HL := Lib.hid hl
  have hbs : bl (S l) = l := bl_S hb
  have HBs := Lib.hid hbs
  clear hsz hk hbs
  go_enter Tryd.func5, Tryd.ntmps5
  go_wp2_with (refine wpList_load_row rfl 25 (.tmp 1) rfl w.heap.size rfl 25 _ (0, 0) (.array 32 5) HX0.out und25 rfl HSz.out ?_)
  refine (text_any l hb HL.out _).mono ?_
  rintro e w1 ⟨rfl, hb1⟩
  have HX1 := Lib.hid (HX0.out.below hb1 HX0.out.lt)
  have HB1 := Lib.hid (HB0.out.trans (hb1.mono HB0.out.size))
  clear hb1 HX0 HB0
  go_wp2_with fail
  refine (read_any _ _ (S_size (hexs l) (by rw [hexs_length, HL.out]; omega))).mono ?_
  rintro e w2 ⟨rfl, hb2⟩
  rw [HR.out.2.1, HR.out.2.2]
  have HX2 := Lib.hid (HX1.out.below hb2 HX1.out.lt)
  have HB2 := Lib.hid (HB1.out.trans (hb2.mono HB1.out.size))
  clear hb2 HX1 HB1
  have hst := run_storeCells_new (P := Tryd.prog) w2 25 (U8 (List.replicate 32 0)).toArray (U8 l).toArray HSz.out (by simp [HL.out]) (all_oneCell_toArray (U8_one _))
  have hst1 : Sem.run Tryd.prog (storeCells ⟨w2.heap.size, 0, none⟩ (U8 l)) (w2.alloc (.cells #[.int .u8 0, .int .u8 0, .int .u8 0, .int .u8 0, .int .u8 0, .int .u8 0, .int .u8 0, .int .u8 0, .int .u8 0, .int .u8 0, .int .u8 0, .int .u8 0, .int .u8 0, .int .u8 0, .int .u8 0, .int .u8 0, .int .u8 0, .int .u8 0, .int .u8 0, .int .u8 0, .int .u8 0, .int .u8 0, .int .u8 0, .int .u8 0, .int .u8 0, .int .u8 0, .int .u8 0, .int .u8 0, .int .u8 0, .int .u8 0, .int .u8 0, .int .u8 0] 25)) = .ok () (w2.alloc (.cells (U8 l).toArray 25)) := hst
  clear hst
  have hx3 := Has.new w2 25 (U8 l)
  have hy3 := HX2.out.alloc (.cells (U8 l).toArray 25)
  have hB3 : Below w.heap.size w (w2.alloc (.cells (U8 l).toArray 25)) := HB2.out.alloc (by have := HB2.out.size; omega) _
  generalize hW3 : w2.alloc (.cells (U8 l).toArray 25) = W3 at *
  have HX3 := Lib.hid hx3
  have HY3 := Lib.hid hy3
  have HB3 := Lib.hid hB3
  clear hx3 hy3 hB3 hW3 HX2 HB2
  go_wp2_with fail
  refine (awake_any _ (HK.out.below HB3.out HK.out.pos)).mono ?_
  rintro e w4 ⟨rfl, hb4⟩
  have HX4 := Lib.hid (HX3.out.below hb4 HX3.out.lt)
  have HY4 := Lib.hid (HY3.out.below hb4 HY3.out.lt)
  have HB4 := Lib.hid (HB3.out.trans (hb4.mono HB3.out.size))
  clear hb4 HX3 HY3 HB3 hst1
  go_wp2_with (refine wpList_load_g 25 (.tmp 1) rfl (by rfl) w.heap.size rfl 25 (U8 l) (.array 32 5) HY4.out und25 rfl HSz.out ?_)
  refine (str_any l HL.out _).mono ?_
  rintro e w5 ⟨rfl, hb5⟩
  have HX5 := Lib.hid (HX4.out.below hb5 HX4.out.lt)
  have HY5 := Lib.hid (HY4.out.below hb5 HY4.out.lt)
  have HB5 := Lib.hid (HB4.out.trans (hb5.mono HB4.out.size))
  clear hb5 HX4 HY4 HB4
  go_wp2_with fail
  refine (reftext_any (S l) (S_size l (by rw [HL.out]; omega)) _).mono ?_
  rintro e w6 ⟨rfl, hb6⟩
  rw [HBs.out]
  have HX6 := Lib.hid (HX5.out.below hb6 HX5.out.lt)
  have HY6 := Lib.hid (HY5.out.below hb6 HY5.out.lt)
  have HB6 := Lib.hid (HB5.out.trans (hb6.mono HB5.out.size))
  clear hb6 HX5 HY5 HB5
  go_wp2_with (first
    | (refine wpList_load_g 25 (.tmp 1) rfl (by rfl) w.heap.size rfl 25 (U8 l) (.array 32 5) HY6.out und25 rfl HSz.out ?_)
    | (refine wpList_load_g 25 (.tmp 4) rfl (by rfl) w2.heap.size rfl 25 (U8 l) (.array 32 5) HX6.out und25 rfl HSz.out ?_))
  go_ret
  exact ⟨rfl, HB6.out⟩
end Go.Proofs.YtcinhbhagiffgaaDoor
