/- The walk of HashApart. Conditions: sums of 32 bytes, the table of constants lies as it was laid. -/
import Derived.Test.YtcinhbhagiffgaaDoorOrder
namespace Go.Proofs.YtcinhbhagiffgaaDoor
open Go.RowKit

theorem has_range {w : World} {g : Nat} {t : TypeId} {l : List Nat} (h : Has w g t (U8 l)) : w.rangeAt g 0 (U8 l) := by
  have := h.range 0 (U8 l).length
  rwa [List.drop_zero, List.take_length] at this

set_option maxRecDepth 100000 in
set_option maxHeartbeats 1000000 in
theorem apart_walk (a : List Nat) (ha : Sha.Bytes a) (la : a.length = 32) (b : List Nat) (hb : Sha.Bytes b) (lb : b.length = 32) (w : World) (hk : Kept w) :
    Calls Tryd.prog 9 #[.agg (U8 a).toArray, .agg (U8 b).toArray] w fun e w' => e = .returned (.bool true) ∧ Below w.heap.size w w' := by
  have HK := Lib.hid hk
  have HA := Lib.hid ha
  have HB := Lib.hid hb
  have HLa := Lib.hid la
  have HLb := Lib.hid lb
  have HX0 := Lib.hid ((Has.new w 25 (U8 a)).alloc (.cells (U8 b).toArray 25))
  have HY0 := Lib.hid (Has.new' (w.alloc (.cells (U8 a).toArray 25)) 25 (U8 b) _ (w.heap.size + 1) rfl (by simp))
  have HB0 := Lib.hid (show Below w.heap.size w ((w.alloc (.cells (U8 a).toArray 25)).alloc (.cells (U8 b).toArray 25)) from ((Below.refl _ _).alloc (Nat.le_refl _) _).alloc (by simp) _)
  clear hk ha hb la lb
  go_enter Tryd.func9, Tryd.ntmps9
  go_wp2
  generalize (w.alloc (.cells (U8 a).toArray 25)).alloc (.cells (U8 b).toArray 25) = W0 at *
  have hS0 : W0.drew.rangeAt w.heap.size 0 (U8 a) ∧ W0.drew.rangeAt (w.heap.size + 1) 0 (U8 b) := ⟨has_range HX0.out, has_range HY0.out⟩
  refine wp_region_held (S := fun w' => w'.rangeAt w.heap.size 0 (U8 a) ∧ w'.rangeAt (w.heap.size + 1) 0 (U8 b)) (by kernel_rfl) ?_
  change wpAnyH _ _ _ _ _ _ _ _ W0.drew
  refine held_take 0 (some 7) rfl rfl (by kernel_rfl) (by kernel_rfl) (by kernel_rfl) (fun _ _ _ h => h) (yieldsIf_load_mid (by rfl) 25 (.tmp 2) rfl w.heap.size 0 rfl (U8 a) (.array 32 5) (fun _ h => h.1) und25 rfl (by rw [U8_length, HLa.out]; kernel_rfl)) hS0 ?_
  go_frame
  refine held_take 2 (some 9) rfl rfl (by kernel_rfl) (by kernel_rfl) (by kernel_rfl) (fun _ _ _ h => h) (yieldsIf_load_mid (by rfl) 25 (.tmp 3) rfl (w.heap.size + 1) 0 rfl (U8 b) (.array 32 5) (fun _ h => h.2) und25 rfl (by rw [U8_length, HLb.out]; kernel_rfl)) hS0 ?_
  go_frame
  refine held_one 1 (some 8) rfl rfl (by kernel_rfl) (by rfl) (fun K hK => ?_)
  go_simp
  refine (text_any a HA.out HLa.out _).mono ?_
  rintro e w1 ⟨rfl, hb1⟩
  have HX1 := Lib.hid (HX0.out.drew.below hb1 HX0.out.lt)
  have HY1 := Lib.hid (HY0.out.drew.below hb1 HY0.out.lt)
  have HB1 := Lib.hid (HB0.out.drew.trans (hb1.mono HB0.out.size))
  clear hb1 HX0 HY0 HB0
  refine hK _ _ ⟨has_range HX1.out, has_range HY1.out⟩ ?_
  clear hK K hS0
  go_frame
  refine held_one 3 (some 10) rfl rfl (by kernel_rfl) (by rfl) (fun K hK => ?_)
  go_simp
  refine (text_any b HB.out HLb.out _).mono ?_
  rintro e w2 ⟨rfl, hb2⟩
  have HX2 := Lib.hid (HX1.out.below hb2 HX1.out.lt)
  have HY2 := Lib.hid (HY1.out.below hb2 HY1.out.lt)
  have HB2 := Lib.hid (HB1.out.trans (hb2.mono HB1.out.size))
  clear hb2 HX1 HY1 HB1
  have hS2 : w2.rangeAt w.heap.size 0 (U8 a) ∧ w2.rangeAt (w.heap.size + 1) 0 (U8 b) := ⟨has_range HX2.out, has_range HY2.out⟩
  refine hK _ _ hS2 ?_
  clear hK K
  go_frame
  refine held_take 4 (some 5) (v := .string (S (hexs a))) rfl rfl (by kernel_rfl) (by kernel_rfl) (by kernel_rfl) (fun _ _ _ h => h) (Or.inl ⟨by rfl, fun _ _ => by go_simp⟩) hS2 ?_
  go_frame
  refine held_take 5 (some 6) (v := .string (S (hexs b))) rfl rfl (by kernel_rfl) (by kernel_rfl) (by kernel_rfl) (fun _ _ _ h => h) (Or.inl ⟨by rfl, fun _ _ => by go_simp⟩) hS2 ?_
  go_frame
  refine wpAnyH_done (by kernel_rfl) ?_ _
  clear hS2
  have HSa : Hid ((Tryd.prog.info? 25).map (·.size) = some (U8 a).toArray.size) := by
    show _ = _
    rw [size25', List.size_toArray, U8_length, HLa.out]
  have HSb : Hid ((Tryd.prog.info? 25).map (·.size) = some (U8 b).toArray.size) := by
    show _ = _
    rw [size25', List.size_toArray, U8_length, HLb.out]
  have heh := fun W : World => run_eqHash a b HLa.out HLb.out W
  have hlt : Op.bytesLess (S (hexs a)).toList (S (hexs b)).toList = ltN a b := by
    rw [S_toList, S_toList, less_bytes _ _ (hexs_bytes HA.out) (hexs_bytes HB.out), ltN_hexs a b HA.out HB.out (by rw [HLa.out, HLb.out])]
  have heq := eq_texts HA.out HB.out HLa.out HLb.out
  have hsz : ((S (hexs a)).size : Int) = 64 := by rw [S_size', hexs_length, HLa.out]; rfl
  go_wp2_with fail
  refine (awake_any _ (HK.out.below HB2.out HK.out.pos)).mono ?_
  rintro e w3 ⟨rfl, hb3⟩
  have HX3 := Lib.hid (HX2.out.below hb3 HX2.out.lt)
  have HY3 := Lib.hid (HY2.out.below hb3 HY2.out.lt)
  have HB3 := Lib.hid (HB2.out.trans (hb3.mono HB2.out.size))
  clear hb3 HX2 HY2 HB2
  go_wp2_with (first
    | (refine wpList_load_g 25 (.tmp 2) rfl (by rfl) w.heap.size rfl 25 (U8 a) (.array 32 5) HX3.out und25 rfl HSa.out ?_)
    | (refine wpList_load_g 25 (.tmp 3) rfl (by rfl) (w.heap.size + 1) rfl 25 (U8 b) (.array 32 5) HY3.out und25 rfl HSb.out ?_))
  refine (less_lt a b HA.out HB.out HLa.out HLb.out _).mono ?_
  rintro e w4 ⟨rfl, hb4⟩
  have HB4 := Lib.hid (HB3.out.trans (hb4.mono HB3.out.size))
  clear hb4 HX3 HY3 HB3
  go_wp2
  go_ret
  exact ⟨rfl, HB4.out⟩
end Go.Proofs.YtcinhbhagiffgaaDoor
