/- The walk of HashOrder. Conditions: sums of 32 bytes, the table of constants lies as it was laid. -/
import Derived.Test.YtcinhbhagiffgaaDoorWApart
namespace Go.Proofs.YtcinhbhagiffgaaDoor
open Go.RowKit

theorem held_skip {P : Program} {md : Region.Mode} {ops : Array Oper} {Q : Exit → Act → World → Prop} {S : World → Prop} (i : Nat) (d : Option Tmp) {o : Oper} {fuel : Nat} {listed : Array Bool} {a : Act} {w : World} (hi : ops[i]? = some o) (hd : o.dst = d)
    (hr : Region.ready md ops listed = [i]) (hw : Region.wanted o (yielded ops a.tmps) = false) (hS : S w)
    (h : wpAnyH P md ops Q S fuel (listed.setIfInBounds i true) (a.put d undef) w) : wpAnyH P md ops Q S (fuel + 1) listed a w := by
  refine wpAnyH_all hr (by simp) (fun j hj => ?_)
  obtain rfl : j = i := by simpa using hj
  subst hd
  unfold wpOp
  simp only [hi, hw]
  exact ⟨hS, h⟩
theorem less_is {x y : List Nat} {v : Bool} (h : ltN x y = v) (hx : Sha.Bytes x) (hy : Sha.Bytes y) (lx : x.length = 32) (ly : y.length = 32) (w : World) :
    Calls Tryd.prog 19 #[.agg (U8 x).toArray, .agg (U8 y).toArray] w fun e w' => e = .returned (.bool v) ∧ Below w.heap.size w w' :=
  (less_lt x y hx hy lx ly w).mono fun _ _ ⟨he, hw⟩ => ⟨by rw [he, h], hw⟩

set_option maxRecDepth 100000 in
set_option maxHeartbeats 4000000 in
theorem order_A (a : List Nat) (ha : Sha.Bytes a) (la : a.length = 32) (b : List Nat) (hb : Sha.Bytes b) (lb : b.length = 32) (c : List Nat) (hc : Sha.Bytes c) (lc : c.length = 32) (w : World) (hk : Kept w) (hp : ltN a b = true) (hq : ltN b c = true) (hs : ltN a c = true) :
    Calls Tryd.prog 7 #[.agg (U8 a).toArray, .agg (U8 b).toArray, .agg (U8 c).toArray] w fun e w' => e = .returned (.bool true) ∧ Below w.heap.size w w' := by
  have HK := Lib.hid hk
  have HA := Lib.hid ha
  have HB := Lib.hid hb
  have HC := Lib.hid hc
  have HLa := Lib.hid la
  have HLb := Lib.hid lb
  have HLc := Lib.hid lc
  have HX0 := Lib.hid (((Has.new w 25 (U8 a)).alloc (.cells (U8 b).toArray 25)).alloc (.cells (U8 c).toArray 25))
  have HY0 := Lib.hid ((Has.new' (w.alloc (.cells (U8 a).toArray 25)) 25 (U8 b) _ (w.heap.size + 1) rfl (by simp)).alloc (.cells (U8 c).toArray 25))
  have HZ0 := Lib.hid (Has.new' ((w.alloc (.cells (U8 a).toArray 25)).alloc (.cells (U8 b).toArray 25)) 25 (U8 c) _ (w.heap.size + 2) rfl (by simp))
  have HW0 := Lib.hid (show Below w.heap.size w (((w.alloc (.cells (U8 a).toArray 25)).alloc (.cells (U8 b).toArray 25)).alloc (.cells (U8 c).toArray 25)) from (((Below.refl _ _).alloc (Nat.le_refl _) _).alloc (by simp) _).alloc (by simp; omega) _)
  have Hhp := Lib.hid hp
  clear hp
  have Hhq := Lib.hid hq
  clear hq
  have Hhs := Lib.hid hs
  clear hs
  clear hk ha hb hc la lb lc
  go_enter Tryd.func7, Tryd.ntmps7
  go_wp2
  generalize ((w.alloc (.cells (U8 a).toArray 25)).alloc (.cells (U8 b).toArray 25)).alloc (.cells (U8 c).toArray 25) = W0 at *
  have hS : W0.drew.rangeAt w.heap.size 0 (U8 a) ∧ W0.drew.rangeAt (w.heap.size + 1) 0 (U8 b) ∧ W0.drew.rangeAt (w.heap.size + 2) 0 (U8 c) := ⟨has_range HX0.out, has_range HY0.out, has_range HZ0.out⟩
  refine wp_region_held (S := fun w' => w'.rangeAt w.heap.size 0 (U8 a) ∧ w'.rangeAt (w.heap.size + 1) 0 (U8 b) ∧ w'.rangeAt (w.heap.size + 2) 0 (U8 c)) (by kernel_rfl) ?_
  change wpAnyH _ _ _ _ _ _ _ _ W0.drew
  refine held_take 0 (some 9) rfl rfl (by kernel_rfl) (by kernel_rfl) (by kernel_rfl) (fun _ _ _ h => h) (yieldsIf_load_mid (by rfl) 25 (.tmp 3) rfl w.heap.size 0 rfl (U8 a) (.array 32 5) (fun _ h => h.1) und25 rfl (by rw [U8_length, HLa.out]; kernel_rfl)) hS ?_
  go_frame
  refine held_take 1 (some 10) rfl rfl (by kernel_rfl) (by kernel_rfl) (by kernel_rfl) (fun _ _ _ h => h) (yieldsIf_load_mid (by rfl) 25 (.tmp 4) rfl (w.heap.size + 1) 0 rfl (U8 b) (.array 32 5) (fun _ h => h.2.1) und25 rfl (by rw [U8_length, HLb.out]; kernel_rfl)) hS ?_
  go_frame
  refine held_take 3 (some 12) rfl rfl (by kernel_rfl) (by kernel_rfl) (by kernel_rfl) (fun _ _ _ h => h) (yieldsIf_load_mid (by rfl) 25 (.tmp 4) rfl (w.heap.size + 1) 0 rfl (U8 b) (.array 32 5) (fun _ h => h.2.1) und25 rfl (by rw [U8_length, HLb.out]; kernel_rfl)) hS ?_
  go_frame
  refine held_take 4 (some 13) rfl rfl (by kernel_rfl) (by kernel_rfl) (by kernel_rfl) (fun _ _ _ h => h) (yieldsIf_load_mid (by rfl) 25 (.tmp 5) rfl (w.heap.size + 2) 0 rfl (U8 c) (.array 32 5) (fun _ h => h.2.2) und25 rfl (by rw [U8_length, HLc.out]; kernel_rfl)) hS ?_
  go_frame
  clear hS
  refine held_one 2 (some 11) rfl rfl (by kernel_rfl) (by rfl) (fun K hK => ?_)
  go_simp
  refine (less_is Hhp.out HA.out HB.out HLa.out HLb.out _).mono ?_
  rintro e w1 ⟨rfl, hb1⟩
  have HX1 := Lib.hid (HX0.out.drew.below hb1 HX0.out.lt)
  have HY1 := Lib.hid (HY0.out.drew.below hb1 HY0.out.lt)
  have HZ1 := Lib.hid (HZ0.out.drew.below hb1 HZ0.out.lt)
  have HW1 := Lib.hid (HW0.out.drew.trans (hb1.mono HW0.out.size))
  clear hb1 HX0 HY0 HZ0 HW0
  have hS : w1.rangeAt w.heap.size 0 (U8 a) ∧ w1.rangeAt (w.heap.size + 1) 0 (U8 b) ∧ w1.rangeAt (w.heap.size + 2) 0 (U8 c) := ⟨has_range HX1.out, has_range HY1.out, has_range HZ1.out⟩
  refine hK _ _ hS ?_
  clear hK K
  go_frame
  clear hS
  refine held_one 5 (some 14) rfl rfl (by kernel_rfl) (by rfl) (fun K hK => ?_)
  go_simp
  refine (less_is Hhq.out HB.out HC.out HLb.out HLc.out _).mono ?_
  rintro e w2 ⟨rfl, hb1⟩
  have HX2 := Lib.hid (HX1.out.below hb1 HX1.out.lt)
  have HY2 := Lib.hid (HY1.out.below hb1 HY1.out.lt)
  have HZ2 := Lib.hid (HZ1.out.below hb1 HZ1.out.lt)
  have HW2 := Lib.hid (HW1.out.trans (hb1.mono HW1.out.size))
  clear hb1 HX1 HY1 HZ1 HW1
  have hS : w2.rangeAt w.heap.size 0 (U8 a) ∧ w2.rangeAt (w.heap.size + 1) 0 (U8 b) ∧ w2.rangeAt (w.heap.size + 2) 0 (U8 c) := ⟨has_range HX2.out, has_range HY2.out, has_range HZ2.out⟩
  refine hK _ _ hS ?_
  clear hK K
  go_frame
  refine held_take 6 (some 7) (v := .bool true) rfl rfl (by kernel_rfl) (by kernel_rfl) (by kernel_rfl) (fun _ _ _ h => h) (Or.inl ⟨by rfl, fun _ _ => by go_simp⟩) hS ?_
  go_frame
  refine held_take 7 (some 8) (v := .bool true) rfl rfl (by kernel_rfl) (by kernel_rfl) (by kernel_rfl) (fun _ _ _ h => h) (Or.inl ⟨by rfl, fun _ _ => by go_simp⟩) hS ?_
  go_frame
  refine wpAnyH_done (by kernel_rfl) ?_ _
  clear hS
  go_wp2
  have hS : w2.drew.rangeAt w.heap.size 0 (U8 a) ∧ w2.drew.rangeAt (w.heap.size + 1) 0 (U8 b) ∧ w2.drew.rangeAt (w.heap.size + 2) 0 (U8 c) := ⟨has_range HX2.out, has_range HY2.out, has_range HZ2.out⟩
  refine wp_region_held (S := fun w' => w'.rangeAt w.heap.size 0 (U8 a) ∧ w'.rangeAt (w.heap.size + 1) 0 (U8 b) ∧ w'.rangeAt (w.heap.size + 2) 0 (U8 c)) (by kernel_rfl) ?_
  change wpAnyH _ _ _ _ _ _ _ _ w2.drew
  clear hS
  refine held_one 0 (some 15) rfl rfl (by kernel_rfl) (by rfl) (fun K hK => ?_)
  go_simp
  refine (awake_any _ (HK.out.below HW2.out.drew HK.out.pos)).mono ?_
  rintro e w3 ⟨rfl, hb1⟩
  have HX3 := Lib.hid (HX2.out.drew.below hb1 HX2.out.lt)
  have HY3 := Lib.hid (HY2.out.drew.below hb1 HY2.out.lt)
  have HZ3 := Lib.hid (HZ2.out.drew.below hb1 HZ2.out.lt)
  have HW3 := Lib.hid (HW2.out.drew.trans (hb1.mono HW2.out.size))
  clear hb1 HX2 HY2 HZ2 HW2
  have hS : w3.rangeAt w.heap.size 0 (U8 a) ∧ w3.rangeAt (w.heap.size + 1) 0 (U8 b) ∧ w3.rangeAt (w.heap.size + 2) 0 (U8 c) := ⟨has_range HX3.out, has_range HY3.out, has_range HZ3.out⟩
  refine hK _ _ hS ?_
  clear hK K
  go_frame
  refine held_take 1 (some 16) (v := .bool true) rfl rfl (by kernel_rfl) (by kernel_rfl) (by kernel_rfl) (fun _ _ _ h => h) (Or.inl ⟨by rfl, fun _ _ => by go_simp⟩) hS ?_
  go_frame
  refine held_take 2 (some 17) (v := .bool true) rfl rfl (by kernel_rfl) (by kernel_rfl) (by kernel_rfl) (fun _ _ _ h => h) (Or.inl ⟨by rfl, fun _ _ => by go_simp⟩) hS ?_
  go_frame
  refine held_take 3 (some 18) rfl rfl (by kernel_rfl) (by kernel_rfl) (by kernel_rfl) (fun _ _ _ h => h) (yieldsIf_load_mid (by rfl) 25 (.tmp 3) rfl w.heap.size 0 rfl (U8 a) (.array 32 5) (fun _ h => h.1) und25 rfl (by rw [U8_length, HLa.out]; kernel_rfl)) hS ?_
  go_frame
  refine held_take 5 (some 20) rfl rfl (by kernel_rfl) (by kernel_rfl) (by kernel_rfl) (fun _ _ _ h => h) (yieldsIf_load_mid (by rfl) 25 (.tmp 4) rfl (w.heap.size + 1) 0 rfl (U8 b) (.array 32 5) (fun _ h => h.2.1) und25 rfl (by rw [U8_length, HLb.out]; kernel_rfl)) hS ?_
  go_frame
  clear hS
  refine held_one 4 (some 19) rfl rfl (by kernel_rfl) (by rfl) (fun K hK => ?_)
  go_simp
  refine (str_any a HLa.out _).mono ?_
  rintro e w4 ⟨rfl, hb1⟩
  have HX4 := Lib.hid (HX3.out.below hb1 HX3.out.lt)
  have HY4 := Lib.hid (HY3.out.below hb1 HY3.out.lt)
  have HZ4 := Lib.hid (HZ3.out.below hb1 HZ3.out.lt)
  have HW4 := Lib.hid (HW3.out.trans (hb1.mono HW3.out.size))
  clear hb1 HX3 HY3 HZ3 HW3
  have hS : w4.rangeAt w.heap.size 0 (U8 a) ∧ w4.rangeAt (w.heap.size + 1) 0 (U8 b) ∧ w4.rangeAt (w.heap.size + 2) 0 (U8 c) := ⟨has_range HX4.out, has_range HY4.out, has_range HZ4.out⟩
  refine hK _ _ hS ?_
  clear hK K
  go_frame
  clear hS
  refine held_one 6 (some 21) rfl rfl (by kernel_rfl) (by rfl) (fun K hK => ?_)
  go_simp
  refine (str_any b HLb.out _).mono ?_
  rintro e w5 ⟨rfl, hb1⟩
  have HX5 := Lib.hid (HX4.out.below hb1 HX4.out.lt)
  have HY5 := Lib.hid (HY4.out.below hb1 HY4.out.lt)
  have HZ5 := Lib.hid (HZ4.out.below hb1 HZ4.out.lt)
  have HW5 := Lib.hid (HW4.out.trans (hb1.mono HW4.out.size))
  clear hb1 HX4 HY4 HZ4 HW4
  have hS : w5.rangeAt w.heap.size 0 (U8 a) ∧ w5.rangeAt (w.heap.size + 1) 0 (U8 b) ∧ w5.rangeAt (w.heap.size + 2) 0 (U8 c) := ⟨has_range HX5.out, has_range HY5.out, has_range HZ5.out⟩
  refine hK _ _ hS ?_
  clear hK K
  go_frame
  have hlt : Op.bytesLess (S a).toList (S b).toList = true := by rw [S_toList, S_toList, less_bytes _ _ HA.out HB.out, Hhp.out]
  refine held_take 7 (some 22) (v := .bool true) rfl rfl (by kernel_rfl) (by kernel_rfl) (by kernel_rfl) (fun _ _ _ h => h) (Or.inl ⟨by rfl, fun _ _ => by go_simp⟩) hS ?_
  go_frame
  clear hlt
  refine held_take 8 (some 23) (v := .bool true) rfl rfl (by kernel_rfl) (by kernel_rfl) (by kernel_rfl) (fun _ _ _ h => h) (Or.inl ⟨by rfl, fun _ _ => by go_simp⟩) hS ?_
  go_frame
  refine held_take 9 (some 24) (v := .bool true) rfl rfl (by kernel_rfl) (by kernel_rfl) (by kernel_rfl) (fun _ _ _ h => h) (Or.inl ⟨by rfl, fun _ _ => by go_simp⟩) hS ?_
  go_frame
  refine held_take 10 (some 25) (v := .bool true) rfl rfl (by kernel_rfl) (by kernel_rfl) (by kernel_rfl) (fun _ _ _ h => h) (Or.inl ⟨by rfl, fun _ _ => by go_simp⟩) hS ?_
  go_frame
  refine held_take 11 (some 26) rfl rfl (by kernel_rfl) (by kernel_rfl) (by kernel_rfl) (fun _ _ _ h => h) (yieldsIf_load_mid (by rfl) 25 (.tmp 3) rfl w.heap.size 0 rfl (U8 a) (.array 32 5) (fun _ h => h.1) und25 rfl (by rw [U8_length, HLa.out]; kernel_rfl)) hS ?_
  go_frame
  refine held_take 12 (some 27) rfl rfl (by kernel_rfl) (by kernel_rfl) (by kernel_rfl) (fun _ _ _ h => h) (yieldsIf_load_mid (by rfl) 25 (.tmp 3) rfl w.heap.size 0 rfl (U8 a) (.array 32 5) (fun _ h => h.1) und25 rfl (by rw [U8_length, HLa.out]; kernel_rfl)) hS ?_
  go_frame
  clear hS
  refine held_one 13 (some 28) rfl rfl (by kernel_rfl) (by rfl) (fun K hK => ?_)
  go_simp
  refine (less_is (ltN_irrefl a) HA.out HA.out HLa.out HLa.out _).mono ?_
  rintro e w6 ⟨rfl, hb1⟩
  have HX6 := Lib.hid (HX5.out.below hb1 HX5.out.lt)
  have HY6 := Lib.hid (HY5.out.below hb1 HY5.out.lt)
  have HZ6 := Lib.hid (HZ5.out.below hb1 HZ5.out.lt)
  have HW6 := Lib.hid (HW5.out.trans (hb1.mono HW5.out.size))
  clear hb1 HX5 HY5 HZ5 HW5
  have hS : w6.rangeAt w.heap.size 0 (U8 a) ∧ w6.rangeAt (w.heap.size + 1) 0 (U8 b) ∧ w6.rangeAt (w.heap.size + 2) 0 (U8 c) := ⟨has_range HX6.out, has_range HY6.out, has_range HZ6.out⟩
  refine hK _ _ hS ?_
  clear hK K
  go_frame
  refine held_take 14 (some 29) (v := .bool true) rfl rfl (by kernel_rfl) (by kernel_rfl) (by kernel_rfl) (fun _ _ _ h => h) (Or.inl ⟨by rfl, fun _ _ => by go_simp⟩) hS ?_
  go_frame
  refine held_take 15 (some 30) (v := .bool true) rfl rfl (by kernel_rfl) (by kernel_rfl) (by kernel_rfl) (fun _ _ _ h => h) (Or.inl ⟨by rfl, fun _ _ => by go_simp⟩) hS ?_
  go_frame
  refine held_take 16 (some 31) (v := .bool true) rfl rfl (by kernel_rfl) (by kernel_rfl) (by kernel_rfl) (fun _ _ _ h => h) (Or.inl ⟨by rfl, fun _ _ => by go_simp⟩) hS ?_
  go_frame
  refine held_take 17 (some 32) (v := .bool true) rfl rfl (by kernel_rfl) (by kernel_rfl) (by kernel_rfl) (fun _ _ _ h => h) (Or.inl ⟨by rfl, fun _ _ => by go_simp⟩) hS ?_
  go_frame
  refine held_take 18 (some 33) (v := .bool true) rfl rfl (by kernel_rfl) (by kernel_rfl) (by kernel_rfl) (fun _ _ _ h => h) (Or.inl ⟨by rfl, fun _ _ => by go_simp⟩) hS ?_
  go_frame
  refine held_take 19 (some 34) (v := undef) rfl rfl (by kernel_rfl) (by kernel_rfl) (by kernel_rfl) (fun _ _ _ h => h) (Or.inr ⟨by rfl, rfl⟩) hS ?_
  go_frame
  refine held_take 20 (some 35) (v := undef) rfl rfl (by kernel_rfl) (by kernel_rfl) (by kernel_rfl) (fun _ _ _ h => h) (Or.inr ⟨by rfl, rfl⟩) hS ?_
  go_frame
  refine held_skip 21 (some 36) rfl rfl (by kernel_rfl) (by rfl) hS ?_
  go_frame
  refine held_take 22 (some 37) (v := .bool true) rfl rfl (by kernel_rfl) (by kernel_rfl) (by kernel_rfl) (fun _ _ _ h => h) (Or.inl ⟨by rfl, fun _ _ => by go_simp⟩) hS ?_
  go_frame
  refine held_take 23 (some 38) (v := .bool true) rfl rfl (by kernel_rfl) (by kernel_rfl) (by kernel_rfl) (fun _ _ _ h => h) (Or.inl ⟨by rfl, fun _ _ => by go_simp⟩) hS ?_
  go_frame
  refine held_take 24 (some 39) (v := undef) rfl rfl (by kernel_rfl) (by kernel_rfl) (by kernel_rfl) (fun _ _ _ h => h) (Or.inr ⟨by rfl, rfl⟩) hS ?_
  go_frame
  refine held_take 25 (some 40) (v := undef) rfl rfl (by kernel_rfl) (by kernel_rfl) (by kernel_rfl) (fun _ _ _ h => h) (Or.inr ⟨by rfl, rfl⟩) hS ?_
  go_frame
  refine held_take 26 (some 41) (v := undef) rfl rfl (by kernel_rfl) (by kernel_rfl) (by kernel_rfl) (fun _ _ _ h => h) (Or.inr ⟨by rfl, rfl⟩) hS ?_
  go_frame
  refine held_take 27 (some 42) (v := .bool true) rfl rfl (by kernel_rfl) (by kernel_rfl) (by kernel_rfl) (fun _ _ _ h => h) (Or.inl ⟨by rfl, fun _ _ => by go_simp⟩) hS ?_
  go_frame
  refine held_take 28 (some 43) (v := .bool true) rfl rfl (by kernel_rfl) (by kernel_rfl) (by kernel_rfl) (fun _ _ _ h => h) (Or.inl ⟨by rfl, fun _ _ => by go_simp⟩) hS ?_
  go_frame
  refine held_take 29 (some 44) (v := .bool true) rfl rfl (by kernel_rfl) (by kernel_rfl) (by kernel_rfl) (fun _ _ _ h => h) (Or.inl ⟨by rfl, fun _ _ => by go_simp⟩) hS ?_
  go_frame
  refine held_take 30 (some 45) (v := .bool true) rfl rfl (by kernel_rfl) (by kernel_rfl) (by kernel_rfl) (fun _ _ _ h => h) (Or.inl ⟨by rfl, fun _ _ => by go_simp⟩) hS ?_
  go_frame
  refine held_take 31 (some 46) (v := .bool false) rfl rfl (by kernel_rfl) (by kernel_rfl) (by kernel_rfl) (fun _ _ _ h => h) (Or.inl ⟨by rfl, fun _ _ => by go_simp⟩) hS ?_
  go_frame
  refine held_take 32 (some 47) (v := .bool false) rfl rfl (by kernel_rfl) (by kernel_rfl) (by kernel_rfl) (fun _ _ _ h => h) (Or.inl ⟨by rfl, fun _ _ => by go_simp⟩) hS ?_
  go_frame
  refine held_take 33 (some 48) (v := .bool true) rfl rfl (by kernel_rfl) (by kernel_rfl) (by kernel_rfl) (fun _ _ _ h => h) (Or.inl ⟨by rfl, fun _ _ => by go_simp⟩) hS ?_
  go_frame
  refine held_take 34 (some 49) (v := .bool false) rfl rfl (by kernel_rfl) (by kernel_rfl) (by kernel_rfl) (fun _ _ _ h => h) (Or.inl ⟨by rfl, fun _ _ => by go_simp⟩) hS ?_
  go_frame
  refine held_take 35 (some 50) (v := .bool false) rfl rfl (by kernel_rfl) (by kernel_rfl) (by kernel_rfl) (fun _ _ _ h => h) (Or.inl ⟨by rfl, fun _ _ => by go_simp⟩) hS ?_
  go_frame
  refine held_take 36 (some 51) (v := .bool false) rfl rfl (by kernel_rfl) (by kernel_rfl) (by kernel_rfl) (fun _ _ _ h => h) (Or.inl ⟨by rfl, fun _ _ => by go_simp⟩) hS ?_
  go_frame
  refine held_take 37 (some 52) rfl rfl (by kernel_rfl) (by kernel_rfl) (by kernel_rfl) (fun _ _ _ h => h) (yieldsIf_load_mid (by rfl) 25 (.tmp 3) rfl w.heap.size 0 rfl (U8 a) (.array 32 5) (fun _ h => h.1) und25 rfl (by rw [U8_length, HLa.out]; kernel_rfl)) hS ?_
  go_frame
  refine held_take 38 (some 53) rfl rfl (by kernel_rfl) (by kernel_rfl) (by kernel_rfl) (fun _ _ _ h => h) (yieldsIf_load_mid (by rfl) 25 (.tmp 5) rfl (w.heap.size + 2) 0 rfl (U8 c) (.array 32 5) (fun _ h => h.2.2) und25 rfl (by rw [U8_length, HLc.out]; kernel_rfl)) hS ?_
  go_frame
  clear hS
  refine held_one 39 (some 54) rfl rfl (by kernel_rfl) (by rfl) (fun K hK => ?_)
  go_simp
  refine (less_is Hhs.out HA.out HC.out HLa.out HLc.out _).mono ?_
  rintro e w7 ⟨rfl, hb1⟩
  have HX7 := Lib.hid (HX6.out.below hb1 HX6.out.lt)
  have HY7 := Lib.hid (HY6.out.below hb1 HY6.out.lt)
  have HZ7 := Lib.hid (HZ6.out.below hb1 HZ6.out.lt)
  have HW7 := Lib.hid (HW6.out.trans (hb1.mono HW6.out.size))
  clear hb1 HX6 HY6 HZ6 HW6
  have hS : w7.rangeAt w.heap.size 0 (U8 a) ∧ w7.rangeAt (w.heap.size + 1) 0 (U8 b) ∧ w7.rangeAt (w.heap.size + 2) 0 (U8 c) := ⟨has_range HX7.out, has_range HY7.out, has_range HZ7.out⟩
  refine hK _ _ hS ?_
  clear hK K
  go_frame
  refine held_take 40 (some 55) (v := .bool true) rfl rfl (by kernel_rfl) (by kernel_rfl) (by kernel_rfl) (fun _ _ _ h => h) (Or.inl ⟨by rfl, fun _ _ => by go_simp⟩) hS ?_
  go_frame
  refine held_take 41 (some 56) (v := .bool true) rfl rfl (by kernel_rfl) (by kernel_rfl) (by kernel_rfl) (fun _ _ _ h => h) (Or.inl ⟨by rfl, fun _ _ => by go_simp⟩) hS ?_
  go_frame
  refine held_take 42 (some 6) (v := .bool true) rfl rfl (by kernel_rfl) (by kernel_rfl) (by kernel_rfl) (fun _ _ _ h => h) (Or.inl ⟨by rfl, fun _ _ => by go_simp⟩) hS ?_
  go_frame
  refine wpAnyH_done (by kernel_rfl) ?_ _
  go_wp2
  go_ret
  exact ⟨rfl, HW7.out⟩

set_option maxRecDepth 100000 in
set_option maxHeartbeats 4000000 in
theorem order_B (a : List Nat) (ha : Sha.Bytes a) (la : a.length = 32) (b : List Nat) (hb : Sha.Bytes b) (lb : b.length = 32) (c : List Nat) (hc : Sha.Bytes c) (lc : c.length = 32) (w : World) (hk : Kept w) (hp : ltN a b = true) (hq : ltN b c = false) :
    Calls Tryd.prog 7 #[.agg (U8 a).toArray, .agg (U8 b).toArray, .agg (U8 c).toArray] w fun e w' => e = .returned (.bool true) ∧ Below w.heap.size w w' := by
  have HK := Lib.hid hk
  have HA := Lib.hid ha
  have HB := Lib.hid hb
  have HC := Lib.hid hc
  have HLa := Lib.hid la
  have HLb := Lib.hid lb
  have HLc := Lib.hid lc
  have HX0 := Lib.hid (((Has.new w 25 (U8 a)).alloc (.cells (U8 b).toArray 25)).alloc (.cells (U8 c).toArray 25))
  have HY0 := Lib.hid ((Has.new' (w.alloc (.cells (U8 a).toArray 25)) 25 (U8 b) _ (w.heap.size + 1) rfl (by simp)).alloc (.cells (U8 c).toArray 25))
  have HZ0 := Lib.hid (Has.new' ((w.alloc (.cells (U8 a).toArray 25)).alloc (.cells (U8 b).toArray 25)) 25 (U8 c) _ (w.heap.size + 2) rfl (by simp))
  have HW0 := Lib.hid (show Below w.heap.size w (((w.alloc (.cells (U8 a).toArray 25)).alloc (.cells (U8 b).toArray 25)).alloc (.cells (U8 c).toArray 25)) from (((Below.refl _ _).alloc (Nat.le_refl _) _).alloc (by simp) _).alloc (by simp; omega) _)
  have Hhp := Lib.hid hp
  clear hp
  have Hhq := Lib.hid hq
  clear hq
  clear hk ha hb hc la lb lc
  go_enter Tryd.func7, Tryd.ntmps7
  go_wp2
  generalize ((w.alloc (.cells (U8 a).toArray 25)).alloc (.cells (U8 b).toArray 25)).alloc (.cells (U8 c).toArray 25) = W0 at *
  have hS : W0.drew.rangeAt w.heap.size 0 (U8 a) ∧ W0.drew.rangeAt (w.heap.size + 1) 0 (U8 b) ∧ W0.drew.rangeAt (w.heap.size + 2) 0 (U8 c) := ⟨has_range HX0.out, has_range HY0.out, has_range HZ0.out⟩
  refine wp_region_held (S := fun w' => w'.rangeAt w.heap.size 0 (U8 a) ∧ w'.rangeAt (w.heap.size + 1) 0 (U8 b) ∧ w'.rangeAt (w.heap.size + 2) 0 (U8 c)) (by kernel_rfl) ?_
  change wpAnyH _ _ _ _ _ _ _ _ W0.drew
  refine held_take 0 (some 9) rfl rfl (by kernel_rfl) (by kernel_rfl) (by kernel_rfl) (fun _ _ _ h => h) (yieldsIf_load_mid (by rfl) 25 (.tmp 3) rfl w.heap.size 0 rfl (U8 a) (.array 32 5) (fun _ h => h.1) und25 rfl (by rw [U8_length, HLa.out]; kernel_rfl)) hS ?_
  go_frame
  refine held_take 1 (some 10) rfl rfl (by kernel_rfl) (by kernel_rfl) (by kernel_rfl) (fun _ _ _ h => h) (yieldsIf_load_mid (by rfl) 25 (.tmp 4) rfl (w.heap.size + 1) 0 rfl (U8 b) (.array 32 5) (fun _ h => h.2.1) und25 rfl (by rw [U8_length, HLb.out]; kernel_rfl)) hS ?_
  go_frame
  refine held_take 3 (some 12) rfl rfl (by kernel_rfl) (by kernel_rfl) (by kernel_rfl) (fun _ _ _ h => h) (yieldsIf_load_mid (by rfl) 25 (.tmp 4) rfl (w.heap.size + 1) 0 rfl (U8 b) (.array 32 5) (fun _ h => h.2.1) und25 rfl (by rw [U8_length, HLb.out]; kernel_rfl)) hS ?_
  go_frame
  refine held_take 4 (some 13) rfl rfl (by kernel_rfl) (by kernel_rfl) (by kernel_rfl) (fun _ _ _ h => h) (yieldsIf_load_mid (by rfl) 25 (.tmp 5) rfl (w.heap.size + 2) 0 rfl (U8 c) (.array 32 5) (fun _ h => h.2.2) und25 rfl (by rw [U8_length, HLc.out]; kernel_rfl)) hS ?_
  go_frame
  clear hS
  refine held_one 2 (some 11) rfl rfl (by kernel_rfl) (by rfl) (fun K hK => ?_)
  go_simp
  refine (less_is Hhp.out HA.out HB.out HLa.out HLb.out _).mono ?_
  rintro e w1 ⟨rfl, hb1⟩
  have HX1 := Lib.hid (HX0.out.drew.below hb1 HX0.out.lt)
  have HY1 := Lib.hid (HY0.out.drew.below hb1 HY0.out.lt)
  have HZ1 := Lib.hid (HZ0.out.drew.below hb1 HZ0.out.lt)
  have HW1 := Lib.hid (HW0.out.drew.trans (hb1.mono HW0.out.size))
  clear hb1 HX0 HY0 HZ0 HW0
  have hS : w1.rangeAt w.heap.size 0 (U8 a) ∧ w1.rangeAt (w.heap.size + 1) 0 (U8 b) ∧ w1.rangeAt (w.heap.size + 2) 0 (U8 c) := ⟨has_range HX1.out, has_range HY1.out, has_range HZ1.out⟩
  refine hK _ _ hS ?_
  clear hK K
  go_frame
  clear hS
  refine held_one 5 (some 14) rfl rfl (by kernel_rfl) (by rfl) (fun K hK => ?_)
  go_simp
  refine (less_is Hhq.out HB.out HC.out HLb.out HLc.out _).mono ?_
  rintro e w2 ⟨rfl, hb1⟩
  have HX2 := Lib.hid (HX1.out.below hb1 HX1.out.lt)
  have HY2 := Lib.hid (HY1.out.below hb1 HY1.out.lt)
  have HZ2 := Lib.hid (HZ1.out.below hb1 HZ1.out.lt)
  have HW2 := Lib.hid (HW1.out.trans (hb1.mono HW1.out.size))
  clear hb1 HX1 HY1 HZ1 HW1
  have hS : w2.rangeAt w.heap.size 0 (U8 a) ∧ w2.rangeAt (w.heap.size + 1) 0 (U8 b) ∧ w2.rangeAt (w.heap.size + 2) 0 (U8 c) := ⟨has_range HX2.out, has_range HY2.out, has_range HZ2.out⟩
  refine hK _ _ hS ?_
  clear hK K
  go_frame
  refine held_take 6 (some 7) (v := .bool true) rfl rfl (by kernel_rfl) (by kernel_rfl) (by kernel_rfl) (fun _ _ _ h => h) (Or.inl ⟨by rfl, fun _ _ => by go_simp⟩) hS ?_
  go_frame
  refine held_take 7 (some 8) (v := .bool false) rfl rfl (by kernel_rfl) (by kernel_rfl) (by kernel_rfl) (fun _ _ _ h => h) (Or.inl ⟨by rfl, fun _ _ => by go_simp⟩) hS ?_
  go_frame
  refine wpAnyH_done (by kernel_rfl) ?_ _
  clear hS
  go_wp2
  have hS : w2.drew.rangeAt w.heap.size 0 (U8 a) ∧ w2.drew.rangeAt (w.heap.size + 1) 0 (U8 b) ∧ w2.drew.rangeAt (w.heap.size + 2) 0 (U8 c) := ⟨has_range HX2.out, has_range HY2.out, has_range HZ2.out⟩
  refine wp_region_held (S := fun w' => w'.rangeAt w.heap.size 0 (U8 a) ∧ w'.rangeAt (w.heap.size + 1) 0 (U8 b) ∧ w'.rangeAt (w.heap.size + 2) 0 (U8 c)) (by kernel_rfl) ?_
  change wpAnyH _ _ _ _ _ _ _ _ w2.drew
  clear hS
  refine held_one 0 (some 15) rfl rfl (by kernel_rfl) (by rfl) (fun K hK => ?_)
  go_simp
  refine (awake_any _ (HK.out.below HW2.out.drew HK.out.pos)).mono ?_
  rintro e w3 ⟨rfl, hb1⟩
  have HX3 := Lib.hid (HX2.out.drew.below hb1 HX2.out.lt)
  have HY3 := Lib.hid (HY2.out.drew.below hb1 HY2.out.lt)
  have HZ3 := Lib.hid (HZ2.out.drew.below hb1 HZ2.out.lt)
  have HW3 := Lib.hid (HW2.out.drew.trans (hb1.mono HW2.out.size))
  clear hb1 HX2 HY2 HZ2 HW2
  have hS : w3.rangeAt w.heap.size 0 (U8 a) ∧ w3.rangeAt (w.heap.size + 1) 0 (U8 b) ∧ w3.rangeAt (w.heap.size + 2) 0 (U8 c) := ⟨has_range HX3.out, has_range HY3.out, has_range HZ3.out⟩
  refine hK _ _ hS ?_
  clear hK K
  go_frame
  refine held_take 1 (some 16) (v := .bool true) rfl rfl (by kernel_rfl) (by kernel_rfl) (by kernel_rfl) (fun _ _ _ h => h) (Or.inl ⟨by rfl, fun _ _ => by go_simp⟩) hS ?_
  go_frame
  refine held_take 2 (some 17) (v := .bool true) rfl rfl (by kernel_rfl) (by kernel_rfl) (by kernel_rfl) (fun _ _ _ h => h) (Or.inl ⟨by rfl, fun _ _ => by go_simp⟩) hS ?_
  go_frame
  refine held_take 3 (some 18) rfl rfl (by kernel_rfl) (by kernel_rfl) (by kernel_rfl) (fun _ _ _ h => h) (yieldsIf_load_mid (by rfl) 25 (.tmp 3) rfl w.heap.size 0 rfl (U8 a) (.array 32 5) (fun _ h => h.1) und25 rfl (by rw [U8_length, HLa.out]; kernel_rfl)) hS ?_
  go_frame
  refine held_take 5 (some 20) rfl rfl (by kernel_rfl) (by kernel_rfl) (by kernel_rfl) (fun _ _ _ h => h) (yieldsIf_load_mid (by rfl) 25 (.tmp 4) rfl (w.heap.size + 1) 0 rfl (U8 b) (.array 32 5) (fun _ h => h.2.1) und25 rfl (by rw [U8_length, HLb.out]; kernel_rfl)) hS ?_
  go_frame
  clear hS
  refine held_one 4 (some 19) rfl rfl (by kernel_rfl) (by rfl) (fun K hK => ?_)
  go_simp
  refine (str_any a HLa.out _).mono ?_
  rintro e w4 ⟨rfl, hb1⟩
  have HX4 := Lib.hid (HX3.out.below hb1 HX3.out.lt)
  have HY4 := Lib.hid (HY3.out.below hb1 HY3.out.lt)
  have HZ4 := Lib.hid (HZ3.out.below hb1 HZ3.out.lt)
  have HW4 := Lib.hid (HW3.out.trans (hb1.mono HW3.out.size))
  clear hb1 HX3 HY3 HZ3 HW3
  have hS : w4.rangeAt w.heap.size 0 (U8 a) ∧ w4.rangeAt (w.heap.size + 1) 0 (U8 b) ∧ w4.rangeAt (w.heap.size + 2) 0 (U8 c) := ⟨has_range HX4.out, has_range HY4.out, has_range HZ4.out⟩
  refine hK _ _ hS ?_
  clear hK K
  go_frame
  clear hS
  refine held_one 6 (some 21) rfl rfl (by kernel_rfl) (by rfl) (fun K hK => ?_)
  go_simp
  refine (str_any b HLb.out _).mono ?_
  rintro e w5 ⟨rfl, hb1⟩
  have HX5 := Lib.hid (HX4.out.below hb1 HX4.out.lt)
  have HY5 := Lib.hid (HY4.out.below hb1 HY4.out.lt)
  have HZ5 := Lib.hid (HZ4.out.below hb1 HZ4.out.lt)
  have HW5 := Lib.hid (HW4.out.trans (hb1.mono HW4.out.size))
  clear hb1 HX4 HY4 HZ4 HW4
  have hS : w5.rangeAt w.heap.size 0 (U8 a) ∧ w5.rangeAt (w.heap.size + 1) 0 (U8 b) ∧ w5.rangeAt (w.heap.size + 2) 0 (U8 c) := ⟨has_range HX5.out, has_range HY5.out, has_range HZ5.out⟩
  refine hK _ _ hS ?_
  clear hK K
  go_frame
  have hlt : Op.bytesLess (S a).toList (S b).toList = true := by rw [S_toList, S_toList, less_bytes _ _ HA.out HB.out, Hhp.out]
  refine held_take 7 (some 22) (v := .bool true) rfl rfl (by kernel_rfl) (by kernel_rfl) (by kernel_rfl) (fun _ _ _ h => h) (Or.inl ⟨by rfl, fun _ _ => by go_simp⟩) hS ?_
  go_frame
  clear hlt
  refine held_take 8 (some 23) (v := .bool true) rfl rfl (by kernel_rfl) (by kernel_rfl) (by kernel_rfl) (fun _ _ _ h => h) (Or.inl ⟨by rfl, fun _ _ => by go_simp⟩) hS ?_
  go_frame
  refine held_take 9 (some 24) (v := .bool true) rfl rfl (by kernel_rfl) (by kernel_rfl) (by kernel_rfl) (fun _ _ _ h => h) (Or.inl ⟨by rfl, fun _ _ => by go_simp⟩) hS ?_
  go_frame
  refine held_take 10 (some 25) (v := .bool true) rfl rfl (by kernel_rfl) (by kernel_rfl) (by kernel_rfl) (fun _ _ _ h => h) (Or.inl ⟨by rfl, fun _ _ => by go_simp⟩) hS ?_
  go_frame
  refine held_take 11 (some 26) rfl rfl (by kernel_rfl) (by kernel_rfl) (by kernel_rfl) (fun _ _ _ h => h) (yieldsIf_load_mid (by rfl) 25 (.tmp 3) rfl w.heap.size 0 rfl (U8 a) (.array 32 5) (fun _ h => h.1) und25 rfl (by rw [U8_length, HLa.out]; kernel_rfl)) hS ?_
  go_frame
  refine held_take 12 (some 27) rfl rfl (by kernel_rfl) (by kernel_rfl) (by kernel_rfl) (fun _ _ _ h => h) (yieldsIf_load_mid (by rfl) 25 (.tmp 3) rfl w.heap.size 0 rfl (U8 a) (.array 32 5) (fun _ h => h.1) und25 rfl (by rw [U8_length, HLa.out]; kernel_rfl)) hS ?_
  go_frame
  clear hS
  refine held_one 13 (some 28) rfl rfl (by kernel_rfl) (by rfl) (fun K hK => ?_)
  go_simp
  refine (less_is (ltN_irrefl a) HA.out HA.out HLa.out HLa.out _).mono ?_
  rintro e w6 ⟨rfl, hb1⟩
  have HX6 := Lib.hid (HX5.out.below hb1 HX5.out.lt)
  have HY6 := Lib.hid (HY5.out.below hb1 HY5.out.lt)
  have HZ6 := Lib.hid (HZ5.out.below hb1 HZ5.out.lt)
  have HW6 := Lib.hid (HW5.out.trans (hb1.mono HW5.out.size))
  clear hb1 HX5 HY5 HZ5 HW5
  have hS : w6.rangeAt w.heap.size 0 (U8 a) ∧ w6.rangeAt (w.heap.size + 1) 0 (U8 b) ∧ w6.rangeAt (w.heap.size + 2) 0 (U8 c) := ⟨has_range HX6.out, has_range HY6.out, has_range HZ6.out⟩
  refine hK _ _ hS ?_
  clear hK K
  go_frame
  refine held_take 14 (some 29) (v := .bool true) rfl rfl (by kernel_rfl) (by kernel_rfl) (by kernel_rfl) (fun _ _ _ h => h) (Or.inl ⟨by rfl, fun _ _ => by go_simp⟩) hS ?_
  go_frame
  refine held_take 15 (some 30) (v := .bool true) rfl rfl (by kernel_rfl) (by kernel_rfl) (by kernel_rfl) (fun _ _ _ h => h) (Or.inl ⟨by rfl, fun _ _ => by go_simp⟩) hS ?_
  go_frame
  refine held_take 16 (some 31) (v := .bool true) rfl rfl (by kernel_rfl) (by kernel_rfl) (by kernel_rfl) (fun _ _ _ h => h) (Or.inl ⟨by rfl, fun _ _ => by go_simp⟩) hS ?_
  go_frame
  refine held_take 17 (some 32) (v := .bool true) rfl rfl (by kernel_rfl) (by kernel_rfl) (by kernel_rfl) (fun _ _ _ h => h) (Or.inl ⟨by rfl, fun _ _ => by go_simp⟩) hS ?_
  go_frame
  refine held_take 18 (some 33) (v := .bool true) rfl rfl (by kernel_rfl) (by kernel_rfl) (by kernel_rfl) (fun _ _ _ h => h) (Or.inl ⟨by rfl, fun _ _ => by go_simp⟩) hS ?_
  go_frame
  refine held_take 19 (some 34) (v := undef) rfl rfl (by kernel_rfl) (by kernel_rfl) (by kernel_rfl) (fun _ _ _ h => h) (Or.inr ⟨by rfl, rfl⟩) hS ?_
  go_frame
  refine held_take 20 (some 35) (v := undef) rfl rfl (by kernel_rfl) (by kernel_rfl) (by kernel_rfl) (fun _ _ _ h => h) (Or.inr ⟨by rfl, rfl⟩) hS ?_
  go_frame
  refine held_skip 21 (some 36) rfl rfl (by kernel_rfl) (by rfl) hS ?_
  go_frame
  refine held_take 22 (some 37) (v := .bool true) rfl rfl (by kernel_rfl) (by kernel_rfl) (by kernel_rfl) (fun _ _ _ h => h) (Or.inl ⟨by rfl, fun _ _ => by go_simp⟩) hS ?_
  go_frame
  refine held_take 23 (some 38) (v := .bool true) rfl rfl (by kernel_rfl) (by kernel_rfl) (by kernel_rfl) (fun _ _ _ h => h) (Or.inl ⟨by rfl, fun _ _ => by go_simp⟩) hS ?_
  go_frame
  refine held_take 24 (some 39) (v := undef) rfl rfl (by kernel_rfl) (by kernel_rfl) (by kernel_rfl) (fun _ _ _ h => h) (Or.inr ⟨by rfl, rfl⟩) hS ?_
  go_frame
  refine held_take 25 (some 40) (v := undef) rfl rfl (by kernel_rfl) (by kernel_rfl) (by kernel_rfl) (fun _ _ _ h => h) (Or.inr ⟨by rfl, rfl⟩) hS ?_
  go_frame
  refine held_take 26 (some 41) (v := undef) rfl rfl (by kernel_rfl) (by kernel_rfl) (by kernel_rfl) (fun _ _ _ h => h) (Or.inr ⟨by rfl, rfl⟩) hS ?_
  go_frame
  refine held_take 27 (some 42) (v := .bool true) rfl rfl (by kernel_rfl) (by kernel_rfl) (by kernel_rfl) (fun _ _ _ h => h) (Or.inl ⟨by rfl, fun _ _ => by go_simp⟩) hS ?_
  go_frame
  refine held_take 28 (some 43) (v := .bool true) rfl rfl (by kernel_rfl) (by kernel_rfl) (by kernel_rfl) (fun _ _ _ h => h) (Or.inl ⟨by rfl, fun _ _ => by go_simp⟩) hS ?_
  go_frame
  refine held_take 29 (some 44) (v := .bool true) rfl rfl (by kernel_rfl) (by kernel_rfl) (by kernel_rfl) (fun _ _ _ h => h) (Or.inl ⟨by rfl, fun _ _ => by go_simp⟩) hS ?_
  go_frame
  refine held_take 30 (some 45) (v := .bool true) rfl rfl (by kernel_rfl) (by kernel_rfl) (by kernel_rfl) (fun _ _ _ h => h) (Or.inl ⟨by rfl, fun _ _ => by go_simp⟩) hS ?_
  go_frame
  refine held_take 31 (some 46) (v := .bool false) rfl rfl (by kernel_rfl) (by kernel_rfl) (by kernel_rfl) (fun _ _ _ h => h) (Or.inl ⟨by rfl, fun _ _ => by go_simp⟩) hS ?_
  go_frame
  refine held_take 32 (some 47) (v := .bool false) rfl rfl (by kernel_rfl) (by kernel_rfl) (by kernel_rfl) (fun _ _ _ h => h) (Or.inl ⟨by rfl, fun _ _ => by go_simp⟩) hS ?_
  go_frame
  refine held_take 33 (some 48) (v := .bool false) rfl rfl (by kernel_rfl) (by kernel_rfl) (by kernel_rfl) (fun _ _ _ h => h) (Or.inl ⟨by rfl, fun _ _ => by go_simp⟩) hS ?_
  go_frame
  refine held_take 34 (some 49) (v := .bool true) rfl rfl (by kernel_rfl) (by kernel_rfl) (by kernel_rfl) (fun _ _ _ h => h) (Or.inl ⟨by rfl, fun _ _ => by go_simp⟩) hS ?_
  go_frame
  refine held_take 35 (some 50) (v := .bool true) rfl rfl (by kernel_rfl) (by kernel_rfl) (by kernel_rfl) (fun _ _ _ h => h) (Or.inl ⟨by rfl, fun _ _ => by go_simp⟩) hS ?_
  go_frame
  refine held_take 36 (some 51) (v := .bool true) rfl rfl (by kernel_rfl) (by kernel_rfl) (by kernel_rfl) (fun _ _ _ h => h) (Or.inl ⟨by rfl, fun _ _ => by go_simp⟩) hS ?_
  go_frame
  refine held_take 37 (some 52) (v := undef) rfl rfl (by kernel_rfl) (by kernel_rfl) (by kernel_rfl) (fun _ _ _ h => h) (Or.inr ⟨by rfl, rfl⟩) hS ?_
  go_frame
  refine held_take 38 (some 53) (v := undef) rfl rfl (by kernel_rfl) (by kernel_rfl) (by kernel_rfl) (fun _ _ _ h => h) (Or.inr ⟨by rfl, rfl⟩) hS ?_
  go_frame
  refine held_skip 39 (some 54) rfl rfl (by kernel_rfl) (by rfl) hS ?_
  go_frame
  refine held_take 40 (some 55) (v := .bool true) rfl rfl (by kernel_rfl) (by kernel_rfl) (by kernel_rfl) (fun _ _ _ h => h) (Or.inl ⟨by rfl, fun _ _ => by go_simp⟩) hS ?_
  go_frame
  refine held_take 41 (some 56) (v := .bool true) rfl rfl (by kernel_rfl) (by kernel_rfl) (by kernel_rfl) (fun _ _ _ h => h) (Or.inl ⟨by rfl, fun _ _ => by go_simp⟩) hS ?_
  go_frame
  refine held_take 42 (some 6) (v := .bool true) rfl rfl (by kernel_rfl) (by kernel_rfl) (by kernel_rfl) (fun _ _ _ h => h) (Or.inl ⟨by rfl, fun _ _ => by go_simp⟩) hS ?_
  go_frame
  refine wpAnyH_done (by kernel_rfl) ?_ _
  go_wp2
  go_ret
  exact ⟨rfl, HW6.out⟩

set_option maxRecDepth 100000 in
set_option maxHeartbeats 4000000 in
theorem order_C (a : List Nat) (ha : Sha.Bytes a) (la : a.length = 32) (b : List Nat) (hb : Sha.Bytes b) (lb : b.length = 32) (c : List Nat) (hc : Sha.Bytes c) (lc : c.length = 32) (w : World) (hk : Kept w) (hp : ltN a b = false) (hr : ltN b a = true) :
    Calls Tryd.prog 7 #[.agg (U8 a).toArray, .agg (U8 b).toArray, .agg (U8 c).toArray] w fun e w' => e = .returned (.bool true) ∧ Below w.heap.size w w' := by
  have HK := Lib.hid hk
  have HA := Lib.hid ha
  have HB := Lib.hid hb
  have HC := Lib.hid hc
  have HLa := Lib.hid la
  have HLb := Lib.hid lb
  have HLc := Lib.hid lc
  have HX0 := Lib.hid (((Has.new w 25 (U8 a)).alloc (.cells (U8 b).toArray 25)).alloc (.cells (U8 c).toArray 25))
  have HY0 := Lib.hid ((Has.new' (w.alloc (.cells (U8 a).toArray 25)) 25 (U8 b) _ (w.heap.size + 1) rfl (by simp)).alloc (.cells (U8 c).toArray 25))
  have HZ0 := Lib.hid (Has.new' ((w.alloc (.cells (U8 a).toArray 25)).alloc (.cells (U8 b).toArray 25)) 25 (U8 c) _ (w.heap.size + 2) rfl (by simp))
  have HW0 := Lib.hid (show Below w.heap.size w (((w.alloc (.cells (U8 a).toArray 25)).alloc (.cells (U8 b).toArray 25)).alloc (.cells (U8 c).toArray 25)) from (((Below.refl _ _).alloc (Nat.le_refl _) _).alloc (by simp) _).alloc (by simp; omega) _)
  have Hhp := Lib.hid hp
  clear hp
  have Hhr := Lib.hid hr
  clear hr
  clear hk ha hb hc la lb lc
  go_enter Tryd.func7, Tryd.ntmps7
  go_wp2
  generalize ((w.alloc (.cells (U8 a).toArray 25)).alloc (.cells (U8 b).toArray 25)).alloc (.cells (U8 c).toArray 25) = W0 at *
  have hS : W0.drew.rangeAt w.heap.size 0 (U8 a) ∧ W0.drew.rangeAt (w.heap.size + 1) 0 (U8 b) ∧ W0.drew.rangeAt (w.heap.size + 2) 0 (U8 c) := ⟨has_range HX0.out, has_range HY0.out, has_range HZ0.out⟩
  refine wp_region_held (S := fun w' => w'.rangeAt w.heap.size 0 (U8 a) ∧ w'.rangeAt (w.heap.size + 1) 0 (U8 b) ∧ w'.rangeAt (w.heap.size + 2) 0 (U8 c)) (by kernel_rfl) ?_
  change wpAnyH _ _ _ _ _ _ _ _ W0.drew
  refine held_take 0 (some 9) rfl rfl (by kernel_rfl) (by kernel_rfl) (by kernel_rfl) (fun _ _ _ h => h) (yieldsIf_load_mid (by rfl) 25 (.tmp 3) rfl w.heap.size 0 rfl (U8 a) (.array 32 5) (fun _ h => h.1) und25 rfl (by rw [U8_length, HLa.out]; kernel_rfl)) hS ?_
  go_frame
  refine held_take 1 (some 10) rfl rfl (by kernel_rfl) (by kernel_rfl) (by kernel_rfl) (fun _ _ _ h => h) (yieldsIf_load_mid (by rfl) 25 (.tmp 4) rfl (w.heap.size + 1) 0 rfl (U8 b) (.array 32 5) (fun _ h => h.2.1) und25 rfl (by rw [U8_length, HLb.out]; kernel_rfl)) hS ?_
  go_frame
  refine held_take 3 (some 12) rfl rfl (by kernel_rfl) (by kernel_rfl) (by kernel_rfl) (fun _ _ _ h => h) (yieldsIf_load_mid (by rfl) 25 (.tmp 4) rfl (w.heap.size + 1) 0 rfl (U8 b) (.array 32 5) (fun _ h => h.2.1) und25 rfl (by rw [U8_length, HLb.out]; kernel_rfl)) hS ?_
  go_frame
  refine held_take 4 (some 13) rfl rfl (by kernel_rfl) (by kernel_rfl) (by kernel_rfl) (fun _ _ _ h => h) (yieldsIf_load_mid (by rfl) 25 (.tmp 5) rfl (w.heap.size + 2) 0 rfl (U8 c) (.array 32 5) (fun _ h => h.2.2) und25 rfl (by rw [U8_length, HLc.out]; kernel_rfl)) hS ?_
  go_frame
  clear hS
  refine held_one 2 (some 11) rfl rfl (by kernel_rfl) (by rfl) (fun K hK => ?_)
  go_simp
  refine (less_is Hhp.out HA.out HB.out HLa.out HLb.out _).mono ?_
  rintro e w1 ⟨rfl, hb1⟩
  have HX1 := Lib.hid (HX0.out.drew.below hb1 HX0.out.lt)
  have HY1 := Lib.hid (HY0.out.drew.below hb1 HY0.out.lt)
  have HZ1 := Lib.hid (HZ0.out.drew.below hb1 HZ0.out.lt)
  have HW1 := Lib.hid (HW0.out.drew.trans (hb1.mono HW0.out.size))
  clear hb1 HX0 HY0 HZ0 HW0
  have hS : w1.rangeAt w.heap.size 0 (U8 a) ∧ w1.rangeAt (w.heap.size + 1) 0 (U8 b) ∧ w1.rangeAt (w.heap.size + 2) 0 (U8 c) := ⟨has_range HX1.out, has_range HY1.out, has_range HZ1.out⟩
  refine hK _ _ hS ?_
  clear hK K
  go_frame
  clear hS
  refine held_one 5 (some 14) rfl rfl (by kernel_rfl) (by rfl) (fun K hK => ?_)
  go_simp
  refine (less_is rfl HB.out HC.out HLb.out HLc.out _).mono ?_
  rintro e w2 ⟨rfl, hb1⟩
  have HX2 := Lib.hid (HX1.out.below hb1 HX1.out.lt)
  have HY2 := Lib.hid (HY1.out.below hb1 HY1.out.lt)
  have HZ2 := Lib.hid (HZ1.out.below hb1 HZ1.out.lt)
  have HW2 := Lib.hid (HW1.out.trans (hb1.mono HW1.out.size))
  clear hb1 HX1 HY1 HZ1 HW1
  have hS : w2.rangeAt w.heap.size 0 (U8 a) ∧ w2.rangeAt (w.heap.size + 1) 0 (U8 b) ∧ w2.rangeAt (w.heap.size + 2) 0 (U8 c) := ⟨has_range HX2.out, has_range HY2.out, has_range HZ2.out⟩
  refine hK _ _ hS ?_
  clear hK K
  go_frame
  refine held_take 6 (some 7) (v := .bool false) rfl rfl (by kernel_rfl) (by kernel_rfl) (by kernel_rfl) (fun _ _ _ h => h) (Or.inl ⟨by rfl, fun _ _ => by go_simp⟩) hS ?_
  go_frame
  refine held_take 7 (some 8) (v := .bool (ltN b c)) rfl rfl (by kernel_rfl) (by kernel_rfl) (by kernel_rfl) (fun _ _ _ h => h) (Or.inl ⟨by rfl, fun _ _ => by go_simp⟩) hS ?_
  go_frame
  refine wpAnyH_done (by kernel_rfl) ?_ _
  clear hS
  go_wp2
  have hS : w2.drew.rangeAt w.heap.size 0 (U8 a) ∧ w2.drew.rangeAt (w.heap.size + 1) 0 (U8 b) ∧ w2.drew.rangeAt (w.heap.size + 2) 0 (U8 c) := ⟨has_range HX2.out, has_range HY2.out, has_range HZ2.out⟩
  refine wp_region_held (S := fun w' => w'.rangeAt w.heap.size 0 (U8 a) ∧ w'.rangeAt (w.heap.size + 1) 0 (U8 b) ∧ w'.rangeAt (w.heap.size + 2) 0 (U8 c)) (by kernel_rfl) ?_
  change wpAnyH _ _ _ _ _ _ _ _ w2.drew
  clear hS
  refine held_one 0 (some 15) rfl rfl (by kernel_rfl) (by rfl) (fun K hK => ?_)
  go_simp
  refine (awake_any _ (HK.out.below HW2.out.drew HK.out.pos)).mono ?_
  rintro e w3 ⟨rfl, hb1⟩
  have HX3 := Lib.hid (HX2.out.drew.below hb1 HX2.out.lt)
  have HY3 := Lib.hid (HY2.out.drew.below hb1 HY2.out.lt)
  have HZ3 := Lib.hid (HZ2.out.drew.below hb1 HZ2.out.lt)
  have HW3 := Lib.hid (HW2.out.drew.trans (hb1.mono HW2.out.size))
  clear hb1 HX2 HY2 HZ2 HW2
  have hS : w3.rangeAt w.heap.size 0 (U8 a) ∧ w3.rangeAt (w.heap.size + 1) 0 (U8 b) ∧ w3.rangeAt (w.heap.size + 2) 0 (U8 c) := ⟨has_range HX3.out, has_range HY3.out, has_range HZ3.out⟩
  refine hK _ _ hS ?_
  clear hK K
  go_frame
  refine held_take 1 (some 16) (v := .bool true) rfl rfl (by kernel_rfl) (by kernel_rfl) (by kernel_rfl) (fun _ _ _ h => h) (Or.inl ⟨by rfl, fun _ _ => by go_simp⟩) hS ?_
  go_frame
  refine held_take 2 (some 17) (v := .bool false) rfl rfl (by kernel_rfl) (by kernel_rfl) (by kernel_rfl) (fun _ _ _ h => h) (Or.inl ⟨by rfl, fun _ _ => by go_simp⟩) hS ?_
  go_frame
  refine held_take 3 (some 18) rfl rfl (by kernel_rfl) (by kernel_rfl) (by kernel_rfl) (fun _ _ _ h => h) (yieldsIf_load_mid (by rfl) 25 (.tmp 3) rfl w.heap.size 0 rfl (U8 a) (.array 32 5) (fun _ h => h.1) und25 rfl (by rw [U8_length, HLa.out]; kernel_rfl)) hS ?_
  go_frame
  refine held_take 5 (some 20) rfl rfl (by kernel_rfl) (by kernel_rfl) (by kernel_rfl) (fun _ _ _ h => h) (yieldsIf_load_mid (by rfl) 25 (.tmp 4) rfl (w.heap.size + 1) 0 rfl (U8 b) (.array 32 5) (fun _ h => h.2.1) und25 rfl (by rw [U8_length, HLb.out]; kernel_rfl)) hS ?_
  go_frame
  clear hS
  refine held_one 4 (some 19) rfl rfl (by kernel_rfl) (by rfl) (fun K hK => ?_)
  go_simp
  refine (str_any a HLa.out _).mono ?_
  rintro e w4 ⟨rfl, hb1⟩
  have HX4 := Lib.hid (HX3.out.below hb1 HX3.out.lt)
  have HY4 := Lib.hid (HY3.out.below hb1 HY3.out.lt)
  have HZ4 := Lib.hid (HZ3.out.below hb1 HZ3.out.lt)
  have HW4 := Lib.hid (HW3.out.trans (hb1.mono HW3.out.size))
  clear hb1 HX3 HY3 HZ3 HW3
  have hS : w4.rangeAt w.heap.size 0 (U8 a) ∧ w4.rangeAt (w.heap.size + 1) 0 (U8 b) ∧ w4.rangeAt (w.heap.size + 2) 0 (U8 c) := ⟨has_range HX4.out, has_range HY4.out, has_range HZ4.out⟩
  refine hK _ _ hS ?_
  clear hK K
  go_frame
  clear hS
  refine held_one 6 (some 21) rfl rfl (by kernel_rfl) (by rfl) (fun K hK => ?_)
  go_simp
  refine (str_any b HLb.out _).mono ?_
  rintro e w5 ⟨rfl, hb1⟩
  have HX5 := Lib.hid (HX4.out.below hb1 HX4.out.lt)
  have HY5 := Lib.hid (HY4.out.below hb1 HY4.out.lt)
  have HZ5 := Lib.hid (HZ4.out.below hb1 HZ4.out.lt)
  have HW5 := Lib.hid (HW4.out.trans (hb1.mono HW4.out.size))
  clear hb1 HX4 HY4 HZ4 HW4
  have hS : w5.rangeAt w.heap.size 0 (U8 a) ∧ w5.rangeAt (w.heap.size + 1) 0 (U8 b) ∧ w5.rangeAt (w.heap.size + 2) 0 (U8 c) := ⟨has_range HX5.out, has_range HY5.out, has_range HZ5.out⟩
  refine hK _ _ hS ?_
  clear hK K
  go_frame
  have hlt : Op.bytesLess (S a).toList (S b).toList = false := by rw [S_toList, S_toList, less_bytes _ _ HA.out HB.out, Hhp.out]
  refine held_take 7 (some 22) (v := .bool false) rfl rfl (by kernel_rfl) (by kernel_rfl) (by kernel_rfl) (fun _ _ _ h => h) (Or.inl ⟨by rfl, fun _ _ => by go_simp⟩) hS ?_
  go_frame
  clear hlt
  refine held_take 8 (some 23) (v := .bool true) rfl rfl (by kernel_rfl) (by kernel_rfl) (by kernel_rfl) (fun _ _ _ h => h) (Or.inl ⟨by rfl, fun _ _ => by go_simp⟩) hS ?_
  go_frame
  refine held_take 9 (some 24) (v := .bool true) rfl rfl (by kernel_rfl) (by kernel_rfl) (by kernel_rfl) (fun _ _ _ h => h) (Or.inl ⟨by rfl, fun _ _ => by go_simp⟩) hS ?_
  go_frame
  refine held_take 10 (some 25) (v := .bool true) rfl rfl (by kernel_rfl) (by kernel_rfl) (by kernel_rfl) (fun _ _ _ h => h) (Or.inl ⟨by rfl, fun _ _ => by go_simp⟩) hS ?_
  go_frame
  refine held_take 11 (some 26) rfl rfl (by kernel_rfl) (by kernel_rfl) (by kernel_rfl) (fun _ _ _ h => h) (yieldsIf_load_mid (by rfl) 25 (.tmp 3) rfl w.heap.size 0 rfl (U8 a) (.array 32 5) (fun _ h => h.1) und25 rfl (by rw [U8_length, HLa.out]; kernel_rfl)) hS ?_
  go_frame
  refine held_take 12 (some 27) rfl rfl (by kernel_rfl) (by kernel_rfl) (by kernel_rfl) (fun _ _ _ h => h) (yieldsIf_load_mid (by rfl) 25 (.tmp 3) rfl w.heap.size 0 rfl (U8 a) (.array 32 5) (fun _ h => h.1) und25 rfl (by rw [U8_length, HLa.out]; kernel_rfl)) hS ?_
  go_frame
  clear hS
  refine held_one 13 (some 28) rfl rfl (by kernel_rfl) (by rfl) (fun K hK => ?_)
  go_simp
  refine (less_is (ltN_irrefl a) HA.out HA.out HLa.out HLa.out _).mono ?_
  rintro e w6 ⟨rfl, hb1⟩
  have HX6 := Lib.hid (HX5.out.below hb1 HX5.out.lt)
  have HY6 := Lib.hid (HY5.out.below hb1 HY5.out.lt)
  have HZ6 := Lib.hid (HZ5.out.below hb1 HZ5.out.lt)
  have HW6 := Lib.hid (HW5.out.trans (hb1.mono HW5.out.size))
  clear hb1 HX5 HY5 HZ5 HW5
  have hS : w6.rangeAt w.heap.size 0 (U8 a) ∧ w6.rangeAt (w.heap.size + 1) 0 (U8 b) ∧ w6.rangeAt (w.heap.size + 2) 0 (U8 c) := ⟨has_range HX6.out, has_range HY6.out, has_range HZ6.out⟩
  refine hK _ _ hS ?_
  clear hK K
  go_frame
  refine held_take 14 (some 29) (v := .bool true) rfl rfl (by kernel_rfl) (by kernel_rfl) (by kernel_rfl) (fun _ _ _ h => h) (Or.inl ⟨by rfl, fun _ _ => by go_simp⟩) hS ?_
  go_frame
  refine held_take 15 (some 30) (v := .bool true) rfl rfl (by kernel_rfl) (by kernel_rfl) (by kernel_rfl) (fun _ _ _ h => h) (Or.inl ⟨by rfl, fun _ _ => by go_simp⟩) hS ?_
  go_frame
  refine held_take 16 (some 31) (v := .bool true) rfl rfl (by kernel_rfl) (by kernel_rfl) (by kernel_rfl) (fun _ _ _ h => h) (Or.inl ⟨by rfl, fun _ _ => by go_simp⟩) hS ?_
  go_frame
  refine held_take 17 (some 32) (v := .bool false) rfl rfl (by kernel_rfl) (by kernel_rfl) (by kernel_rfl) (fun _ _ _ h => h) (Or.inl ⟨by rfl, fun _ _ => by go_simp⟩) hS ?_
  go_frame
  refine held_take 18 (some 33) (v := .bool false) rfl rfl (by kernel_rfl) (by kernel_rfl) (by kernel_rfl) (fun _ _ _ h => h) (Or.inl ⟨by rfl, fun _ _ => by go_simp⟩) hS ?_
  go_frame
  refine held_take 19 (some 34) rfl rfl (by kernel_rfl) (by kernel_rfl) (by kernel_rfl) (fun _ _ _ h => h) (yieldsIf_load_mid (by rfl) 25 (.tmp 4) rfl (w.heap.size + 1) 0 rfl (U8 b) (.array 32 5) (fun _ h => h.2.1) und25 rfl (by rw [U8_length, HLb.out]; kernel_rfl)) hS ?_
  go_frame
  refine held_take 20 (some 35) rfl rfl (by kernel_rfl) (by kernel_rfl) (by kernel_rfl) (fun _ _ _ h => h) (yieldsIf_load_mid (by rfl) 25 (.tmp 3) rfl w.heap.size 0 rfl (U8 a) (.array 32 5) (fun _ h => h.1) und25 rfl (by rw [U8_length, HLa.out]; kernel_rfl)) hS ?_
  go_frame
  clear hS
  refine held_one 21 (some 36) rfl rfl (by kernel_rfl) (by rfl) (fun K hK => ?_)
  go_simp
  refine (less_is Hhr.out HB.out HA.out HLb.out HLa.out _).mono ?_
  rintro e w7 ⟨rfl, hb1⟩
  have HX7 := Lib.hid (HX6.out.below hb1 HX6.out.lt)
  have HY7 := Lib.hid (HY6.out.below hb1 HY6.out.lt)
  have HZ7 := Lib.hid (HZ6.out.below hb1 HZ6.out.lt)
  have HW7 := Lib.hid (HW6.out.trans (hb1.mono HW6.out.size))
  clear hb1 HX6 HY6 HZ6 HW6
  have hS : w7.rangeAt w.heap.size 0 (U8 a) ∧ w7.rangeAt (w.heap.size + 1) 0 (U8 b) ∧ w7.rangeAt (w.heap.size + 2) 0 (U8 c) := ⟨has_range HX7.out, has_range HY7.out, has_range HZ7.out⟩
  refine hK _ _ hS ?_
  clear hK K
  go_frame
  refine held_take 22 (some 37) (v := .bool true) rfl rfl (by kernel_rfl) (by kernel_rfl) (by kernel_rfl) (fun _ _ _ h => h) (Or.inl ⟨by rfl, fun _ _ => by go_simp⟩) hS ?_
  go_frame
  refine held_take 23 (some 38) (v := .bool true) rfl rfl (by kernel_rfl) (by kernel_rfl) (by kernel_rfl) (fun _ _ _ h => h) (Or.inl ⟨by rfl, fun _ _ => by go_simp⟩) hS ?_
  go_frame
  refine held_take 24 (some 39) (v := undef) rfl rfl (by kernel_rfl) (by kernel_rfl) (by kernel_rfl) (fun _ _ _ h => h) (Or.inr ⟨by rfl, rfl⟩) hS ?_
  go_frame
  refine held_take 25 (some 40) (v := undef) rfl rfl (by kernel_rfl) (by kernel_rfl) (by kernel_rfl) (fun _ _ _ h => h) (Or.inr ⟨by rfl, rfl⟩) hS ?_
  go_frame
  refine held_take 26 (some 41) (v := undef) rfl rfl (by kernel_rfl) (by kernel_rfl) (by kernel_rfl) (fun _ _ _ h => h) (Or.inr ⟨by rfl, rfl⟩) hS ?_
  go_frame
  refine held_take 27 (some 42) (v := .bool true) rfl rfl (by kernel_rfl) (by kernel_rfl) (by kernel_rfl) (fun _ _ _ h => h) (Or.inl ⟨by rfl, fun _ _ => by go_simp⟩) hS ?_
  go_frame
  refine held_take 28 (some 43) (v := .bool true) rfl rfl (by kernel_rfl) (by kernel_rfl) (by kernel_rfl) (fun _ _ _ h => h) (Or.inl ⟨by rfl, fun _ _ => by go_simp⟩) hS ?_
  go_frame
  refine held_take 29 (some 44) (v := .bool true) rfl rfl (by kernel_rfl) (by kernel_rfl) (by kernel_rfl) (fun _ _ _ h => h) (Or.inl ⟨by rfl, fun _ _ => by go_simp⟩) hS ?_
  go_frame
  refine held_take 30 (some 45) (v := .bool false) rfl rfl (by kernel_rfl) (by kernel_rfl) (by kernel_rfl) (fun _ _ _ h => h) (Or.inl ⟨by rfl, fun _ _ => by go_simp⟩) hS ?_
  go_frame
  refine held_take 31 (some 46) (v := .bool true) rfl rfl (by kernel_rfl) (by kernel_rfl) (by kernel_rfl) (fun _ _ _ h => h) (Or.inl ⟨by rfl, fun _ _ => by go_simp⟩) hS ?_
  go_frame
  refine held_take 32 (some 47) (v := .bool true) rfl rfl (by kernel_rfl) (by kernel_rfl) (by kernel_rfl) (fun _ _ _ h => h) (Or.inl ⟨by rfl, fun _ _ => by go_simp⟩) hS ?_
  go_frame
  refine held_take 33 (some 48) (v := undef) rfl rfl (by kernel_rfl) (by kernel_rfl) (by kernel_rfl) (fun _ _ _ h => h) (Or.inr ⟨by rfl, rfl⟩) hS ?_
  go_frame
  refine held_take 34 (some 49) (v := undef) rfl rfl (by kernel_rfl) (by kernel_rfl) (by kernel_rfl) (fun _ _ _ h => h) (Or.inr ⟨by rfl, rfl⟩) hS ?_
  go_frame
  refine held_take 35 (some 50) (v := .bool true) rfl rfl (by kernel_rfl) (by kernel_rfl) (by kernel_rfl) (fun _ _ _ h => h) (Or.inl ⟨by rfl, fun _ _ => by go_simp⟩) hS ?_
  go_frame
  refine held_take 36 (some 51) (v := .bool true) rfl rfl (by kernel_rfl) (by kernel_rfl) (by kernel_rfl) (fun _ _ _ h => h) (Or.inl ⟨by rfl, fun _ _ => by go_simp⟩) hS ?_
  go_frame
  refine held_take 37 (some 52) (v := undef) rfl rfl (by kernel_rfl) (by kernel_rfl) (by kernel_rfl) (fun _ _ _ h => h) (Or.inr ⟨by rfl, rfl⟩) hS ?_
  go_frame
  refine held_take 38 (some 53) (v := undef) rfl rfl (by kernel_rfl) (by kernel_rfl) (by kernel_rfl) (fun _ _ _ h => h) (Or.inr ⟨by rfl, rfl⟩) hS ?_
  go_frame
  refine held_skip 39 (some 54) rfl rfl (by kernel_rfl) (by rfl) hS ?_
  go_frame
  refine held_take 40 (some 55) (v := .bool true) rfl rfl (by kernel_rfl) (by kernel_rfl) (by kernel_rfl) (fun _ _ _ h => h) (Or.inl ⟨by rfl, fun _ _ => by go_simp⟩) hS ?_
  go_frame
  refine held_take 41 (some 56) (v := .bool true) rfl rfl (by kernel_rfl) (by kernel_rfl) (by kernel_rfl) (fun _ _ _ h => h) (Or.inl ⟨by rfl, fun _ _ => by go_simp⟩) hS ?_
  go_frame
  refine held_take 42 (some 6) (v := .bool true) rfl rfl (by kernel_rfl) (by kernel_rfl) (by kernel_rfl) (fun _ _ _ h => h) (Or.inl ⟨by rfl, fun _ _ => by go_simp⟩) hS ?_
  go_frame
  refine wpAnyH_done (by kernel_rfl) ?_ _
  go_wp2
  go_ret
  exact ⟨rfl, HW7.out⟩

set_option maxRecDepth 100000 in
set_option maxHeartbeats 4000000 in
theorem order_D (a : List Nat) (ha : Sha.Bytes a) (la : a.length = 32) (b : List Nat) (hb : Sha.Bytes b) (lb : b.length = 32) (c : List Nat) (hc : Sha.Bytes c) (lc : c.length = 32) (w : World) (hk : Kept w) (hp : ltN a b = false) (hr : ltN b a = false) (he : (a == b) = true) :
    Calls Tryd.prog 7 #[.agg (U8 a).toArray, .agg (U8 b).toArray, .agg (U8 c).toArray] w fun e w' => e = .returned (.bool true) ∧ Below w.heap.size w w' := by
  have HK := Lib.hid hk
  have HA := Lib.hid ha
  have HB := Lib.hid hb
  have HC := Lib.hid hc
  have HLa := Lib.hid la
  have HLb := Lib.hid lb
  have HLc := Lib.hid lc
  have HX0 := Lib.hid (((Has.new w 25 (U8 a)).alloc (.cells (U8 b).toArray 25)).alloc (.cells (U8 c).toArray 25))
  have HY0 := Lib.hid ((Has.new' (w.alloc (.cells (U8 a).toArray 25)) 25 (U8 b) _ (w.heap.size + 1) rfl (by simp)).alloc (.cells (U8 c).toArray 25))
  have HZ0 := Lib.hid (Has.new' ((w.alloc (.cells (U8 a).toArray 25)).alloc (.cells (U8 b).toArray 25)) 25 (U8 c) _ (w.heap.size + 2) rfl (by simp))
  have HW0 := Lib.hid (show Below w.heap.size w (((w.alloc (.cells (U8 a).toArray 25)).alloc (.cells (U8 b).toArray 25)).alloc (.cells (U8 c).toArray 25)) from (((Below.refl _ _).alloc (Nat.le_refl _) _).alloc (by simp) _).alloc (by simp; omega) _)
  have Hhp := Lib.hid hp
  clear hp
  have Hhr := Lib.hid hr
  clear hr
  have Hhe := Lib.hid he
  clear he
  clear hk ha hb hc la lb lc
  go_enter Tryd.func7, Tryd.ntmps7
  go_wp2
  generalize ((w.alloc (.cells (U8 a).toArray 25)).alloc (.cells (U8 b).toArray 25)).alloc (.cells (U8 c).toArray 25) = W0 at *
  have hS : W0.drew.rangeAt w.heap.size 0 (U8 a) ∧ W0.drew.rangeAt (w.heap.size + 1) 0 (U8 b) ∧ W0.drew.rangeAt (w.heap.size + 2) 0 (U8 c) := ⟨has_range HX0.out, has_range HY0.out, has_range HZ0.out⟩
  refine wp_region_held (S := fun w' => w'.rangeAt w.heap.size 0 (U8 a) ∧ w'.rangeAt (w.heap.size + 1) 0 (U8 b) ∧ w'.rangeAt (w.heap.size + 2) 0 (U8 c)) (by kernel_rfl) ?_
  change wpAnyH _ _ _ _ _ _ _ _ W0.drew
  refine held_take 0 (some 9) rfl rfl (by kernel_rfl) (by kernel_rfl) (by kernel_rfl) (fun _ _ _ h => h) (yieldsIf_load_mid (by rfl) 25 (.tmp 3) rfl w.heap.size 0 rfl (U8 a) (.array 32 5) (fun _ h => h.1) und25 rfl (by rw [U8_length, HLa.out]; kernel_rfl)) hS ?_
  go_frame
  refine held_take 1 (some 10) rfl rfl (by kernel_rfl) (by kernel_rfl) (by kernel_rfl) (fun _ _ _ h => h) (yieldsIf_load_mid (by rfl) 25 (.tmp 4) rfl (w.heap.size + 1) 0 rfl (U8 b) (.array 32 5) (fun _ h => h.2.1) und25 rfl (by rw [U8_length, HLb.out]; kernel_rfl)) hS ?_
  go_frame
  refine held_take 3 (some 12) rfl rfl (by kernel_rfl) (by kernel_rfl) (by kernel_rfl) (fun _ _ _ h => h) (yieldsIf_load_mid (by rfl) 25 (.tmp 4) rfl (w.heap.size + 1) 0 rfl (U8 b) (.array 32 5) (fun _ h => h.2.1) und25 rfl (by rw [U8_length, HLb.out]; kernel_rfl)) hS ?_
  go_frame
  refine held_take 4 (some 13) rfl rfl (by kernel_rfl) (by kernel_rfl) (by kernel_rfl) (fun _ _ _ h => h) (yieldsIf_load_mid (by rfl) 25 (.tmp 5) rfl (w.heap.size + 2) 0 rfl (U8 c) (.array 32 5) (fun _ h => h.2.2) und25 rfl (by rw [U8_length, HLc.out]; kernel_rfl)) hS ?_
  go_frame
  clear hS
  refine held_one 2 (some 11) rfl rfl (by kernel_rfl) (by rfl) (fun K hK => ?_)
  go_simp
  refine (less_is Hhp.out HA.out HB.out HLa.out HLb.out _).mono ?_
  rintro e w1 ⟨rfl, hb1⟩
  have HX1 := Lib.hid (HX0.out.drew.below hb1 HX0.out.lt)
  have HY1 := Lib.hid (HY0.out.drew.below hb1 HY0.out.lt)
  have HZ1 := Lib.hid (HZ0.out.drew.below hb1 HZ0.out.lt)
  have HW1 := Lib.hid (HW0.out.drew.trans (hb1.mono HW0.out.size))
  clear hb1 HX0 HY0 HZ0 HW0
  have hS : w1.rangeAt w.heap.size 0 (U8 a) ∧ w1.rangeAt (w.heap.size + 1) 0 (U8 b) ∧ w1.rangeAt (w.heap.size + 2) 0 (U8 c) := ⟨has_range HX1.out, has_range HY1.out, has_range HZ1.out⟩
  refine hK _ _ hS ?_
  clear hK K
  go_frame
  clear hS
  refine held_one 5 (some 14) rfl rfl (by kernel_rfl) (by rfl) (fun K hK => ?_)
  go_simp
  refine (less_is rfl HB.out HC.out HLb.out HLc.out _).mono ?_
  rintro e w2 ⟨rfl, hb1⟩
  have HX2 := Lib.hid (HX1.out.below hb1 HX1.out.lt)
  have HY2 := Lib.hid (HY1.out.below hb1 HY1.out.lt)
  have HZ2 := Lib.hid (HZ1.out.below hb1 HZ1.out.lt)
  have HW2 := Lib.hid (HW1.out.trans (hb1.mono HW1.out.size))
  clear hb1 HX1 HY1 HZ1 HW1
  have hS : w2.rangeAt w.heap.size 0 (U8 a) ∧ w2.rangeAt (w.heap.size + 1) 0 (U8 b) ∧ w2.rangeAt (w.heap.size + 2) 0 (U8 c) := ⟨has_range HX2.out, has_range HY2.out, has_range HZ2.out⟩
  refine hK _ _ hS ?_
  clear hK K
  go_frame
  refine held_take 6 (some 7) (v := .bool false) rfl rfl (by kernel_rfl) (by kernel_rfl) (by kernel_rfl) (fun _ _ _ h => h) (Or.inl ⟨by rfl, fun _ _ => by go_simp⟩) hS ?_
  go_frame
  refine held_take 7 (some 8) (v := .bool (ltN b c)) rfl rfl (by kernel_rfl) (by kernel_rfl) (by kernel_rfl) (fun _ _ _ h => h) (Or.inl ⟨by rfl, fun _ _ => by go_simp⟩) hS ?_
  go_frame
  refine wpAnyH_done (by kernel_rfl) ?_ _
  clear hS
  go_wp2
  have hS : w2.drew.rangeAt w.heap.size 0 (U8 a) ∧ w2.drew.rangeAt (w.heap.size + 1) 0 (U8 b) ∧ w2.drew.rangeAt (w.heap.size + 2) 0 (U8 c) := ⟨has_range HX2.out, has_range HY2.out, has_range HZ2.out⟩
  refine wp_region_held (S := fun w' => w'.rangeAt w.heap.size 0 (U8 a) ∧ w'.rangeAt (w.heap.size + 1) 0 (U8 b) ∧ w'.rangeAt (w.heap.size + 2) 0 (U8 c)) (by kernel_rfl) ?_
  change wpAnyH _ _ _ _ _ _ _ _ w2.drew
  clear hS
  refine held_one 0 (some 15) rfl rfl (by kernel_rfl) (by rfl) (fun K hK => ?_)
  go_simp
  refine (awake_any _ (HK.out.below HW2.out.drew HK.out.pos)).mono ?_
  rintro e w3 ⟨rfl, hb1⟩
  have HX3 := Lib.hid (HX2.out.drew.below hb1 HX2.out.lt)
  have HY3 := Lib.hid (HY2.out.drew.below hb1 HY2.out.lt)
  have HZ3 := Lib.hid (HZ2.out.drew.below hb1 HZ2.out.lt)
  have HW3 := Lib.hid (HW2.out.drew.trans (hb1.mono HW2.out.size))
  clear hb1 HX2 HY2 HZ2 HW2
  have hS : w3.rangeAt w.heap.size 0 (U8 a) ∧ w3.rangeAt (w.heap.size + 1) 0 (U8 b) ∧ w3.rangeAt (w.heap.size + 2) 0 (U8 c) := ⟨has_range HX3.out, has_range HY3.out, has_range HZ3.out⟩
  refine hK _ _ hS ?_
  clear hK K
  go_frame
  refine held_take 1 (some 16) (v := .bool true) rfl rfl (by kernel_rfl) (by kernel_rfl) (by kernel_rfl) (fun _ _ _ h => h) (Or.inl ⟨by rfl, fun _ _ => by go_simp⟩) hS ?_
  go_frame
  refine held_take 2 (some 17) (v := .bool false) rfl rfl (by kernel_rfl) (by kernel_rfl) (by kernel_rfl) (fun _ _ _ h => h) (Or.inl ⟨by rfl, fun _ _ => by go_simp⟩) hS ?_
  go_frame
  refine held_take 3 (some 18) rfl rfl (by kernel_rfl) (by kernel_rfl) (by kernel_rfl) (fun _ _ _ h => h) (yieldsIf_load_mid (by rfl) 25 (.tmp 3) rfl w.heap.size 0 rfl (U8 a) (.array 32 5) (fun _ h => h.1) und25 rfl (by rw [U8_length, HLa.out]; kernel_rfl)) hS ?_
  go_frame
  refine held_take 5 (some 20) rfl rfl (by kernel_rfl) (by kernel_rfl) (by kernel_rfl) (fun _ _ _ h => h) (yieldsIf_load_mid (by rfl) 25 (.tmp 4) rfl (w.heap.size + 1) 0 rfl (U8 b) (.array 32 5) (fun _ h => h.2.1) und25 rfl (by rw [U8_length, HLb.out]; kernel_rfl)) hS ?_
  go_frame
  clear hS
  refine held_one 4 (some 19) rfl rfl (by kernel_rfl) (by rfl) (fun K hK => ?_)
  go_simp
  refine (str_any a HLa.out _).mono ?_
  rintro e w4 ⟨rfl, hb1⟩
  have HX4 := Lib.hid (HX3.out.below hb1 HX3.out.lt)
  have HY4 := Lib.hid (HY3.out.below hb1 HY3.out.lt)
  have HZ4 := Lib.hid (HZ3.out.below hb1 HZ3.out.lt)
  have HW4 := Lib.hid (HW3.out.trans (hb1.mono HW3.out.size))
  clear hb1 HX3 HY3 HZ3 HW3
  have hS : w4.rangeAt w.heap.size 0 (U8 a) ∧ w4.rangeAt (w.heap.size + 1) 0 (U8 b) ∧ w4.rangeAt (w.heap.size + 2) 0 (U8 c) := ⟨has_range HX4.out, has_range HY4.out, has_range HZ4.out⟩
  refine hK _ _ hS ?_
  clear hK K
  go_frame
  clear hS
  refine held_one 6 (some 21) rfl rfl (by kernel_rfl) (by rfl) (fun K hK => ?_)
  go_simp
  refine (str_any b HLb.out _).mono ?_
  rintro e w5 ⟨rfl, hb1⟩
  have HX5 := Lib.hid (HX4.out.below hb1 HX4.out.lt)
  have HY5 := Lib.hid (HY4.out.below hb1 HY4.out.lt)
  have HZ5 := Lib.hid (HZ4.out.below hb1 HZ4.out.lt)
  have HW5 := Lib.hid (HW4.out.trans (hb1.mono HW4.out.size))
  clear hb1 HX4 HY4 HZ4 HW4
  have hS : w5.rangeAt w.heap.size 0 (U8 a) ∧ w5.rangeAt (w.heap.size + 1) 0 (U8 b) ∧ w5.rangeAt (w.heap.size + 2) 0 (U8 c) := ⟨has_range HX5.out, has_range HY5.out, has_range HZ5.out⟩
  refine hK _ _ hS ?_
  clear hK K
  go_frame
  have hlt : Op.bytesLess (S a).toList (S b).toList = false := by rw [S_toList, S_toList, less_bytes _ _ HA.out HB.out, Hhp.out]
  refine held_take 7 (some 22) (v := .bool false) rfl rfl (by kernel_rfl) (by kernel_rfl) (by kernel_rfl) (fun _ _ _ h => h) (Or.inl ⟨by rfl, fun _ _ => by go_simp⟩) hS ?_
  go_frame
  clear hlt
  refine held_take 8 (some 23) (v := .bool true) rfl rfl (by kernel_rfl) (by kernel_rfl) (by kernel_rfl) (fun _ _ _ h => h) (Or.inl ⟨by rfl, fun _ _ => by go_simp⟩) hS ?_
  go_frame
  refine held_take 9 (some 24) (v := .bool true) rfl rfl (by kernel_rfl) (by kernel_rfl) (by kernel_rfl) (fun _ _ _ h => h) (Or.inl ⟨by rfl, fun _ _ => by go_simp⟩) hS ?_
  go_frame
  refine held_take 10 (some 25) (v := .bool true) rfl rfl (by kernel_rfl) (by kernel_rfl) (by kernel_rfl) (fun _ _ _ h => h) (Or.inl ⟨by rfl, fun _ _ => by go_simp⟩) hS ?_
  go_frame
  refine held_take 11 (some 26) rfl rfl (by kernel_rfl) (by kernel_rfl) (by kernel_rfl) (fun _ _ _ h => h) (yieldsIf_load_mid (by rfl) 25 (.tmp 3) rfl w.heap.size 0 rfl (U8 a) (.array 32 5) (fun _ h => h.1) und25 rfl (by rw [U8_length, HLa.out]; kernel_rfl)) hS ?_
  go_frame
  refine held_take 12 (some 27) rfl rfl (by kernel_rfl) (by kernel_rfl) (by kernel_rfl) (fun _ _ _ h => h) (yieldsIf_load_mid (by rfl) 25 (.tmp 3) rfl w.heap.size 0 rfl (U8 a) (.array 32 5) (fun _ h => h.1) und25 rfl (by rw [U8_length, HLa.out]; kernel_rfl)) hS ?_
  go_frame
  clear hS
  refine held_one 13 (some 28) rfl rfl (by kernel_rfl) (by rfl) (fun K hK => ?_)
  go_simp
  refine (less_is (ltN_irrefl a) HA.out HA.out HLa.out HLa.out _).mono ?_
  rintro e w6 ⟨rfl, hb1⟩
  have HX6 := Lib.hid (HX5.out.below hb1 HX5.out.lt)
  have HY6 := Lib.hid (HY5.out.below hb1 HY5.out.lt)
  have HZ6 := Lib.hid (HZ5.out.below hb1 HZ5.out.lt)
  have HW6 := Lib.hid (HW5.out.trans (hb1.mono HW5.out.size))
  clear hb1 HX5 HY5 HZ5 HW5
  have hS : w6.rangeAt w.heap.size 0 (U8 a) ∧ w6.rangeAt (w.heap.size + 1) 0 (U8 b) ∧ w6.rangeAt (w.heap.size + 2) 0 (U8 c) := ⟨has_range HX6.out, has_range HY6.out, has_range HZ6.out⟩
  refine hK _ _ hS ?_
  clear hK K
  go_frame
  refine held_take 14 (some 29) (v := .bool true) rfl rfl (by kernel_rfl) (by kernel_rfl) (by kernel_rfl) (fun _ _ _ h => h) (Or.inl ⟨by rfl, fun _ _ => by go_simp⟩) hS ?_
  go_frame
  refine held_take 15 (some 30) (v := .bool true) rfl rfl (by kernel_rfl) (by kernel_rfl) (by kernel_rfl) (fun _ _ _ h => h) (Or.inl ⟨by rfl, fun _ _ => by go_simp⟩) hS ?_
  go_frame
  refine held_take 16 (some 31) (v := .bool true) rfl rfl (by kernel_rfl) (by kernel_rfl) (by kernel_rfl) (fun _ _ _ h => h) (Or.inl ⟨by rfl, fun _ _ => by go_simp⟩) hS ?_
  go_frame
  refine held_take 17 (some 32) (v := .bool false) rfl rfl (by kernel_rfl) (by kernel_rfl) (by kernel_rfl) (fun _ _ _ h => h) (Or.inl ⟨by rfl, fun _ _ => by go_simp⟩) hS ?_
  go_frame
  refine held_take 18 (some 33) (v := .bool false) rfl rfl (by kernel_rfl) (by kernel_rfl) (by kernel_rfl) (fun _ _ _ h => h) (Or.inl ⟨by rfl, fun _ _ => by go_simp⟩) hS ?_
  go_frame
  refine held_take 19 (some 34) rfl rfl (by kernel_rfl) (by kernel_rfl) (by kernel_rfl) (fun _ _ _ h => h) (yieldsIf_load_mid (by rfl) 25 (.tmp 4) rfl (w.heap.size + 1) 0 rfl (U8 b) (.array 32 5) (fun _ h => h.2.1) und25 rfl (by rw [U8_length, HLb.out]; kernel_rfl)) hS ?_
  go_frame
  refine held_take 20 (some 35) rfl rfl (by kernel_rfl) (by kernel_rfl) (by kernel_rfl) (fun _ _ _ h => h) (yieldsIf_load_mid (by rfl) 25 (.tmp 3) rfl w.heap.size 0 rfl (U8 a) (.array 32 5) (fun _ h => h.1) und25 rfl (by rw [U8_length, HLa.out]; kernel_rfl)) hS ?_
  go_frame
  clear hS
  refine held_one 21 (some 36) rfl rfl (by kernel_rfl) (by rfl) (fun K hK => ?_)
  go_simp
  refine (less_is Hhr.out HB.out HA.out HLb.out HLa.out _).mono ?_
  rintro e w7 ⟨rfl, hb1⟩
  have HX7 := Lib.hid (HX6.out.below hb1 HX6.out.lt)
  have HY7 := Lib.hid (HY6.out.below hb1 HY6.out.lt)
  have HZ7 := Lib.hid (HZ6.out.below hb1 HZ6.out.lt)
  have HW7 := Lib.hid (HW6.out.trans (hb1.mono HW6.out.size))
  clear hb1 HX6 HY6 HZ6 HW6
  have hS : w7.rangeAt w.heap.size 0 (U8 a) ∧ w7.rangeAt (w.heap.size + 1) 0 (U8 b) ∧ w7.rangeAt (w.heap.size + 2) 0 (U8 c) := ⟨has_range HX7.out, has_range HY7.out, has_range HZ7.out⟩
  refine hK _ _ hS ?_
  clear hK K
  go_frame
  refine held_take 22 (some 37) (v := .bool false) rfl rfl (by kernel_rfl) (by kernel_rfl) (by kernel_rfl) (fun _ _ _ h => h) (Or.inl ⟨by rfl, fun _ _ => by go_simp⟩) hS ?_
  go_frame
  refine held_take 23 (some 38) (v := .bool false) rfl rfl (by kernel_rfl) (by kernel_rfl) (by kernel_rfl) (fun _ _ _ h => h) (Or.inl ⟨by rfl, fun _ _ => by go_simp⟩) hS ?_
  go_frame
  refine held_take 24 (some 39) rfl rfl (by kernel_rfl) (by kernel_rfl) (by kernel_rfl) (fun _ _ _ h => h) (yieldsIf_load_mid (by rfl) 25 (.tmp 3) rfl w.heap.size 0 rfl (U8 a) (.array 32 5) (fun _ h => h.1) und25 rfl (by rw [U8_length, HLa.out]; kernel_rfl)) hS ?_
  go_frame
  refine held_take 25 (some 40) rfl rfl (by kernel_rfl) (by kernel_rfl) (by kernel_rfl) (fun _ _ _ h => h) (yieldsIf_load_mid (by rfl) 25 (.tmp 4) rfl (w.heap.size + 1) 0 rfl (U8 b) (.array 32 5) (fun _ h => h.2.1) und25 rfl (by rw [U8_length, HLb.out]; kernel_rfl)) hS ?_
  go_frame
  have heh : ∀ W : World, (binOp .eql 25 (.agg (U8 a).toArray) (.agg (U8 b).toArray)).run Tryd.prog W = .ok (.bool true) W := fun W => by rw [run_eqHash a b HLa.out HLb.out W, Hhe.out]
  refine held_take 26 (some 41) (v := .bool true) rfl rfl (by kernel_rfl) (by kernel_rfl) (by kernel_rfl) (fun _ _ _ h => h) (Or.inl ⟨by rfl, fun _ _ => by go_simp⟩) hS ?_
  go_frame
  clear heh
  refine held_take 27 (some 42) (v := .bool true) rfl rfl (by kernel_rfl) (by kernel_rfl) (by kernel_rfl) (fun _ _ _ h => h) (Or.inl ⟨by rfl, fun _ _ => by go_simp⟩) hS ?_
  go_frame
  refine held_take 28 (some 43) (v := .bool true) rfl rfl (by kernel_rfl) (by kernel_rfl) (by kernel_rfl) (fun _ _ _ h => h) (Or.inl ⟨by rfl, fun _ _ => by go_simp⟩) hS ?_
  go_frame
  refine held_take 29 (some 44) (v := .bool true) rfl rfl (by kernel_rfl) (by kernel_rfl) (by kernel_rfl) (fun _ _ _ h => h) (Or.inl ⟨by rfl, fun _ _ => by go_simp⟩) hS ?_
  go_frame
  refine held_take 30 (some 45) (v := .bool false) rfl rfl (by kernel_rfl) (by kernel_rfl) (by kernel_rfl) (fun _ _ _ h => h) (Or.inl ⟨by rfl, fun _ _ => by go_simp⟩) hS ?_
  go_frame
  refine held_take 31 (some 46) (v := .bool true) rfl rfl (by kernel_rfl) (by kernel_rfl) (by kernel_rfl) (fun _ _ _ h => h) (Or.inl ⟨by rfl, fun _ _ => by go_simp⟩) hS ?_
  go_frame
  refine held_take 32 (some 47) (v := .bool true) rfl rfl (by kernel_rfl) (by kernel_rfl) (by kernel_rfl) (fun _ _ _ h => h) (Or.inl ⟨by rfl, fun _ _ => by go_simp⟩) hS ?_
  go_frame
  refine held_take 33 (some 48) (v := undef) rfl rfl (by kernel_rfl) (by kernel_rfl) (by kernel_rfl) (fun _ _ _ h => h) (Or.inr ⟨by rfl, rfl⟩) hS ?_
  go_frame
  refine held_take 34 (some 49) (v := undef) rfl rfl (by kernel_rfl) (by kernel_rfl) (by kernel_rfl) (fun _ _ _ h => h) (Or.inr ⟨by rfl, rfl⟩) hS ?_
  go_frame
  refine held_take 35 (some 50) (v := .bool true) rfl rfl (by kernel_rfl) (by kernel_rfl) (by kernel_rfl) (fun _ _ _ h => h) (Or.inl ⟨by rfl, fun _ _ => by go_simp⟩) hS ?_
  go_frame
  refine held_take 36 (some 51) (v := .bool true) rfl rfl (by kernel_rfl) (by kernel_rfl) (by kernel_rfl) (fun _ _ _ h => h) (Or.inl ⟨by rfl, fun _ _ => by go_simp⟩) hS ?_
  go_frame
  refine held_take 37 (some 52) (v := undef) rfl rfl (by kernel_rfl) (by kernel_rfl) (by kernel_rfl) (fun _ _ _ h => h) (Or.inr ⟨by rfl, rfl⟩) hS ?_
  go_frame
  refine held_take 38 (some 53) (v := undef) rfl rfl (by kernel_rfl) (by kernel_rfl) (by kernel_rfl) (fun _ _ _ h => h) (Or.inr ⟨by rfl, rfl⟩) hS ?_
  go_frame
  refine held_skip 39 (some 54) rfl rfl (by kernel_rfl) (by rfl) hS ?_
  go_frame
  refine held_take 40 (some 55) (v := .bool true) rfl rfl (by kernel_rfl) (by kernel_rfl) (by kernel_rfl) (fun _ _ _ h => h) (Or.inl ⟨by rfl, fun _ _ => by go_simp⟩) hS ?_
  go_frame
  refine held_take 41 (some 56) (v := .bool true) rfl rfl (by kernel_rfl) (by kernel_rfl) (by kernel_rfl) (fun _ _ _ h => h) (Or.inl ⟨by rfl, fun _ _ => by go_simp⟩) hS ?_
  go_frame
  refine held_take 42 (some 6) (v := .bool true) rfl rfl (by kernel_rfl) (by kernel_rfl) (by kernel_rfl) (fun _ _ _ h => h) (Or.inl ⟨by rfl, fun _ _ => by go_simp⟩) hS ?_
  go_frame
  refine wpAnyH_done (by kernel_rfl) ?_ _
  go_wp2
  go_ret
  exact ⟨rfl, HW7.out⟩

theorem order_walk (a : List Nat) (ha : Sha.Bytes a) (la : a.length = 32) (b : List Nat) (hb : Sha.Bytes b) (lb : b.length = 32) (c : List Nat) (hc : Sha.Bytes c) (lc : c.length = 32) (w : World) (hk : Kept w) :
    Calls Tryd.prog 7 #[.agg (U8 a).toArray, .agg (U8 b).toArray, .agg (U8 c).toArray] w fun e w' => e = .returned (.bool true) ∧ Below w.heap.size w w' := by
  cases hp : ltN a b with
  | true =>
    cases hq : ltN b c with
    | true => exact order_A a ha la b hb lb c hc lc w hk hp hq (ltN_trans a b c hp hq)
    | false => exact order_B a ha la b hb lb c hc lc w hk hp hq
  | false =>
    cases hr : ltN b a with
    | true => exact order_C a ha la b hb lb c hc lc w hk hp hr
    | false =>
      have ht := ltN_total a b (by omega)
      rw [hp, hr] at ht
      exact order_D a ha la b hb lb c hc lc w hk hp hr (by simpa using ht)
end Go.Proofs.YtcinhbhagiffgaaDoor
