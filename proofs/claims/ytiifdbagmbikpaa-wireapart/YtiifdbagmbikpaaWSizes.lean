/- The walk of WireSizes. Conditions: numbers of 64 bits. -/
import Derived.Test.YtiifdbagmbikpaaAwake
namespace Go.Proofs.Ytiifdbagmbikpaa
open Go.RowKit

theorem Out.off {w w' : World} {b c : Nat} {u v : Value} {l : List Nat} (h : Out w b v l) (hf : Fr c u w w') (hu : u.ownBlock = none) (hne : b ≠ c) (hv : v.ownBlock ≠ some c) : Out w' b v l :=
  h.fr hf hne (by rw [hu]; simp) hv (by
    rw [hu]
    by_cases e : v.ownBlock = none
    · exact .inl e
    · exact .inr e)
theorem later_ne {n c : Nat} {u v : Value} (hl : Later n u v) (hu : u.ownBlock = none) (hc : c < n) : v.ownBlock ≠ some c := by
  rcases hl with hl | ⟨k, hl, hk⟩
  · rw [hl, hu]; simp
  · rw [hl]; intro e; injection e with e; omega
theorem len_S (l : List Nat) (X : Nat) (h : l.length = X) : (S l).size = X := by rw [S_size, h]
theorem done_as (b : Nat) (v : Value) (l : List Nat) (s : ByteArray) (w : World) (hs : S l = s) (h : Out w b v l) :
    Calls Try.prog 16 #[.pointer (some ⟨b, 0, none⟩)] w fun e w' => e = .returned (.string s) ∧ w = w' := by
  rw [← hs]; exact done_any b v l w h
set_option maxRecDepth 100000 in
set_option maxHeartbeats 2000000 in
theorem sizes_walk (n : Nat) (hn : n < 18446744073709551616) (m : Nat) (hm : m < 18446744073709551616) (w : World) :
    Calls Try.prog 8 #[.int .u64 (n : Int), .int .u64 (m : Int)] w fun e w' => e = .returned (.bool true) ∧ Below w.heap.size w w' := by
  go_enter Try.func8, Try.ntmps8
  go_wp2_with fail
  refine (newOut_any w).mono ?_
  rintro e w1 ⟨rfl, hw⟩
  have z1 : w1.heap.size = w.heap.size + 1 := by rw [hw]; simp
  have hO1 := OB.new (Below.refl w.heap.size w)
  rw [← hw] at hO1
  have H1 := Lib.hid hO1
  have Z1 := Lib.hid z1
  clear hw hO1 z1
  go_wp2_with fail
  refine (newOut_any w1).mono ?_
  rintro e w2 ⟨rfl, hw⟩
  have z2 : w2.heap.size = w.heap.size + 2 := by rw [hw]; simp [Z1.out]
  have hO2 := OB.new H1.out.below
  have hb : Below w1.heap.size w1 w2 := by rw [hw]; exact (Below.refl _ _).alloc (Nat.le_refl _) _
  rw [← hw] at hO2
  have hO1 : Out w2 w.heap.size (.slice none 0 0) [] := H1.out.out.below hb
  have H2 := Lib.hid hO2
  have HB2 := Lib.hid hO1
  have Z2 := Lib.hid z2
  clear hw hO2 z2 hb hO1
  go_wp2_with fail
  refine (newOut_any w2).mono ?_
  rintro e w3 ⟨rfl, hw⟩
  have z3 : w3.heap.size = w.heap.size + 3 := by rw [hw]; simp [Z2.out]
  have hO3 := OB.new H2.out.below
  have hb : Below w2.heap.size w2 w3 := by rw [hw]; exact (Below.refl _ _).alloc (Nat.le_refl _) _
  rw [← hw] at hO3
  have HO1 := Lib.hid (HB2.out.below hb)
  have HO2 := Lib.hid (H2.out.out.below hb)
  have H3 := Lib.hid hO3
  have Z3 := Lib.hid z3
  clear hw hO3 z3 hb HB2
  go_wp2_with fail
  refine (newOut_any w3).mono ?_
  rintro e w4 ⟨rfl, hw⟩
  have z4 : w4.heap.size = w.heap.size + 4 := by rw [hw]; simp [Z3.out]
  have hO4 := OB.new H3.out.below
  have hb : Below w3.heap.size w3 w4 := by rw [hw]; exact (Below.refl _ _).alloc (Nat.le_refl _) _
  rw [← hw] at hO4
  have hq1 := HO1.out.below hb
  have hq2 := HO2.out.below hb
  have hq3 := H3.out.out.below hb
  have HQ := Lib.hid (And.intro hq1 (And.intro hq2 (And.intro hq3 hO4.out)))
  have HB4 := Lib.hid hO4.below
  have Z4 := Lib.hid z4
  clear hw hO4 z4 hb hq1 hq2 hq3 H1 H2 H3 HO1 HO2
  go_wp2_with fail
  refine (awake_any w4).mono ?_
  rintro e w5 ⟨rfl, hb⟩
  have hs5 : w.heap.size + 4 ≤ w5.heap.size := by have := hb.size; have := Z4.out; omega
  have hB5 := HB4.out.trans (hb.mono HB4.out.size)
  have HQ5 := Lib.hid (And.intro (HQ.out.1.below hb) (And.intro (HQ.out.2.1.below hb) (And.intro (HQ.out.2.2.1.below hb) (HQ.out.2.2.2.below hb))))
  have HB5 := Lib.hid hB5
  have HS5 := Lib.hid hs5
  rw [Z1.out, Z2.out, Z3.out] at HQ5 ⊢
  clear hb hs5 hB5 HQ HB4 Z4 Z1 Z2 Z3
  go_wp2_with fail
  refine (outNum_any w.heap.size n _ _ w5 hn HQ5.out.1 (by simp)).mono ?_
  rintro e w6 ⟨rfl, hw⟩
  obtain ⟨va, hoa, hfa, hla⟩ := hw
  have hB6 := HB5.out.trans (hfa.below (Nat.le_refl _) HB5.out.size (fun k hk => by simp [Value.ownBlock] at hk))
  have hz6 : w.heap.size + 4 ≤ w6.heap.size := Nat.le_trans HS5.out hfa.size
  have HN6 := Lib.hid (And.intro (later_ne hla rfl (show w.heap.size + 1 < _ by have := HS5.out; omega)) (And.intro (later_ne hla rfl (show w.heap.size + 2 < _ by have := HS5.out; omega)) (later_ne hla rfl (show w.heap.size + 3 < _ by have := HS5.out; omega))))
  have HQ6 := Lib.hid (And.intro hoa (And.intro (HQ5.out.2.1.off hfa rfl (by omega) (by simp [Value.ownBlock])) (And.intro (HQ5.out.2.2.1.off hfa rfl (by omega) (by simp [Value.ownBlock])) (HQ5.out.2.2.2.off hfa rfl (by omega) (by simp [Value.ownBlock])))))
  have HB6 := Lib.hid hB6
  have HS6 := Lib.hid hz6
  clear hoa hfa hla hB6 hz6 HQ5 HB5 HS5
  go_wp2_with fail
  refine (outNum_any (w.heap.size + 1) m _ _ w6 hm HQ6.out.2.1 (by simp)).mono ?_
  rintro e w7 ⟨rfl, hw⟩
  obtain ⟨vb, hob, hfb, hlb⟩ := hw
  have hB7 := HB6.out.trans (hfb.below (by omega) HB6.out.size (fun k hk => by simp [Value.ownBlock] at hk))
  have hz7 : w.heap.size + 4 ≤ w7.heap.size := Nat.le_trans HS6.out hfb.size
  have HN7 := Lib.hid (And.intro (later_ne hlb rfl (show w.heap.size + 2 < _ by have := HS6.out; omega)) (later_ne hlb rfl (show w.heap.size + 3 < _ by have := HS6.out; omega)))
  have HQ7 := Lib.hid (And.intro (HQ6.out.1.off hfb rfl (by omega) HN6.out.1) (And.intro hob (And.intro (HQ6.out.2.2.1.off hfb rfl (by omega) (by simp [Value.ownBlock])) (HQ6.out.2.2.2.off hfb rfl (by omega) (by simp [Value.ownBlock])))))
  have HB7 := Lib.hid hB7
  have HS7 := Lib.hid hz7
  clear hob hfb hlb hB7 hz7 HQ6 HB6 HS6
  obtain ⟨i, hi⟩ : ∃ i : Nat, i = n / 2 := ⟨_, rfl⟩
  have hii : (n : Int) / 2 = (i : Int) := by omega
  have hi2 : i < 9223372036854775808 := by omega
  have HI := Lib.hid hi
  clear hi
  go_wp2_with fail
  refine (outInt_any (w.heap.size + 2) i _ _ w7 (by omega) (by omega) HQ7.out.2.2.1 (by simp)).mono ?_
  rintro e w8 ⟨rfl, hw⟩
  obtain ⟨vc, hoc, hfc, hlc⟩ := hw
  have hB8 := HB7.out.trans (hfc.below (by omega) HB7.out.size (fun k hk => by simp [Value.ownBlock] at hk))
  have hz8 : w.heap.size + 4 ≤ w8.heap.size := Nat.le_trans HS7.out hfc.size
  have HN8 := Lib.hid (later_ne hlc rfl (show w.heap.size + 3 < _ by have := HS7.out; omega))
  have HQ8 := Lib.hid (And.intro (HQ7.out.1.off hfc rfl (by omega) HN6.out.2.1) (And.intro (HQ7.out.2.1.off hfc rfl (by omega) HN7.out.1) (And.intro hoc (HQ7.out.2.2.2.off hfc rfl (by omega) (by simp [Value.ownBlock])))))
  have HB8 := Lib.hid hB8
  clear hoc hfc hlc hB8 hz8 HQ7 HB7 HS7
  go_wp2_with fail
  refine (outInt_any (w.heap.size + 3) (-1 - i) _ _ w8 (by omega) (by omega) HQ8.out.2.2.2 (by simp)).mono ?_
  rintro e w9 ⟨rfl, hw⟩
  obtain ⟨vd, hod, hfd, hld⟩ := hw
  have hB9 := HB8.out.trans (hfd.below (by omega) HB8.out.size (fun k hk => by simp [Value.ownBlock] at hk))
  have HQ9 := Lib.hid (And.intro (HQ8.out.1.off hfd rfl (by omega) HN6.out.2.2) (And.intro (HQ8.out.2.1.off hfd rfl (by omega) HN7.out.2) (And.intro (HQ8.out.2.2.1.off hfd rfl (by omega) HN8.out) hod)))
  have HB9 := Lib.hid hB9
  clear hod hfd hld hB9 HQ8 HB8 HN6 HN7 HN8
  obtain ⟨X, hX⟩ : ∃ X : Nat, X = (Wire.num n).length := ⟨_, rfl⟩
  obtain ⟨Y, hY⟩ : ∃ Y : Nat, Y = (Wire.num m).length := ⟨_, rfl⟩
  obtain ⟨Z, hZ⟩ : ∃ Z : Nat, Z = (Wire.num (Wire.fold i)).length := ⟨_, rfl⟩
  have x1 : 1 ≤ X := by rw [hX]; exact Wire.num_pos n
  have x2 : X ≤ 10 := by rw [hX]; exact Wire.num_len10 n hn
  have x3 : n ≤ m → X ≤ Y := fun h => by rw [hX, hY]; exact Wire.num_mono n m h
  have x4 : X = 1 ↔ n < 128 := by rw [hX]; exact Wire.num_one n
  have y2 : Y ≤ 10 := by rw [hY]; exact Wire.num_len10 m hm
  obtain ⟨A, hA⟩ : ∃ A, S ([] ++ Wire.num n) = A := ⟨_, rfl⟩
  obtain ⟨B, hB⟩ : ∃ B, S ([] ++ Wire.num m) = B := ⟨_, rfl⟩
  obtain ⟨C, hC⟩ : ∃ C, S ([] ++ Wire.num (Wire.fold i)) = C := ⟨_, rfl⟩
  obtain ⟨D, hD⟩ : ∃ D, S ([] ++ Wire.num (Wire.fold (-1 - (i : Int)))) = D := ⟨_, rfl⟩
  have eD : D.size = Z := by
    rw [← hD]
    exact len_S _ _ (by
      rw [hZ, List.nil_append, show Wire.fold (i : Int) = 2 * i by unfold Wire.fold; rw [if_pos (by omega)]; omega, show Wire.fold (-1 - (i : Int)) = 2 * i + 1 by unfold Wire.fold; rw [if_neg (by omega)]; omega]
      exact (Wire.num_two i).symm)
  have eA : A.size = X := by rw [← hA]; exact len_S _ _ (by rw [hX]; rfl)
  have eB : B.size = Y := by rw [← hB]; exact len_S _ _ (by rw [hY]; rfl)
  have eC : C.size = Z := by rw [← hC]; exact len_S _ _ (by rw [hZ]; rfl)
  have HA := Lib.hid hA
  have HBb := Lib.hid hB
  have HC := Lib.hid hC
  have HD := Lib.hid hD
  clear hX hY hZ hA hB hC hD HI hii hi2 hn hm
  have t5 : decide (1 ≤ X) = true := by simp; omega
  have t6 : decide ((1 : Int) ≤ (X : Int)) = true := by simp; omega
  have t7 : decide ((X : Int) ≤ 10) = true := by simp; omega
  have t8 : ((X : Int) == 1) = decide ((n : Int) < 128) := by
    rw [Bool.eq_iff_iff]; simp; omega
  clear x4
  go_wp2_with fail
  refine (done_as w.heap.size va _ A w9 HA.out HQ9.out.1).mono ?_
  rintro e w10 ⟨rfl, rfl⟩
  go_wp2_with fail
  refine (done_as (w.heap.size + 1) vb _ B w9 HBb.out HQ9.out.2.1).mono ?_
  rintro e w10 ⟨rfl, rfl⟩
  by_cases hgt : m < n
  · clear x3
    go_wp2_with fail
    refine (done_as (w.heap.size + 2) vc _ C w9 HC.out HQ9.out.2.2.1).mono ?_
    rintro e w10 ⟨rfl, rfl⟩
    go_wp2_with fail
    refine (done_as (w.heap.size + 3) vd _ D w9 HD.out HQ9.out.2.2.2).mono ?_
    rintro e w10 ⟨rfl, rfl⟩
    go_wp2
    go_ret
    exact ⟨rfl, HB9.out⟩
  · have x5 : X ≤ Y := x3 (by omega)
    clear x3
    go_wp2_with fail
    refine (done_as (w.heap.size + 2) vc _ C w9 HC.out HQ9.out.2.2.1).mono ?_
    rintro e w10 ⟨rfl, rfl⟩
    go_wp2_with fail
    refine (done_as (w.heap.size + 3) vd _ D w9 HD.out HQ9.out.2.2.2).mono ?_
    rintro e w10 ⟨rfl, rfl⟩
    go_wp2
    go_ret
    exact ⟨rfl, HB9.out⟩
end Go.Proofs.Ytiifdbagmbikpaa
