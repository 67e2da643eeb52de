/- The walk of WireMost. Conditions: a whole number of 64 bits. -/
import Derived.Test.YtiifdbagmbikpaaAwake
import Derived.Test.YtiifdbagmbikpaaBytes
namespace Go.Proofs.Ytiifdbagmbikpaa
open Go.RowKit

theorem done_to (b : Nat) (v : Value) (l : List Nat) (s : ByteArray) (w : World) (hs : S l = s) (h : Out w b v l) :
    Calls Try.prog 16 #[.pointer (some ⟨b, 0, none⟩)] w fun e w' => e = .returned (.string s) ∧ w = w' := by
  rw [← hs]; exact done_any b v l w h
set_option maxRecDepth 100000 in
set_option maxHeartbeats 2000000 in
theorem most_walk (s : ByteArray) (most : Int) (h1 : -9223372036854775808 ≤ most) (h2 : most ≤ 9223372036854775807) (w : World) :
    Calls Try.prog 10 #[.string s, .int .i64 most] w fun e w' => e = .returned (.bool true) ∧ Below w.heap.size w w' := by
  by_cases h300 : 300 < s.size
  · have t1 : decide ((s.size : Int) > 300) = true := by simp; omega
    go_enter Try.func10, Try.ntmps10
    go_wp2_with fail
    refine (newOut_any w).mono ?_
    rintro e w1 ⟨rfl, hw⟩
    have HB1 : Hid (Below w.heap.size w w1) := by show Below _ _ _; rw [hw]; exact (Below.refl _ _).alloc (Nat.le_refl _) _
    clear hw
    go_wp2_with fail
    refine (awake_any w1).mono ?_
    rintro e w2 ⟨rfl, hb⟩
    have HB2 := Lib.hid (HB1.out.trans (hb.mono HB1.out.size))
    clear hb HB1
    go_wp2_with fail
    refine (awake_any w2).mono ?_
    rintro e w3 ⟨rfl, hb⟩
    have HB3 := Lib.hid (HB2.out.trans (hb.mono HB2.out.size))
    clear hb HB2
    go_wp2
    go_ret
    exact ⟨rfl, HB3.out⟩
  · have t1 : decide ((s.size : Int) > 300) = false := by simp; omega
    have t2 : decide ((300 : Int) < (s.size : Int)) = false := by simp; omega
    go_enter Try.func10, Try.ntmps10
    go_wp2_with fail
    refine (newOut_any w).mono ?_
    rintro e w1 ⟨rfl, hw⟩
    have hO := OB.new (Below.refl w.heap.size w)
    rw [← hw] at hO
    have H1 := Lib.hid hO
    clear hw hO
    go_wp2_with fail
    refine (awake_any w1).mono ?_
    rintro e w2 ⟨rfl, hb⟩
    have H2 := Lib.hid (show OB w w2 w.heap.size (.slice none 0 0) [] from ⟨H1.out.out.below hb, H1.out.hb, H1.out.own, H1.out.below.trans (hb.mono H1.out.below.size)⟩)
    clear hb H1
    go_wp2_with fail
    refine (outText_any w.heap.size s _ _ w2 (by omega) H2.out.out (by simp)).mono ?_
    rintro e w3 ⟨rfl, hw⟩
    obtain ⟨v3, ho, _, _⟩ := H2.out.wrote hw
    have H3 := Lib.hid ho
    clear hw ho H2
    obtain ⟨A, hA⟩ : ∃ A, S ([] ++ (Wire.num s.size ++ bl s)) = A := ⟨_, rfl⟩
    have HA := Lib.hid hA
    have HT := Lib.hid (text_back s [] most (by omega) (by simp))
    rw [show S (Wire.num s.size ++ (bl s ++ [])) = A by rw [← HA.out]; simp] at HT
    have hAs : A.size ≤ 100000 := by rw [← hA, S_size]; have := Wire.num_len10 s.size (by omega); simp [bl_length]; omega
    have HAs := Lib.hid hAs
    clear hA hAs
    go_wp2_with fail
    refine (done_to w.heap.size v3 _ A w3 HA.out H3.out.out).mono ?_
    rintro e w4 ⟨rfl, rfl⟩
    go_wp2_with fail
    refine (newIn_any A w3).mono ?_
    rintro e w4 ⟨rfl, hw⟩
    have hI := in_new w3 A
    rw [← hw] at hI
    have HB4 : Hid (Below w.heap.size w w4) := by show Below _ _ _; rw [hw]; exact H3.out.below.alloc H3.out.below.size _
    have HI := Lib.hid hI
    have HC := Lib.hid H3.out.below.size
    clear hw hI H3
    generalize w3.heap.size = c at *
    go_wp2_with fail
    refine (inText_any c A 0 most w4 HAs.out h1 h2 HI.out).mono ?_
    rintro e w5 ⟨rfl, hd⟩
    have HB5 := Lib.hid (fr_nul HB4.out HC.out hd.2)
    rw [HT.out] at hd ⊢
    by_cases hm : most < (s.size : Int)
    · rw [if_pos hm] at hd ⊢
      have HI5 := Lib.hid hd.1
      clear hd HI HB4 HT
      unfold nil
      go_wp2_with fail
      refine (err_any c A 22 w5 HI5.out).mono ?_
      rintro e w6 ⟨rfl, rfl⟩
      go_wp2
      go_ret
      exact ⟨rfl, HB5.out⟩
    · rw [if_neg hm] at hd ⊢
      have HI5 := Lib.hid hd.1
      clear hd HI HB4 HT
      go_wp2_with fail
      refine (end_any c (S []) 0 w5 HI5.out).mono ?_
      rintro e w6 ⟨rfl, rfl⟩
      rw [show endOf (S []) 0 = 0 by decide +kernel]
      go_wp2
      go_ret
      exact ⟨rfl, HB5.out⟩
end Go.Proofs.Ytiifdbagmbikpaa
