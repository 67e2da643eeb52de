/- The walk of the anchor: the chapter's examples. No condition. -/
import Derived.Test.YtiifdbagmbikpaaOutMore
import Derived.Test.YtiifdbagmbikpaaDone
import Derived.Test.YtiifdbagmbikpaaInText
namespace Go.Proofs.Ytiifdbagmbikpaa
open Go.RowKit

/-- What a call that began in w0 writes into an object of its own. -/
structure OB (w0 w : World) (b : Nat) (v : Value) (l : List Nat) : Prop where
  out : Out w b v l
  hb : w0.heap.size ≤ b
  own : ∀ k, v.ownBlock = some k → w0.heap.size ≤ k
  below : Below w0.heap.size w0 w
theorem OB.new {w0 w : World} (h : Below w0.heap.size w0 w) : OB w0 (w.alloc (.cells #[.slice none 0 0] 61)) w.heap.size (.slice none 0 0) [] :=
  ⟨out_new w, h.size, fun k hk => by simp [Value.ownBlock] at hk, h.alloc h.size _⟩
theorem OB.wrote {w0 w w' : World} {b : Nat} {v : Value} {l l' : List Nat} (h : OB w0 w b v l) (hw : Wrote w b v l' w') : ∃ v', OB w0 w' b v' l' ∧ Fr b v w w' ∧ Later w.heap.size v v' := by
  obtain ⟨v', ho, hf, hl⟩ := hw
  refine ⟨v', ⟨ho, h.hb, fun k hk => ?_, h.below.trans (hf.below h.hb h.below.size h.own)⟩, hf, hl⟩
  rcases hl with hl | ⟨x, hl, hx⟩
  · exact h.own k (by rw [← hl]; exact hk)
  · rw [hl] at hk; injection hk with hk; have := h.below.size; omega
theorem fr_nul {w0 w w' : World} {c : Nat} (h : Below w0.heap.size w0 w) (hc : w0.heap.size ≤ c) (hf : Fr c nul w w') : Below w0.heap.size w0 w' := h.trans (hf.below hc h.size (fun k hk => by simp [nul, Value.ownBlock] at hk))
theorem Out.kept {w w' : World} {b c : Nat} {v : Value} {l : List Nat} (h : Out w b v l) (hf : Fr c nul w w') (hne : b ≠ c) (hv : v.ownBlock ≠ some c) : Out w' b v l :=
  h.fr hf hne (by simp [nul, Value.ownBlock]) hv (by
    by_cases e : v.ownBlock = none
    · exact .inl e
    · exact .inr (by simpa [nul, Value.ownBlock] using e))
theorem OB.did {w0 w w' : World} {b c : Nat} {v : Value} {l : List Nat} (h : OB w0 w b v l) (hf : Fr c nul w w') (hc : w0.heap.size ≤ c) (hne : b ≠ c) (hv : v.ownBlock ≠ some c) : OB w0 w' b v l :=
  ⟨h.out.kept hf hne hv, h.hb, h.own, fr_nul h.below hc hf⟩
def L0 : ByteArray := ⟨#[172, 2, 1, 2, 104, 105]⟩
def L1 : ByteArray := ⟨#[1, 2, 104, 105]⟩
def L2 : ByteArray := ⟨#[2, 104, 105]⟩
theorem l0_is : [] ++ Wire.num 300 ++ Wire.num (Wire.fold (-1)) ++ (Wire.num (ByteArray.mk #[104, 105]).size ++ bl ⟨#[104, 105]⟩) = [172, 2, 1, 2, 104, 105] := by
  rw [Wire.num_ge (n := 300) (by omega), Wire.num_lt (n := 300 / 128) (by omega), Wire.num_lt (n := Wire.fold (-1)) (by decide), Wire.num_lt (n := (ByteArray.mk #[104, 105]).size) (by decide)]
  rfl
theorem l0_S : S [172, 2, 1, 2, 104, 105] = L0 := by rfl
theorem r0 : numRes L0 0 = (300, L1, 0) := by decide +kernel
theorem r1 : numRes L1 0 = (1, L2, 0) := by decide +kernel
theorem r2 : textRes L2 0 5 = (⟨#[104, 105]⟩, nil, 0) := by decide +kernel
theorem hi_size : (ByteArray.mk #[104, 105]).size ≤ 100000 := by decide
theorem end0 : endOf nil 0 = 0 := by decide +kernel
set_option maxRecDepth 100000 in
set_option maxHeartbeats 2000000 in
theorem awake_any (w : World) : Calls Try.prog 12 #[] w fun e w' => e = .returned (.bool true) ∧ Below w.heap.size w w' := by
  go_enter Try.func12, Try.ntmps12
  go_wp2_with fail
  refine (newOut_any w).mono ?_
  rintro e w1 ⟨rfl, hw⟩
  have H1 := Lib.hid (OB.new (Below.refl w.heap.size w))
  rw [← hw] at H1
  have hbw : w.heap.size < w1.heap.size := by rw [hw]; simp
  have HBW := Lib.hid hbw
  clear hw hbw
  go_wp2_with fail
  refine (outNum_any w.heap.size 300 _ _ w1 (by omega) H1.out.out (by simp)).mono ?_
  rintro e w2 ⟨rfl, hw⟩
  obtain ⟨v2, ho, _, _⟩ := H1.out.wrote hw
  have H2 := Lib.hid ho
  clear hw ho H1
  go_wp2_with fail
  refine (outInt_any w.heap.size (-1) _ _ w2 (by omega) (by omega) H2.out.out (by have := Wire.num_len10 300 (by omega); simp; omega)).mono ?_
  rintro e w3 ⟨rfl, hw⟩
  obtain ⟨v3, ho, _, _⟩ := H2.out.wrote hw
  have H3 := Lib.hid ho
  clear hw ho H2
  go_wp2_with fail
  refine (outText_any w.heap.size ⟨#[104, 105]⟩ _ _ w3 hi_size H3.out.out (by have := Wire.num_len10 300 (by omega); have := Wire.num_len10 (Wire.fold (-1)) (by decide); simp; omega)).mono ?_
  rintro e w4 ⟨rfl, hw⟩
  obtain ⟨v4, ho, _, _⟩ := H3.out.wrote hw
  rw [l0_is] at ho
  have H4 := Lib.hid ho
  clear hw ho H3
  go_wp2_with fail
  refine (done_any w.heap.size v4 _ w4 H4.out.out).mono ?_
  rintro e w5 ⟨rfl, rfl⟩
  rw [l0_S]
  go_wp2_with fail
  refine (newIn_any L0 w4).mono ?_
  rintro e w5 ⟨rfl, hw⟩
  have hI := in_new w4 L0
  rw [← hw] at hI
  have hO : OB w w5 w.heap.size v4 [172, 2, 1, 2, 104, 105] := by
    rw [hw]
    exact ⟨H4.out.out.below ((Below.refl _ _).alloc (Nat.le_refl _) _), H4.out.hb, H4.out.own, H4.out.below.alloc H4.out.below.size _⟩
  have hne : w.heap.size ≠ w4.heap.size := Nat.ne_of_lt H4.out.out.1.lt
  have hvn : v4.ownBlock ≠ some w4.heap.size := fun e => by have := (H4.out.out.own_lt _ e).1; omega
  have hc : w.heap.size ≤ w4.heap.size := H4.out.below.size
  have H5 := Lib.hid hO
  have HN := Lib.hid (And.intro hne (And.intro hvn hc))
  have HI5 := Lib.hid hI
  clear hw hI hO hne hvn hc H4
  generalize w4.heap.size = c at *
  go_wp2_with fail
  refine (inNum_any c L0 0 w5 HI5.out).mono ?_
  rintro e w6 ⟨rfl, hd⟩
  rw [r0] at hd ⊢
  have H6 := Lib.hid (H5.out.did hd.2 HN.out.2.2 HN.out.1 HN.out.2.1)
  have HI6 := Lib.hid hd.1
  clear hd H5 HI5
  go_wp2_with fail
  refine (inInt_any c L1 0 w6 HI6.out).mono ?_
  rintro e w7 ⟨rfl, hd⟩
  rw [r1] at hd ⊢
  have H7 := Lib.hid (H6.out.did hd.2 HN.out.2.2 HN.out.1 HN.out.2.1)
  have HI7 := Lib.hid hd.1
  clear hd H6 HI6
  go_wp2_with fail
  refine (inText_any c L2 0 5 w7 (by decide) (by omega) (by omega) HI7.out).mono ?_
  rintro e w8 ⟨rfl, hd⟩
  rw [r2] at hd ⊢
  have H8 := Lib.hid (H7.out.did hd.2 HN.out.2.2 HN.out.1 HN.out.2.1)
  have HI8 := Lib.hid hd.1
  clear hd H7 HI7
  go_wp2_with fail
  refine (done_any w.heap.size v4 _ w8 H8.out.out).mono ?_
  rintro e w9 ⟨rfl, rfl⟩
  rw [l0_S]
  have q1 : (Wire.unfold_ 1 == -1) = true := by decide
  unfold L0
  go_wp2_with fail
  refine (end_any c nil 0 w8 HI8.out).mono ?_
  rintro e w9 ⟨rfl, rfl⟩
  rw [end0]
  go_wp2_with fail
  refine (err_any c nil 0 w8 HI8.out).mono ?_
  rintro e w9 ⟨rfl, rfl⟩
  go_wp2_with fail
  refine (left_any c nil 0 w8 HI8.out).mono ?_
  rintro e w9 ⟨rfl, rfl⟩
  rw [show nil.size = 0 from rfl]
  go_wp2
  go_ret
  exact ⟨rfl, H8.out.below⟩
end Go.Proofs.Ytiifdbagmbikpaa
