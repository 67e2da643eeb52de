/- The contract of In.Text. Conditions: at most 100000 bytes are left. -/
import Derived.Test.YtiifdbagmbikpaaInNum
import Derived.Test.YtiifdbagmbikpaaClone
namespace Go.Proofs.Ytiifdbagmbikpaa
open Go.RowKit

def sub (s : ByteArray) (a b : Nat) : ByteArray := s.extract a b
def nil : ByteArray := ⟨#[]⟩
/-- What Text reads, what is left, what is wrong. -/
def textOf (s : ByteArray) (most : Int) (r : Nat × Nat × Nat) : ByteArray × Nat × Nat := if r.2.2 ≠ 0 then (nil, 0, r.2.2) else if most < (r.1 : Int) then (nil, 0, 22) else if s.size - r.2.1 < r.1 then (nil, 0, 20) else (sub s r.2.1 (r.2.1 + r.1), r.2.1 + r.1, 0)
theorem tc_bad (s : ByteArray) (most : Int) (p q : Nat) (w : World) (hs : s.size ≤ 100000) (h : Has w p 3 [.int .i64 most]) (hm1 : -9223372036854775808 ≤ most) (hm2 : most ≤ 9223372036854775807) (hb : (textOf s most (Wire.rd (bl s))).2.2 ≠ 0) :
    Calls Try.prog 39 #[.string s, .pointer (some ⟨p, 0, none⟩), .pointer (some ⟨q, 0, none⟩)] w fun e w' => e = .returned (.tuple #[.int .i64 0, .int .i64 ((textOf s most (Wire.rd (bl s))).2.2 : Int)]) ∧ w = w' := by
  have c0 : w.cell? ⟨p, 0, none⟩ = some (.int .i64 most) := h.cell 0
  have HN := Lib.hid (number_any s w)
  have hlen : (Wire.rd (bl s)).2.2 = 0 → (Wire.rd (bl s)).2.1 ≤ s.size ∧ (Wire.rd (bl s)).1 < 18446744073709551616 := fun h0 => by
    have := Wire.rd_back (bl s) (Wire.rd (bl s)).1 (Wire.rd (bl s)).2.1 (bl_bytes s) (by rw [← h0])
    rw [bl_length] at this
    exact ⟨this.1, this.2.2.2⟩
  clear h
  generalize Wire.rd (bl s) = r at *
  obtain ⟨v, k, y⟩ := r
  unfold textOf at *
  simp only at *
  by_cases hy : y = 0
  · subst hy
    obtain ⟨h1, h2⟩ := hlen rfl
    clear hlen
    rw [if_neg (by omega)] at hb ⊢
    by_cases h3 : most < (v : Int)
    · rw [if_pos h3]
      clear hb
      by_cases h4 : most < 0
      · go_enter Try.func39, Try.ntmps39
        go_wp2_with fail
        refine HN.out.mono ?_
        rintro e w1 ⟨rfl, rfl⟩
        unfold rdVal
        go_wp2
        go_ret2
        exact ⟨rfl, rfl⟩
      · have t4 : decide (most < 0) = false := by simp; omega
        go_enter Try.func39, Try.ntmps39
        go_wp2_with fail
        refine HN.out.mono ?_
        rintro e w1 ⟨rfl, rfl⟩
        unfold rdVal
        go_wp2
        go_ret2
        exact ⟨rfl, rfl⟩
    · rw [if_neg h3] at hb ⊢
      by_cases h5 : s.size - k < v
      · rw [if_pos h5]
        have t4 : decide (most < 0) = false := by simp; omega
        clear hb
        go_enter Try.func39, Try.ntmps39
        go_wp2_with fail
        refine HN.out.mono ?_
        rintro e w1 ⟨rfl, rfl⟩
        unfold rdVal
        go_wp2
        go_ret2
        exact ⟨rfl, rfl⟩
      · rw [if_neg h5] at hb
        exact absurd rfl hb
  · rw [if_pos hy]
    have t1 : ((y : Int) != 0) = true := by simp; omega
    clear hb hlen
    go_enter Try.func39, Try.ntmps39
    go_wp2_with fail
    refine HN.out.mono ?_
    rintro e w1 ⟨rfl, rfl⟩
    unfold rdVal
    go_wp2
    go_ret2
    exact ⟨rfl, rfl⟩
/-- Behind a clone, stored. -/
def Cl (w : World) (q : Nat) (u : Value) (w' : World) : Prop := ∃ w1, Below w.heap.size w w1 ∧ w' = w1.setCell ⟨q, 0, none⟩ u
set_option maxRecDepth 100000 in
theorem tc_ok (s : ByteArray) (most : Int) (p q : Nat) (u : Value) (w : World) (hs : s.size ≤ 100000) (h : Has w p 3 [.int .i64 most]) (hq : Has w q 9 [u]) (hm1 : -9223372036854775808 ≤ most) (hm2 : most ≤ 9223372036854775807) (hb : (textOf s most (Wire.rd (bl s))).2.2 = 0) :
    Calls Try.prog 39 #[.string s, .pointer (some ⟨p, 0, none⟩), .pointer (some ⟨q, 0, none⟩)] w fun e w' => e = .returned (.tuple #[.int .i64 ((textOf s most (Wire.rd (bl s))).2.1 : Int), .int .i64 0]) ∧ Cl w q (.string (textOf s most (Wire.rd (bl s))).1) w' := by
  have c0 : w.cell? ⟨p, 0, none⟩ = some (.int .i64 most) := h.cell 0
  have HN := Lib.hid (number_any s w)
  have hlen : (Wire.rd (bl s)).2.2 = 0 → (Wire.rd (bl s)).2.1 ≤ s.size ∧ (Wire.rd (bl s)).1 < 18446744073709551616 := fun h0 => by
    have := Wire.rd_back (bl s) (Wire.rd (bl s)).1 (Wire.rd (bl s)).2.1 (bl_bytes s) (by rw [← h0])
    rw [bl_length] at this
    exact ⟨this.1, this.2.2.2⟩
  have HQ := Lib.hid hq
  clear h hq
  generalize Wire.rd (bl s) = r at *
  obtain ⟨v, k, y⟩ := r
  unfold textOf at *
  simp only at *
  by_cases hy : y = 0
  · subst hy
    obtain ⟨h1, h2⟩ := hlen rfl
    clear hlen
    rw [if_neg (by omega)] at hb ⊢
    by_cases h3 : most < (v : Int)
    · rw [if_pos h3] at hb; simp at hb
    · rw [if_neg h3] at hb ⊢
      by_cases h5 : s.size - k < v
      · rw [if_pos h5] at hb; simp at hb
      · rw [if_neg h5]
        clear hb
        have t4 : decide (most < 0) = false := by simp; omega
        have hkv : k + v ≤ s.size := by omega
        have HSub := Lib.hid (show (sub s k (k + v)).size ≤ 281474976710656 by unfold sub; rw [ByteArray.size_extract]; omega)
        go_enter Try.func39, Try.ntmps39
        go_wp2_with fail
        refine HN.out.mono ?_
        rintro e w1 ⟨rfl, rfl⟩
        unfold rdVal
        go_wp2_with fail
        refine (clone_any (sub s k (k + v)) w HSub.out).mono ?_
        rintro e w2 ⟨rfl, hb⟩
        have HB := Lib.hid hb
        have hq2 := HQ.out.below hb HQ.out.lt
        have d0 := hq2.cell 0
        have f0 := hq2.open_ 0
        clear hb hq2
        go_wp2
        go_ret2
        exact ⟨rfl, _, HB.out, rfl⟩
  · rw [if_pos hy] at hb
    exact absurd hb hy
def textRes (s : ByteArray) (x : Nat) (most : Int) : ByteArray × ByteArray × Nat := if x ≠ 0 then (nil, s, x) else ((textOf s most (Wire.rd (bl s))).1, cut s (textOf s most (Wire.rd (bl s))).2.1, (textOf s most (Wire.rd (bl s))).2.2)
theorem cut_zero (s : ByteArray) : cut s 0 = s := by
  unfold cut
  simp
theorem textOf_bad {s : ByteArray} {most : Int} {r : Nat × Nat × Nat} (h : (textOf s most r).2.2 ≠ 0) : (textOf s most r).1 = nil ∧ (textOf s most r).2.1 = 0 := by
  unfold textOf at *
  split at h
  · rename_i h1; rw [if_pos h1]; exact ⟨rfl, rfl⟩
  · rename_i h1; rw [if_neg h1]
    split at h
    · rename_i h2; rw [if_pos h2]; exact ⟨rfl, rfl⟩
    · rename_i h2; rw [if_neg h2]
      split at h
      · rename_i h3; rw [if_pos h3]; exact ⟨rfl, rfl⟩
      · exact absurd rfl h
theorem textOf_le (s : ByteArray) (most : Int) : (textOf s most (Wire.rd (bl s))).2.1 ≤ s.size := by
  have hlen : (Wire.rd (bl s)).2.2 = 0 → (Wire.rd (bl s)).2.1 ≤ s.size := fun h0 => by
    have := Wire.rd_back (bl s) (Wire.rd (bl s)).1 (Wire.rd (bl s)).2.1 (bl_bytes s) (by rw [← h0])
    rw [bl_length] at this
    exact this.1
  generalize Wire.rd (bl s) = r at *
  unfold textOf at *
  split
  · simp
  · rename_i h1
    have := hlen (by omega)
    split
    · simp
    · split
      · simp
      · simp; omega
set_option maxHeartbeats 1000000 in
theorem inText_any (b : Nat) (s : ByteArray) (x : Nat) (most : Int) (w : World) (hs : s.size ≤ 100000) (hm1 : -9223372036854775808 ≤ most) (hm2 : most ≤ 9223372036854775807) (h : In w b s x) :
    Calls Try.prog 27 #[.pointer (some ⟨b, 0, none⟩), .int .i64 most] w fun e w' => e = .returned (.string (textRes s x most).1) ∧ Did w b (textRes s x most).2.1 (textRes s x most).2.2 w' := by
  have hmf := mf
  have hP : Has ((w.alloc (.cells #[.int .i64 most] 3)).alloc (.cells #[.string nil] 9)) w.heap.size 3 [.int .i64 most] := (Has.new w 3 [.int .i64 most]).alloc _
  have hQ : Has ((w.alloc (.cells #[.int .i64 most] 3)).alloc (.cells #[.string nil] 9)) (w.heap.size + 1) 9 [.string nil] := Has.new' _ 9 [.string nil] _ _ rfl (by simp)
  have hI : In ((w.alloc (.cells #[.int .i64 most] 3)).alloc (.cells #[.string nil] 9)) b s x := (Has.alloc h _).alloc _
  have hF : Fr b nul w ((w.alloc (.cells #[.int .i64 most] 3)).alloc (.cells #[.string nil] 9)) := ((Fr.refl _ _ _).alloc _).alloc _
  have hne : b ≠ w.heap.size + 1 := by have := h.lt; omega
  by_cases hx : x ≠ 0
  · have HR := Lib.hid (show textRes s x most = (nil, s, x) by unfold textRes; rw [if_pos hx])
    have HI := Lib.hid hI
    have HF := Lib.hid hF
    have c0 := hQ.cell 0
    have HX := Lib.hid hx
    clear h hI hP hQ hne hF hx hm1 hm2
    unfold nil at *
    go_enter Try.func27, Try.ntmps27
    go_wp2_with fail
    refine (read_not _ b s x _ HX.out HI.out).mono ?_
    rintro e w1 ⟨rfl, rfl⟩
    go_wp2
    go_ret
    refine ⟨by rw [HR.out]; rfl, ?_⟩
    rw [HR.out]
    exact ⟨HI.out, HF.out⟩
  · obtain rfl : x = 0 := by omega
    clear hx
    have hnr : textRes s 0 most = ((textOf s most (Wire.rd (bl s))).1, cut s (textOf s most (Wire.rd (bl s))).2.1, (textOf s most (Wire.rd (bl s))).2.2) := by unfold textRes; rw [if_neg (by omega)]
    by_cases hy : (textOf s most (Wire.rd (bl s))).2.2 = 0
    · have hcl := tc_ok s most w.heap.size (w.heap.size + 1) _ _ hs hP hQ hm1 hm2 hy
      have hle := textOf_le s most
      rw [hy] at hnr
      have HR := Lib.hid hnr
      have hcall := read_ok 39 #[.pointer (some ⟨w.heap.size, 0, none⟩), .pointer (some ⟨w.heap.size + 1, 0, none⟩)] b s (textOf s most (Wire.rd (bl s))).2.1 (Kp w b (w.heap.size + 1) 9 [.string (textOf s most (Wire.rd (bl s))).1]) _ hI hle enter39 (hcl.mono fun e w1 ⟨he, w2, hb, hw⟩ => ⟨he, by
          rw [hw]
          exact Has.far (Has.below hI hb hI.lt) (p := ⟨w.heap.size + 1, 0, none⟩) hne _, by
          rw [hw]
          exact ⟨by simpa using Has.set_ (hQ.below hb hQ.lt) 0 (.string (textOf s most (Wire.rd (bl s))).1), fr_new (hF.of_below hb) (by omega) 0 _, fun e => hne e.symm⟩⟩)
      have HC := Lib.hid hcall
      clear h hI hP hQ hne hF hcl hle hnr hcall hy hm1 hm2
      generalize textOf s most (Wire.rd (bl s)) = r at *
      unfold nil at *
      go_enter Try.func27, Try.ntmps27
      go_wp2_with fail
      refine HC.out.mono ?_
      rintro e w2 ⟨rfl, w1, hK, hI1, rfl⟩
      have HD := Lib.hid (kp_left (n := r.2.1) hK hI1)
      have c0 := HD.out.2.cell 0
      clear hK hI1
      go_wp2
      go_ret
      refine ⟨by rw [HR.out]; rfl, ?_⟩
      rw [HR.out]
      exact HD.out.1
    · have hcl := tc_bad s most w.heap.size (w.heap.size + 1) _ hs hP hm1 hm2 hy
      obtain ⟨z1, z2⟩ := textOf_bad hy
      rw [z1, z2, cut_zero] at hnr
      have HR := Lib.hid hnr
      have hcall := read_bad 39 #[.pointer (some ⟨w.heap.size, 0, none⟩), .pointer (some ⟨w.heap.size + 1, 0, none⟩)] b s 0 (textOf s most (Wire.rd (bl s))).2.2 (Kp w b (w.heap.size + 1) 9 [.string nil]) _ hI hy enter39 (hcl.mono fun e w1 ⟨he, hw⟩ => ⟨he, by rw [← hw]; exact hI, by rw [← hw]; exact ⟨hQ, hF, fun e => hne e.symm⟩⟩)
      have HC := Lib.hid hcall
      clear h hI hP hQ hne hF hcl hnr hcall hy hm1 hm2 z1 z2
      generalize (textOf s most (Wire.rd (bl s))).2.2 = y at *
      unfold nil at *
      go_enter Try.func27, Try.ntmps27
      go_wp2_with fail
      refine HC.out.mono ?_
      rintro e w2 ⟨rfl, w1, hK, hI1, rfl⟩
      have HD := Lib.hid (kp_wrong (x := y) hK hI1)
      have c0 := HD.out.2.cell 0
      clear hK hI1
      go_wp2
      go_ret
      refine ⟨by rw [HR.out]; rfl, ?_⟩
      rw [HR.out]
      exact HD.out.1
end Go.Proofs.Ytiifdbagmbikpaa
