/- The contracts of the document's own Int, Text and Put. Conditions: a field; a text of at most 300 bytes. -/
import Derived.Test.YtiifdbagmbikpaaRefNum
import Derived.Test.YtiifdbagmbikpaaPut
namespace Go.Proofs.Ytiifdbagmbikpaa
open Go.RowKit

theorem refInt_any (n : Int) (w : World) (h1 : -9223372036854775808 ≤ n) (h2 : n ≤ 9223372036854775807) :
    Calls Try.prog 31 #[.int .i64 n] w fun e w' => e = .returned (.string (S (Wire.num (Wire.fold n)))) ∧ Below w.heap.size w w' := by
  have hlt := Wire.fold_lt n h1 h2
  by_cases h : 0 ≤ n
  · have he : 2 * n = ((Wire.fold n : Nat) : Int) := by unfold Wire.fold; rw [if_pos h]; omega
    have HC := Lib.hid (refNum_any (Wire.fold n) w hlt)
    generalize Wire.fold n = y at *
    go_enter Try.func31, Try.ntmps31
    go_wp2_with fail
    refine HC.out.mono ?_
    rintro e w1 ⟨rfl, hb⟩
    go_wp2
    go_ret
    exact ⟨rfl, hb⟩
  · have he : 2 * (-1 - n) + 1 = ((Wire.fold n : Nat) : Int) := by unfold Wire.fold; rw [if_neg h]; omega
    have HC := Lib.hid (refNum_any (Wire.fold n) w hlt)
    generalize Wire.fold n = y at *
    go_enter Try.func31, Try.ntmps31
    go_wp2_with fail
    refine HC.out.mono ?_
    rintro e w1 ⟨rfl, hb⟩
    go_wp2
    go_ret
    exact ⟨rfl, hb⟩
theorem refText_any (s : ByteArray) (w : World) (hs : s.size ≤ 300) :
    Calls Try.prog 32 #[.string s] w fun e w' => e = .returned (.string (S (Wire.num s.size ++ bl s))) ∧ Below w.heap.size w w' := by
  have hl := Wire.num_len10 s.size (by omega)
  have hz : (S (Wire.num s.size)).size = (Wire.num s.size).length := S_size _
  have HE : Hid (S (Wire.num s.size ++ bl s) = S (Wire.num s.size) ++ s) := by show _ = _; rw [S_append, S_bl]
  have HC := Lib.hid (refNum_any s.size w (by omega))
  generalize Wire.num s.size = l at *
  obtain ⟨A, hA⟩ : ∃ A, A = S l := ⟨_, rfl⟩
  rw [← hA] at hz HE HC
  have hz3 : ¬ 9223372036854775807 < l.length + s.size := by omega
  clear hA
  go_enter Try.func32, Try.ntmps32
  go_wp2_with fail
  refine HC.out.mono ?_
  rintro e w1 ⟨rfl, hb⟩
  go_wp2
  go_ret
  exact ⟨by rw [HE.out]; rfl, hb⟩
theorem conv_mid {w : World} {b o : Nat} {x : List Nat} (h : w.rangeAt b o (U8 x)) (c : Nat) : Sem.run Try.prog (convert 59 9 (.slice (some ⟨b, o, none⟩) x.length c)) w = .ok (.string (S x)) w := by
  have := run_convert_bytes_arg (P := Try.prog) (w := w) 59 5 und59 (by kernel_rfl) b o x.length c (x.map fun n : Nat => (n : Int)) (by simp) (fun i hi => by
    rw [h i _ (U8_get hi)]
    simp [hi]) 9 und9
  rw [this]
  simp [strOfNums, S]
set_option maxRecDepth 100000 in
theorem refPut_any (f : Fld) (w : World) (hf : f.Ok) (hs : f.s.size ≤ 300) :
    Calls Try.prog 15 #[f.val] w fun e w' => e = .returned (.string (S f.bytes)) ∧ Below w.heap.size w w' := by
  obtain ⟨W, hW⟩ : ∃ W, w.alloc (.cells f.cells.toArray 32) = W := ⟨_, rfl⟩
  have hP : Has W w.heap.size 32 f.cells := by rw [← hW]; exact Has.new _ _ _
  have hB : Below w.heap.size w W := by rw [← hW]; exact (Below.refl _ _).alloc (Nat.le_refl _) _
  have HB := Lib.hid hB
  have e0 : f.cells[0]? = some (.int .i64 f.kind) := rfl
  have e2 : f.cells[2]? = some (.int .u64 (f.n : Int)) := rfl
  have e3 : f.cells[3]? = some (.int .i64 f.i) := rfl
  have e4 : f.cells[4]? = some (.string f.s) := rfl
  have hR : (w.alloc (.cells f.cells.toArray 32)).rangeAt w.heap.size 5 (U8 f.h) := by
    have := hP.range 5 f.h.length
    rw [show (f.cells.drop 5).take f.h.length = U8 f.h by unfold Fld.cells; simp [U8]; exact List.take_of_length_le (by simp)] at this
    rw [hW]; exact this
  have HOk := Lib.hid hf
  have HW := Lib.hid hW
  unfold Fld.val
  by_cases k0 : f.kind = 0
  · have HBy := Lib.hid (show f.bytes = Wire.num f.n by unfold Fld.bytes; rw [if_pos k0])
    rw [k0] at e0
    clear hP hB hf k0 hW hR e3 e4
    go_enter Try.func15, Try.ntmps15
    go_wp2_with fail
    rw [HW.out]
    refine (refNum_any f.n W HOk.out.n2).mono ?_
    rintro e w1 ⟨rfl, hb⟩
    go_wp2
    go_ret
    exact ⟨by rw [HBy.out]; rfl, HB.out.trans (hb.mono HB.out.size)⟩
  · by_cases k1 : f.kind = 1
    · have HBy := Lib.hid (show f.bytes = Wire.num (Wire.fold f.i) by unfold Fld.bytes; rw [if_neg k0, if_pos k1])
      rw [k1] at e0
      clear hP hB hf k0 k1 hW hR e2 e4
      go_enter Try.func15, Try.ntmps15
      go_wp2_with fail
      rw [HW.out]
      refine (refInt_any f.i W HOk.out.i1 HOk.out.i2).mono ?_
      rintro e w1 ⟨rfl, hb⟩
      go_wp2
      go_ret
      exact ⟨by rw [HBy.out]; rfl, HB.out.trans (hb.mono HB.out.size)⟩
    · by_cases k2 : f.kind = 2
      · have HBy := Lib.hid (show f.bytes = Wire.num f.s.size ++ bl f.s by unfold Fld.bytes; rw [if_neg k0, if_neg k1, if_pos k2])
        rw [k2] at e0
        clear hP hB hf k0 k1 k2 hW hR e2 e3
        go_enter Try.func15, Try.ntmps15
        go_wp2_with fail
        rw [HW.out]
        refine (refText_any f.s W hs).mono ?_
        rintro e w1 ⟨rfl, hb⟩
        go_wp2
        go_ret
        exact ⟨by rw [HBy.out]; rfl, HB.out.trans (hb.mono HB.out.size)⟩
      · have HBy := Lib.hid (show f.bytes = f.h by unfold Fld.bytes; rw [if_neg k0, if_neg k1, if_neg k2])
        have t0 : (f.kind == 0) = false := by simpa using k0
        have t1 : (f.kind == 1) = false := by simpa using k1
        have t2 : (f.kind == 2) = false := by simpa using k2
        have hcv := conv_mid hR 32
        rw [hf.hl] at hcv
        clear hP hB hf k0 k1 k2 hW hR e2 e3 e4
        go_enter Try.func15, Try.ntmps15
        go_wp2
        go_ret
        exact ⟨by rw [HBy.out]; rfl, by rw [HW.out]; exact HB.out⟩
end Go.Proofs.Ytiifdbagmbikpaa
