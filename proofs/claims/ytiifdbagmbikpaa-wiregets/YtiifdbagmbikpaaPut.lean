/- The contract of the statements' own put: a field written. Conditions: a field's text has at most 300 bytes; what was written at most 100000. -/
import Derived.Test.YtiifdbagmbikpaaFld
import Derived.Test.YtiifdbagmbikpaaOutMore
import Derived.Test.YtiifdbagmbikpaaHash
import Derived.Test.YtiifdbagmbikpaaInHash
import Derived.Deep.MidRow
namespace Go.Proofs.Ytiifdbagmbikpaa
open Go.RowKit

/-- A field's bytes. -/
def Fld.bytes (f : Fld) : List Nat := if f.kind = 0 then Wire.num f.n else if f.kind = 1 then Wire.num (Wire.fold f.i) else if f.kind = 2 then Wire.num f.s.size ++ bl f.s else f.h
theorem Fld.bytes_le {f : Fld} (h : f.Ok) (hs : f.s.size ≤ 300) : f.bytes.length ≤ 310 := by
  unfold Fld.bytes
  have h1 := Wire.num_len10 f.n h.n2
  have h2 := Wire.num_len10 (Wire.fold f.i) (Wire.fold_lt f.i h.i1 h.i2)
  have h3 := Wire.num_len10 f.s.size (by omega)
  have h4 := h.hl
  split
  · omega
  · split
    · omega
    · split
      · rw [List.length_append, bl_length]; omega
      · omega
theorem Fld.bytes_lt {f : Fld} (h : f.Ok) : ∀ c ∈ f.bytes, c < 256 := by
  unfold Fld.bytes
  split
  · exact Wire.num_bytes _
  · split
    · exact Wire.num_bytes _
    · split
      · intro c hc
        rcases List.mem_append.1 hc with hc | hc
        · exact Wire.num_bytes _ c hc
        · exact bl_bytes _ c hc
      · exact h.hb
theorem wrote_from {w W w' : World} {b : Nat} {v : Value} {l : List Nat} (hB : Below w.heap.size w W) (h : Wrote W b v l w') : Wrote w b v l w' := by
  obtain ⟨v', h1, h2, h3⟩ := h
  refine ⟨v', h1, ⟨h2.os.trans hB.os, h2.tape.trans hB.tape, h2.output.trans hB.output, Nat.le_trans hB.size h2.size, fun k hk hb hv => (h2.block k (Nat.lt_of_lt_of_le hk hB.size) hb hv).trans (hB.block k hk)⟩, ?_⟩
  rcases h3 with h3 | ⟨k, h3, hk⟩
  · exact .inl h3
  · exact .inr ⟨k, h3, Nat.le_trans hB.size hk⟩
set_option maxRecDepth 100000 in
set_option maxHeartbeats 1000000 in
theorem put_any (b : Nat) (f : Fld) (v : Value) (l : List Nat) (w : World) (hf : f.Ok) (hs : f.s.size ≤ 300) (h : Out w b v l) (hl : l.length ≤ 50000) :
    Calls Try.prog 14 #[.pointer (some ⟨b, 0, none⟩), f.val] w fun e w' => e = .returned (.tuple #[]) ∧ Wrote w b v (l ++ f.bytes) w' := by
  obtain ⟨W, hW⟩ : ∃ W, w.alloc (.cells f.cells.toArray 32) = W := ⟨_, rfl⟩
  have hP : Has W w.heap.size 32 f.cells := by rw [← hW]; exact Has.new _ _ _
  have hB : Below w.heap.size w W := by rw [← hW]; exact (Below.refl _ _).alloc (Nat.le_refl _) _
  have HB := Lib.hid hB
  have HO := Lib.hid (h.below hB)
  have e0 : f.cells[0]? = some (.int .i64 f.kind) := rfl
  have e2 : f.cells[2]? = some (.int .u64 (f.n : Int)) := rfl
  have e3 : f.cells[3]? = some (.int .i64 f.i) := rfl
  have e4 : f.cells[4]? = some (.string f.s) := rfl
  have hR : (w.alloc (.cells f.cells.toArray 32)).rangeAt w.heap.size 5 (U8 f.h) := by
    have := hP.range 5 f.h.length
    rw [show (f.cells.drop 5).take f.h.length = U8 f.h by unfold Fld.cells; simp [U8]; exact List.take_of_length_le (by simp)] at this
    rw [hW]; exact this
  have HR := Lib.hid hR
  have HSz : Hid ((Try.prog.info? 30).map (·.size) = some (U8 f.h).length) := by show _ = _; rw [size30, U8_length, hf.hl]
  have HOk := Lib.hid hf
  have HW := Lib.hid hW
  unfold Fld.val
  by_cases k0 : f.kind = 0
  · have HBy := Lib.hid (show f.bytes = Wire.num f.n by unfold Fld.bytes; rw [if_pos k0])
    rw [k0] at e0
    clear h hP hB hf k0 hW hR e3 e4 HR
    go_enter Try.func14, Try.ntmps14
    go_wp2_with fail
    rw [HW.out]
    refine (outNum_any b f.n v l W HOk.out.n2 HO.out (by omega)).mono ?_
    rintro e w1 ⟨rfl, hw⟩
    go_wp2
    go_end0
    rw [HBy.out]
    exact ⟨rfl, wrote_from HB.out hw⟩
  · by_cases k1 : f.kind = 1
    · have HBy := Lib.hid (show f.bytes = Wire.num (Wire.fold f.i) by unfold Fld.bytes; rw [if_neg k0, if_pos k1])
      rw [k1] at e0
      clear h hP hB hf k0 k1 hW hR e2 e4 HR
      go_enter Try.func14, Try.ntmps14
      go_wp2_with fail
      rw [HW.out]
      refine (outInt_any b f.i v l W HOk.out.i1 HOk.out.i2 HO.out (by omega)).mono ?_
      rintro e w1 ⟨rfl, hw⟩
      go_wp2
      go_end0
      rw [HBy.out]
      exact ⟨rfl, wrote_from HB.out hw⟩
    · by_cases k2 : f.kind = 2
      · have HBy := Lib.hid (show f.bytes = Wire.num f.s.size ++ bl f.s by unfold Fld.bytes; rw [if_neg k0, if_neg k1, if_pos k2])
        rw [k2] at e0
        clear h hP hB hf k0 k1 k2 hW hR e2 e3 HR
        go_enter Try.func14, Try.ntmps14
        go_wp2_with fail
        rw [HW.out]
        refine (outText_any b f.s v l W (by omega) HO.out (by omega)).mono ?_
        rintro e w1 ⟨rfl, hw⟩
        go_wp2
        go_end0
        rw [HBy.out]
        exact ⟨rfl, wrote_from HB.out hw⟩
      · have HBy := Lib.hid (show f.bytes = f.h by unfold Fld.bytes; rw [if_neg k0, if_neg k1, if_neg k2])
        have t0 : (f.kind == 0) = false := by simpa using k0
        have t1 : (f.kind == 1) = false := by simpa using k1
        have t2 : (f.kind == 2) = false := by simpa using k2
        clear h hP hB hf k0 k1 k2 hW hR e2 e3 e4
        go_enter Try.func14, Try.ntmps14
        go_wp2_with (refine wpList_load_mid rfl 30 (.tmp 7) rfl w.heap.size 5 rfl (U8 f.h) (.array 32 5) HR.out und30 rfl HSz.out ?_)
        rw [HW.out]
        refine (outHash_any b f.h v l W HOk.out.hl HO.out (by omega)).mono ?_
        rintro e w1 ⟨rfl, hw⟩
        go_wp2
        go_end0
        rw [HBy.out]
        exact ⟨rfl, wrote_from HB.out hw⟩
end Go.Proofs.Ytiifdbagmbikpaa
