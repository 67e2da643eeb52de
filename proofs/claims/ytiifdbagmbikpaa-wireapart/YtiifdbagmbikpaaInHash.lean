/- The contract of In.Hash. No condition. -/
import Derived.Test.YtiifdbagmbikpaaInNum
import Derived.Lib.BufferWrite
import Derived.Deep.WholeRow
namespace Go.Proofs.Ytiifdbagmbikpaa
open Go.RowKit

theorem run_copy_hash (w : World) (g : Nat) (s : ByteArray) (cs : List Value) (ty t : TypeId) (hg : Has w g t cs) (hc : cs.length = 32) (hs : 32 ≤ s.size) :
    (Builtin.copy_ #[59, 9] ty #[.slice (some ⟨g, 0, none⟩) 32 32, .string s]).run Try.prog w = .ok (goInt 32) (w.setRow g (U8 ((bl s).take 32)).toArray) := by
  have hinfo : (Try.prog.info? 5).map (·.size) = some 1 := by
    obtain ⟨i0, hi, hz0, hz1, hz2⟩ := info_parts info5
    rw [hi]; simp [hz1]
  have hlen : (U8 ((bl s).take 32)).length = 32 := by rw [U8_length, List.length_take, bl_length]; omega
  have hst := run_storeCells_at Try.prog g 0 t (U8 ((bl s).take 32)) 0 cs.toArray w hg (by rw [hlen]; simp [hc]) (U8_one _)
  have hmin : Nat.min s.size 32 = 32 := Nat.min_eq_right hs
  have htk : List.take 32 (List.map (fun b : UInt8 => Value.int IntKind.u8 (b.toNat : Int)) s.data.toList) = U8 ((bl s).take 32) := by
    simp [U8, bl, List.map_take]
    rfl
  rw [hlen] at hst
  simp only [Nat.add_zero, List.take_zero, List.nil_append, Nat.zero_add, List.drop_of_length_le (Nat.le_of_eq hc), List.append_nil] at hst
  cases hq : Try.prog.info? 5 with
  | none => simp [hq] at hinfo
  | some i =>
    simp [Builtin.copy_, run_underlying und59, Builtin.lenOf, Builtin.firstCells, sizeOf, typeInfo, hq, hmin]
    rw [htk, hst]
    simp [Result.andThen]
theorem und30 : Try.prog.underlying 30 = some (.array 32 5) := by kernel_rfl
theorem size30 : (Try.prog.info? 30).map (·.size) = some 32 := by kernel_rfl
theorem size30' {l : List Nat} (h : l.length = 32) : (Try.prog.info? 30).map (·.size) = some (U8 l).toArray.size := by rw [size30, List.size_toArray, U8_length, h]
def Z32 : List Nat := List.replicate 32 0
theorem hc_ok (s : ByteArray) (p : Nat) (w : World) (hs : 32 ≤ s.size) (h : Has w p 30 (U8 Z32)) :
    Calls Try.prog 42 #[.string s, .pointer (some ⟨p, 0, none⟩)] w fun e w' => e = .returned (.tuple #[.int .i64 ((32 : Nat) : Int), .int .i64 0]) ∧ w' = w.setRow p (U8 ((bl s).take 32)).toArray := by
  have hcp := run_copy_hash w p s (U8 Z32) 3 30 h rfl hs
  unfold goInt at hcp
  have t1 : decide ((s.size : Int) < 32) = false := by simp; omega
  clear h
  go_enter Try.func42, Try.ntmps42
  go_wp2
  go_ret2
  exact ⟨rfl, rfl⟩
theorem hc_bad (s : ByteArray) (p : Nat) (w : World) (hs : s.size < 32) :
    Calls Try.prog 42 #[.string s, .pointer (some ⟨p, 0, none⟩)] w fun e w' => e = .returned (.tuple #[.int .i64 ((0 : Nat) : Int), .int .i64 ((20 : Nat) : Int)]) ∧ w = w' := by
  go_enter Try.func42, Try.ntmps42
  go_wp2
  go_ret2
  exact ⟨rfl, rfl⟩
/-- What Hash reads, what is left, what is wrong. -/
def hashRes (s : ByteArray) (x : Nat) : List Nat × ByteArray × Nat := if x ≠ 0 then (Z32, s, x) else if s.size < 32 then (Z32, s, 20) else ((bl s).take 32, cut s 32, 0)
theorem hash_len (s : ByteArray) (x : Nat) : (hashRes s x).1.length = 32 := by
  unfold hashRes
  split
  · rfl
  · split
    · rfl
    · show ((bl s).take 32).length = 32
      rw [List.length_take, bl_length]; omega
theorem hash_bytes (s : ByteArray) (x : Nat) : ∀ c ∈ (hashRes s x).1, c < 256 := by
  unfold hashRes
  split
  · intro c hc; rw [List.eq_of_mem_replicate hc]; omega
  · split
    · intro c hc; rw [List.eq_of_mem_replicate hc]; omega
    · intro c hc; exact bl_bytes s c (List.mem_of_mem_take hc)
theorem fr_row {b g : Nat} {w w1 : World} (h : Fr b nul w w1) (hg : w.heap.size ≤ g) (cs : Array Value) : Fr b nul w (w1.setRow g cs) :=
  ⟨h.os, h.tape, h.output, by have := h.size; simpa using this, fun k hk hb hv => by rw [setRow_other w1 g k cs (by omega)]; exact h.block k hk hb hv⟩
set_option maxRecDepth 100000 in
set_option maxHeartbeats 1000000 in
/-- Behind the reading: what was read is loaded, and laid as the result. -/
theorem inHash_any (b : Nat) (s : ByteArray) (x : Nat) (w : World) (h : In w b s x) :
    Calls Try.prog 33 #[.pointer (some ⟨b, 0, none⟩)] w fun e w' => e = .returned (.agg (U8 (hashRes s x).1).toArray) ∧ Did w b (hashRes s x).2.1 (hashRes s x).2.2 w' := by
  have hmf := mf
  obtain ⟨W, hW⟩ : ∃ W, (w.alloc (.cells (U8 Z32).toArray 30)).alloc (.cells (U8 Z32).toArray 30) = W := ⟨_, rfl⟩
  have hR : Has W w.heap.size 30 (U8 Z32) := by rw [← hW]; exact (Has.new w 30 (U8 Z32)).alloc _
  have hQ : Has W (w.heap.size + 1) 30 (U8 Z32) := by rw [← hW]; exact Has.new' _ 30 (U8 Z32) _ _ rfl (by simp)
  have hI : In W b s x := by rw [← hW]; exact (Has.alloc h _).alloc _
  have hF : Fr b nul w W := by rw [← hW]; exact ((Fr.refl _ _ _).alloc _).alloc _
  have hne : b ≠ w.heap.size + 1 := by have := h.lt; omega
  have hnr : b ≠ w.heap.size := by have := h.lt; omega
  have hall : Calls Try.prog 35 #[.pointer (some ⟨b, 0, none⟩), .func (.func 42) #[] #[.pointer (some ⟨w.heap.size + 1, 0, none⟩)]] W fun e w' => e = .returned (.tuple #[]) ∧ Did w b (hashRes s x).2.1 (hashRes s x).2.2 w' ∧ Has w' (w.heap.size + 1) 30 (U8 (hashRes s x).1) ∧ Has w' w.heap.size 30 (U8 Z32) := by
    by_cases hx : x ≠ 0
    · rw [show hashRes s x = (Z32, s, x) by unfold hashRes; rw [if_pos hx]]
      refine (read_not _ b s x W hx hI).mono ?_
      rintro e w1 ⟨rfl, rfl⟩
      exact ⟨rfl, ⟨hI, hF⟩, hQ, hR⟩
    · obtain rfl : x = 0 := by omega
      by_cases hs : s.size < 32
      · rw [show hashRes s 0 = (Z32, s, 20) by unfold hashRes; rw [if_neg (by omega), if_pos hs]]
        refine (read_bad 42 #[.pointer (some ⟨w.heap.size + 1, 0, none⟩)] b s 0 20 (fun w1 => w1 = W) W hI (by omega) enter42 ((hc_bad s (w.heap.size + 1) W hs).mono fun e w1 ⟨he, hw⟩ => ⟨he, by rw [← hw]; exact hI, hw.symm⟩)).mono ?_
        rintro e w2 ⟨rfl, w1, rfl, hI1, rfl⟩
        exact ⟨rfl, ⟨by unfold In; simpa using Has.set_ hI1 1 (.int .i64 ((20 : Nat) : Int)), hF.set 1 _⟩, hQ.far (by simpa using hne.symm) _, hR.far (by simpa using hnr.symm) _⟩
      · rw [show hashRes s 0 = ((bl s).take 32, cut s 32, 0) by unfold hashRes; rw [if_neg (by omega), if_neg hs]]
        refine (read_ok 42 #[.pointer (some ⟨w.heap.size + 1, 0, none⟩)] b s 32 (fun w1 => w1 = W.setRow (w.heap.size + 1) (U8 ((bl s).take 32)).toArray) W hI (by omega) enter42 ((hc_ok s (w.heap.size + 1) W (by omega) hQ).mono fun e w1 ⟨he, hw⟩ => ⟨he, by rw [hw]; exact (setRow_other W _ b _ hne).trans hI, hw⟩)).mono ?_
        rintro e w2 ⟨rfl, w1, rfl, hI1, rfl⟩
        refine ⟨rfl, ⟨by unfold In; simpa using Has.set_ hI1 0 (.string (cut s 32)), (fr_row hF (by omega) _).set 0 _⟩, Has.far (setRow_heap W _ _ _ 30 (0, 0) hQ) (by simpa using hne.symm) _, Has.far ((setRow_other W _ w.heap.size _ (by omega)).trans hR) (by simpa using hnr.symm) _⟩
  have HC := Lib.hid hall
  have HNr := Lib.hid hnr
  have HSz := Lib.hid (size30' (hash_len s x))
  have HLn := Lib.hid (hash_len s x)
  have HW := Lib.hid hW
  clear h hR hQ hI hF hne hnr hall hW
  generalize hashRes s x = r at *
  go_enter Try.func33, Try.ntmps33
  go_wp2_with fail
  change Calls Try.prog 35 _ ((w.alloc (.cells (U8 Z32).toArray 30)).alloc (.cells (U8 Z32).toArray 30)) _
  rw [HW.out]
  refine HC.out.mono ?_
  rintro e w2 ⟨rfl, hd, hq, hr⟩
  have HQ := Lib.hid hq
  have HR := Lib.hid hr
  have HD := Lib.hid hd
  clear hd hq hr HC
  go_wp2_with (first
    | (refine wpList_load_row rfl 30 (.tmp 3) rfl (w.heap.size + 1) rfl 30 _ (0, 0) (.array 32 5) HQ.out und30 rfl HSz.out ?_)
    | (refine wpList_store_row rfl 30 (.tmp 2) (.tmp 7) rfl w.heap.size _ rfl rfl 30 _ HR.out HSz.out (by rw [List.size_toArray, List.size_toArray, U8_length, U8_length, HLn.out]; rfl) (all_oneCell_toArray (U8_one _)) ?_))
  refine bodyPost_ret (results_cell_row rfl _ _ w.heap.size 30 _ (0, 0) (.array 32 5) rfl (setRow_heap w2 _ _ _ 30 _ HR.out) und30 rfl HSz.out) rfl ⟨rfl, ?_⟩
  exact ⟨(setRow_other w2 _ b _ HNr.out).trans HD.out.1, fr_row HD.out.2 (Nat.le_refl _) _⟩
end Go.Proofs.Ytiifdbagmbikpaa
