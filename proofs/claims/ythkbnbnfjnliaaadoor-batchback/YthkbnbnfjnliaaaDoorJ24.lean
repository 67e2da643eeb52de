/- The contracts of In.read, In.Num, In.Int. Conditions: none. -/
import Derived.Test.YthkbnbnfjnliaaaDoorJ23
import Derived.Test.YthkbnbnfjnliaaaDoorJ14
import Derived.Lib.Strings
import Derived.Lib.Walk
import Derived.Lib.BufferWrite
import Derived.Lib.UnsafeStr
import Derived.Laws.MakeOwn
namespace Go.Proofs.YthkbnbnfjnliaaaDoor
open Go.RowKit
set_option maxRecDepth 100000

/-- What stands behind the first k bytes. -/
def cut (s : ByteArray) (k : Nat) : ByteArray := s.extract k s.size
theorem read_not (f : Value) (b : Nat) (s : ByteArray) (x : Nat) (w : World) (hx : x ≠ 0) (h : In w b s x) :
    Calls Tryd.prog 32 #[.pointer (some ⟨b, 0, none⟩), f] w fun e w' => e = .returned (.tuple #[]) ∧ w = w' := by
  have c1 : w.cell? ⟨b, 1, none⟩ = some (.int .i64 (x : Int)) := h.cell 1
  have t1 : ((x : Int) != 0) = true := by simp; omega
  clear h
  go_enter Tryd.func32, Tryd.ntmps32
  go_wp2
  refine bodyPost_ret (results_none rfl _ _ _) rfl ?_
  exact ⟨rfl, rfl⟩
set_option maxHeartbeats 1000000 in
theorem read_ok (F : Nat) (caps : Array Value) (b : Nat) (s : ByteArray) (n : Nat) (R : World → Prop) (w : World) (h : In w b s 0) (hn : n ≤ s.size)
    (hE : ∀ args w, (callFunc F args).run Tryd.prog w = .ok (.enter F args) w) (hF : Calls Tryd.prog F (#[.string s] ++ caps) w fun e w1 => e = .returned (.tuple #[.int .i64 (n : Int), .int .i64 0]) ∧ In w1 b s 0 ∧ R w1) :
    Calls Tryd.prog 32 #[.pointer (some ⟨b, 0, none⟩), .func (.func F) #[] caps] w fun e w' => e = .returned (.tuple #[]) ∧ ∃ w1, R w1 ∧ In w1 b s 0 ∧ w' = w1.setCell ⟨b, 0, none⟩ (.string (cut s n)) := by
  have c0 : w.cell? ⟨b, 0, none⟩ = some (.string s) := h.cell 0
  have c1 : w.cell? ⟨b, 1, none⟩ = some (.int .i64 0) := h.cell 1
  have HF := Lib.hid hF
  clear h hF
  go_enter Tryd.func32, Tryd.ntmps32
  go_wp2_with fail
  refine HF.out.mono ?_
  rintro e w1 ⟨rfl, hi, hr⟩
  have HI := Lib.hid hi
  have HR := Lib.hid hr
  have d0 : w1.cell? ⟨b, 0, none⟩ = some (.string s) := hi.cell 0
  have f0 : w1.frozen? ⟨b, 0, none⟩ = false := hi.open_ 0
  clear hi hr HF c0 c1
  go_wp2
  go_end0
  exact ⟨rfl, w1, HR.out, HI.out, rfl⟩
set_option maxHeartbeats 1000000 in
theorem read_bad (F : Nat) (caps : Array Value) (b : Nat) (s : ByteArray) (n x : Nat) (R : World → Prop) (w : World) (h : In w b s 0) (hx : x ≠ 0)
    (hE : ∀ args w, (callFunc F args).run Tryd.prog w = .ok (.enter F args) w) (hF : Calls Tryd.prog F (#[.string s] ++ caps) w fun e w1 => e = .returned (.tuple #[.int .i64 (n : Int), .int .i64 (x : Int)]) ∧ In w1 b s 0 ∧ R w1) :
    Calls Tryd.prog 32 #[.pointer (some ⟨b, 0, none⟩), .func (.func F) #[] caps] w fun e w' => e = .returned (.tuple #[]) ∧ ∃ w1, R w1 ∧ In w1 b s 0 ∧ w' = w1.setCell ⟨b, 1, none⟩ (.int .i64 (x : Int)) := by
  have c0 : w.cell? ⟨b, 0, none⟩ = some (.string s) := h.cell 0
  have c1 : w.cell? ⟨b, 1, none⟩ = some (.int .i64 0) := h.cell 1
  have t1 : ((x : Int) != 0) = true := by simp; omega
  have HF := Lib.hid hF
  clear h hF
  go_enter Tryd.func32, Tryd.ntmps32
  go_wp2_with fail
  refine HF.out.mono ?_
  rintro e w1 ⟨rfl, hi, hr⟩
  have HI := Lib.hid hi
  have HR := Lib.hid hr
  have d0 : w1.cell? ⟨b, 1, none⟩ = some (.int .i64 0) := hi.cell 1
  have f0 : w1.frozen? ⟨b, 1, none⟩ = false := hi.open_ 1
  clear hi hr HF c0 c1
  go_wp2
  refine bodyPost_ret (results_none rfl _ _ _) rfl ?_
  exact ⟨rfl, w1, HR.out, HI.out, rfl⟩
theorem enter_of {f : FuncId} {fn : Func} {c : Code} (hf : Tryd.prog.funcs[f]? = some fn) (hname : (fn.name == "runtime.NumGoroutine") = false) (hb : fn.body = some c) (args : Array Value) (w : World) :
    (callFunc f args).run Tryd.prog w = .ok (.enter f args) w := by
  have h1 : fn.name ≠ "runtime.NumGoroutine" := by simpa using hname
  simp [callFunc, hf, h1, hb]
theorem enter33 : ∀ args w, (callFunc 33 args).run Tryd.prog w = .ok (.enter 33 args) w := enter_of Tryd.func33 (by kernel_rfl) rfl
theorem enter37 : ∀ args w, (callFunc 37 args).run Tryd.prog w = .ok (.enter 37 args) w := enter_of Tryd.func37 (by kernel_rfl) rfl
theorem numClosure_any (s : ByteArray) (p : Nat) (u : Value) (w : World) (h : Has w p 41 [u]) :
    Calls Tryd.prog 33 #[.string s, .pointer (some ⟨p, 0, none⟩)] w fun e w' => e = .returned (.tuple #[.int .i64 ((Wire.rd (bl s)).2.1 : Int), .int .i64 ((Wire.rd (bl s)).2.2 : Int)]) ∧ w' = w.setCell ⟨p, 0, none⟩ (.int .u64 ((Wire.rd (bl s)).1 : Int)) := by
  have c0 : w.cell? ⟨p, 0, none⟩ = some u := h.cell 0
  have f0 : w.frozen? ⟨p, 0, none⟩ = false := h.open_ 0
  have HN := Lib.hid (number_any s w)
  clear h
  generalize Wire.rd (bl s) = r at *
  go_enter Tryd.func33, Tryd.ntmps33
  go_wp2_with fail
  refine HN.out.mono ?_
  rintro e w1 ⟨rfl, rfl⟩
  unfold rdVal
  go_wp2
  go_ret2
  exact ⟨rfl, rfl⟩
/-- What Num reads, what is left, what is wrong. -/
def numRes (s : ByteArray) (x : Nat) : Nat × ByteArray × Nat := if x ≠ 0 then (0, s, x) else if (Wire.rd (bl s)).2.2 = 0 then ((Wire.rd (bl s)).1, cut s (Wire.rd (bl s)).2.1, 0) else (0, s, (Wire.rd (bl s)).2.2)
theorem mf : ∀ (fn : Fn) (first cap : Array Value) (w : World), (Instr.makeFunc fn first cap).run Tryd.prog w = .ok (.func fn first cap) w := fun _ _ _ _ => rfl
/-- Where a reader keeps what it reads: block p, new; nothing else has turned. -/
def Kp (w : World) (b p : Nat) (t : TypeId) (cs : List Value) (w1 : World) : Prop := Has w1 p t cs ∧ Fr b nul w w1 ∧ p ≠ b
theorem kp_left {w w1 : World} {b p : Nat} {t : TypeId} {cs : List Value} {s : ByteArray} {n : Nat} (h : Kp w b p t cs w1) (hi : In w1 b s 0) : Did w b (cut s n) 0 (w1.setCell ⟨b, 0, none⟩ (.string (cut s n))) ∧ Has (w1.setCell ⟨b, 0, none⟩ (.string (cut s n))) p t cs :=
  ⟨⟨by unfold In; simpa using Has.set_ hi 0 (.string (cut s n)), h.2.1.set 0 _⟩, h.1.far (by simpa using h.2.2) _⟩
theorem kp_wrong {w w1 : World} {b p : Nat} {t : TypeId} {cs : List Value} {s : ByteArray} {x : Nat} (h : Kp w b p t cs w1) (hi : In w1 b s 0) : Did w b s x (w1.setCell ⟨b, 1, none⟩ (.int .i64 (x : Int))) ∧ Has (w1.setCell ⟨b, 1, none⟩ (.int .i64 (x : Int))) p t cs :=
  ⟨⟨by unfold In; simpa using Has.set_ hi 1 (.int .i64 (x : Int)), h.2.1.set 1 _⟩, h.1.far (by simpa using h.2.2) _⟩
theorem fr_new {b g : Nat} {w w1 : World} (h : Fr b nul w w1) (hg : w.heap.size ≤ g) (i : Nat) (u : Value) : Fr b nul w (w1.setCell ⟨g, i, none⟩ u) :=
  ⟨h.os, h.tape, h.output, by have := h.size; simpa [World.setCell] using this, fun k hk hb hv => by rw [Below.heap_setCell w1 ⟨g, i, none⟩ u k (by show k ≠ g; omega)]; exact h.block k hk hb hv⟩
set_option maxHeartbeats 1000000 in
theorem inNum_any (b : Nat) (s : ByteArray) (x : Nat) (w : World) (h : In w b s x) :
    Calls Tryd.prog 14 #[.pointer (some ⟨b, 0, none⟩)] w fun e w' => e = .returned (.int .u64 ((numRes s x).1 : Int)) ∧ Did w b (numRes s x).2.1 (numRes s x).2.2 w' := by
  have hmf := mf
  have hP : Has (w.alloc (.cells #[.int .u64 0] 41)) w.heap.size 41 [.int .u64 0] := Has.new _ _ _
  have hI : In (w.alloc (.cells #[.int .u64 0] 41)) b s x := Has.alloc h _
  have hF : Fr b nul w (w.alloc (.cells #[.int .u64 0] 41)) := (Fr.refl _ _ _).alloc _
  have hne : b ≠ w.heap.size := Nat.ne_of_lt h.lt
  by_cases hx : x ≠ 0
  · have HR := Lib.hid (show numRes s x = (0, s, x) by unfold numRes; rw [if_pos hx])
    have HI := Lib.hid hI
    have HF := Lib.hid hF
    have c0 := hP.cell 0
    have HX := Lib.hid hx
    clear h hI hP hne hF hx
    go_enter Tryd.func14, Tryd.ntmps14
    go_wp2_with fail
    refine (read_not _ b s x _ HX.out HI.out).mono ?_
    rintro e w1 ⟨rfl, rfl⟩
    go_wp2
    go_ret
    refine ⟨by rw [HR.out]; rfl, ?_⟩
    rw [HR.out]
    exact ⟨HI.out, HF.out⟩
  · obtain rfl : x = 0 := by omega
    clear hx
    have hcl := numClosure_any s w.heap.size _ _ hP
    have hin := fun u => Has.far (p := ⟨w.heap.size, 0, none⟩) hI hne u
    have hk := fun u : Value => (show Kp w b w.heap.size 41 [u] ((w.alloc (.cells #[.int .u64 0] 41)).setCell ⟨w.heap.size, 0, none⟩ u) from ⟨by simpa using hP.set_ 0 u, fr_new hF (Nat.le_refl _) 0 u, fun e => hne e.symm⟩)
    have hlen : (Wire.rd (bl s)).2.2 = 0 → (Wire.rd (bl s)).2.1 ≤ s.size := fun h0 => by
      have := (Wire.rd_back (bl s) (Wire.rd (bl s)).1 (Wire.rd (bl s)).2.1 (bl_bytes s) (by rw [← h0])).1
      rwa [bl_length] at this
    have hnr : numRes s 0 = if (Wire.rd (bl s)).2.2 = 0 then ((Wire.rd (bl s)).1, cut s (Wire.rd (bl s)).2.1, 0) else (0, s, (Wire.rd (bl s)).2.2) := by unfold numRes; rw [if_neg (by omega)]
    have hz : (Wire.rd (bl s)).2.2 ≠ 0 → (Wire.rd (bl s)).1 = 0 := fun h0 => by
      rcases Wire.rd_err (bl s) with h | h | h
      · exact absurd h h0
      · rw [h]
      · rw [h]
    generalize Wire.rd (bl s) = r at *
    obtain ⟨v, k, y⟩ := r
    simp only at hcl hlen hnr hz
    by_cases hy : y = 0
    · subst hy
      rw [if_pos rfl] at hnr
      have HR := Lib.hid hnr
      have hcall := read_ok 33 #[.pointer (some ⟨w.heap.size, 0, none⟩)] b s k (Kp w b w.heap.size 41 [.int .u64 (v : Int)]) _ hI (hlen rfl) enter33 (hcl.mono fun e w1 ⟨he, hw⟩ => ⟨he, by rw [hw]; exact hin _, by rw [hw]; exact hk _⟩)
      have HC := Lib.hid hcall
      clear h hI hP hne hF hcl hin hk hlen hnr hz hcall
      go_enter Tryd.func14, Tryd.ntmps14
      go_wp2_with fail
      refine HC.out.mono ?_
      rintro e w2 ⟨rfl, w1, hK, hI1, rfl⟩
      have HD := Lib.hid (kp_left (n := k) hK hI1)
      have c0 := HD.out.2.cell 0
      clear hK hI1
      go_wp2
      go_ret
      refine ⟨by rw [HR.out]; rfl, ?_⟩
      rw [HR.out]
      exact HD.out.1
    · rw [if_neg hy] at hnr
      have HR := Lib.hid hnr
      obtain rfl : v = 0 := hz hy
      have hcall := read_bad 33 #[.pointer (some ⟨w.heap.size, 0, none⟩)] b s k y (Kp w b w.heap.size 41 [.int .u64 ((0 : Nat) : Int)]) _ hI hy enter33 (hcl.mono fun e w1 ⟨he, hw⟩ => ⟨he, by rw [hw]; exact hin _, by rw [hw]; exact hk _⟩)
      have HC := Lib.hid hcall
      clear h hI hP hne hF hcl hin hk hlen hnr hz hcall hy
      go_enter Tryd.func14, Tryd.ntmps14
      go_wp2_with fail
      refine HC.out.mono ?_
      rintro e w2 ⟨rfl, w1, hK, hI1, rfl⟩
      have HD := Lib.hid (kp_wrong (x := y) hK hI1)
      have c0 := HD.out.2.cell 0
      clear hK hI1
      go_wp2
      go_ret
      refine ⟨by rw [HR.out]; rfl, ?_⟩
      rw [HR.out]
      exact HD.out.1
theorem num_in64 (s : ByteArray) (x : Nat) : (numRes s x).1 < 18446744073709551616 := by
  unfold numRes
  split
  · simp
  · split
    · rename_i h
      exact (Wire.rd_back (bl s) _ (Wire.rd (bl s)).2.1 (bl_bytes s) (by rw [← h])).2.2.2
    · simp
theorem inInt_any (b : Nat) (s : ByteArray) (x : Nat) (w : World) (h : In w b s x) :
    Calls Tryd.prog 36 #[.pointer (some ⟨b, 0, none⟩)] w fun e w' => e = .returned (.int .i64 (Wire.unfold_ (numRes s x).1)) ∧ Did w b (numRes s x).2.1 (numRes s x).2.2 w' := by
  have HC := Lib.hid (inNum_any b s x w h)
  have hlt := num_in64 s x
  have HU := Lib.hid (fun w => unfolded_any (numRes s x).1 w hlt)
  clear h hlt
  generalize numRes s x = r at *
  go_enter Tryd.func36, Tryd.ntmps36
  go_wp2_with fail
  refine HC.out.mono ?_
  rintro e w1 ⟨rfl, hd⟩
  have HD := Lib.hid hd
  clear hd
  go_wp2_with fail
  refine (HU.out w1).mono ?_
  rintro e w2 ⟨rfl, rfl⟩
  go_wp2
  go_ret
  exact ⟨rfl, HD.out⟩
end Go.Proofs.YthkbnbnfjnliaaaDoor
/- The contracts of strings.Clone. Conditions: no longer than memory bears. -/
namespace Go.Proofs.YthkbnbnfjnliaaaDoor
open Go.RowKit
set_option maxRecDepth 100000

theorem und77 : Tryd.prog.underlying 98 = some (.pointer 5) := by kernel_rfl
set_option maxHeartbeats 4000000 in
set_option maxRecDepth 100000 in
theorem clone_in (s : ByteArray) (w : World) (hlim : s.size ≤ 281474976710656) :
    Calls Tryd.prog 51 #[.string s] w fun e w' => e = .returned (.string s) ∧ Below w.heap.size w w' := by
  by_cases h0 : s.size = 0
  · have hs : s = ⟨#[]⟩ := by
      apply ByteArray.ext
      exact Array.eq_empty_of_size_eq_zero h0
    subst hs
    go_enter Tryd.func51, Tryd.ntmps51
    go_wp2
    go_ret
    exact ⟨rfl, Below.refl _ _⟩
  · obtain ⟨i0, hi, hz0, hz1, hz2⟩ := info_parts info5w
    have hinfo : (Tryd.prog.info? 5).map (·.size) = some 1 := by rw [hi]; simp [hz1]
    have hco : Tryd.prog.cellsOf 5 = 1 := by simp [Program.cellsOf, hi, hz1]
    obtain ⟨M, hM⟩ : ∃ M, M = madeCells (Value.int .u8 0).cells (((s.size : Nat) : Int).toNat * i0.size) := ⟨_, rfl⟩
    have hMs : M.size = s.size := by rw [hM, size_madeCells, hz1]; simp
    have hmk : ∀ W : World, (Instr.makeSlice 71 (.int .i64 (s.size : Int)) (.int .i64 (s.size : Int))).run Tryd.prog W = .ok (.slice (some ⟨W.heap.size, 0, none⟩) s.size s.size) (W.alloc (.cells M 5)) := fun W => by
      have h := run_make (P := Tryd.prog) W 71 5 i0 (.int .u8 0) und59 hi hz0 .i64 .i64 (s.size : Int) (s.size : Int) (by omega) (by omega) (by rw [hz2]; omega) (by omega)
      rw [← hM] at h
      simpa using h
    clear hM
    have hcp := Lib.run_copy_row_string (P := Tryd.prog) (w.alloc (.cells M 5)) 71 9 3 5 w.heap.size 0 s.size s.size s M 5 und59 hinfo (heap_alloc_new w _) (Nat.le_refl _) (by omega)
    obtain ⟨Y, hY⟩ : ∃ Y, Y = (M.toList.take 0 ++ Lib.byteCells s.data.toList ++ M.toList.drop (0 + s.size)).toArray := ⟨_, rfl⟩
    rw [← hY] at hcp
    have hYl : Y.toList = Lib.byteCells s.data.toList := by
      rw [hY, List.toList_toArray, List.take_zero, List.nil_append, List.drop_of_length_le (by rw [Array.length_toList]; omega), List.append_nil]
    have hYs : Y.size = s.size := by rw [← Array.length_toList, hYl, Lib.byteCells_length, ← Lib.size_eq]
    have hgY : ((w.alloc (.cells M 5)).setRow w.heap.size Y).heap[w.heap.size]? = some (.cells Y 5 (0, 0)) := setRow_heap _ _ M _ 5 (0, 0) (heap_alloc_new w _)
    have hne : s.data.toList ≠ [] := fun e => h0 (by rw [Lib.size_eq, e]; rfl)
    have hUS := Lib.run_unsafeString_row (P := Tryd.prog) ((w.alloc (.cells M 5)).setRow w.heap.size Y) 98 3 9 5 und77 hco w.heap.size Y.size (by unfold World.shape?; rw [hgY]) s.data.toList hne (by rw [← Lib.size_eq]; omega) (by rw [← Lib.size_eq]; omega)
      (fun j x hx => Lib.cells_of_row hgY Y.size j _ (by rw [List.take_of_length_le (by rw [Array.length_toList]; exact Nat.le_refl _), hYl]; simp [Lib.byteCells, hx]))
    rw [← Lib.size_eq] at hUS
    clear hY
    go_enter Tryd.func51, Tryd.ntmps51
    go_wp2
    go_ret
    have hb1 : Below w.heap.size w (w.alloc (.cells M 5)) := (Below.refl _ w).alloc (Nat.le_refl _) _
    have hb2 : Below w.heap.size (w.alloc (.cells M 5)) ((w.alloc (.cells M 5)).setRow w.heap.size Y) := ⟨rfl, rfl, rfl, by simp, fun k hk => setRow_other _ _ _ _ (by omega)⟩
    exact ⟨rfl, Lib.below_freeze (hb1.trans hb2) (p := ⟨w.heap.size, 0, none⟩) (Nat.le_refl _) _⟩
theorem clone_any (s : ByteArray) (w : World) (hlim : s.size ≤ 281474976710656) :
    Calls Tryd.prog 38 #[.string s] w fun e w' => e = .returned (.string s) ∧ Below w.heap.size w w' := by
  have HL := Lib.hid hlim
  clear hlim
  go_enter Tryd.func38, Tryd.ntmps38
  go_wp2_with fail
  refine (clone_in s w HL.out).mono ?_
  rintro e w1 ⟨rfl, hb⟩
  go_wp2
  go_ret
  exact ⟨rfl, hb⟩
end Go.Proofs.YthkbnbnfjnliaaaDoor
