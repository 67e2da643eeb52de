/- The contracts of In.read, In.Num, In.Int. Conditions: none. -/
import Derived.Test.YtbcmglggplmkfaaDoorJE
import Derived.Lib.BufferWrite
import Derived.Deep.WholeRow
import Derived.Deep.MidRow
import Derived.Lib.Strings
import Derived.Lib.Walk
import Derived.Lib.UnsafeStr
import Derived.Laws.MakeOwn
namespace Go.Proofs.YtbcmglggplmkfaaDoor
open Go.RowKit
set_option maxRecDepth 100000

/-- What stands behind the first k bytes. -/
def cut (s : ByteArray) (k : Nat) : ByteArray := s.extract k s.size
theorem read_not (f : Value) (b : Nat) (s : ByteArray) (x : Nat) (w : World) (hx : x ≠ 0) (h : In w b s x) :
    Calls Tryd.prog 68 #[.pointer (some ⟨b, 0, none⟩), f] w fun e w' => e = .returned (.tuple #[]) ∧ w = w' := by
  have c1 : w.cell? ⟨b, 1, none⟩ = some (.int .i64 (x : Int)) := h.cell 1
  have t1 : ((x : Int) != 0) = true := by simp; omega
  clear h
  go_enter Tryd.func68, Tryd.ntmps68
  go_wp2
  refine bodyPost_ret (results_none rfl _ _ _) rfl ?_
  exact ⟨rfl, rfl⟩
set_option maxHeartbeats 1000000 in
theorem read_ok (F : Nat) (caps : Array Value) (b : Nat) (s : ByteArray) (n : Nat) (R : World → Prop) (w : World) (h : In w b s 0) (hn : n ≤ s.size)
    (hE : ∀ args w, (callFunc F args).run Tryd.prog w = .ok (.enter F args) w) (hF : Calls Tryd.prog F (#[.string s] ++ caps) w fun e w1 => e = .returned (.tuple #[.int .i64 (n : Int), .int .i64 0]) ∧ In w1 b s 0 ∧ R w1) :
    Calls Tryd.prog 68 #[.pointer (some ⟨b, 0, none⟩), .func (.func F) #[] caps] w fun e w' => e = .returned (.tuple #[]) ∧ ∃ w1, R w1 ∧ In w1 b s 0 ∧ w' = w1.setCell ⟨b, 0, none⟩ (.string (cut s n)) := by
  have c0 : w.cell? ⟨b, 0, none⟩ = some (.string s) := h.cell 0
  have c1 : w.cell? ⟨b, 1, none⟩ = some (.int .i64 0) := h.cell 1
  have HF := Lib.hid hF
  clear h hF
  go_enter Tryd.func68, Tryd.ntmps68
  go_wp2_with fail
  refine HF.out.mono ?_
  rintro e w1 ⟨rfl, hi, hr⟩
  have HI := Lib.hid hi
  have HR := Lib.hid hr
  have d0 : w1.cell? ⟨b, 0, none⟩ = some (.string s) := hi.cell 0
  have f0 : w1.frozen? ⟨b, 0, none⟩ = false := hi.open_ 0
  clear hi hr HF c0 c1
  go_wp2
  go_end0
  exact ⟨rfl, w1, HR.out, HI.out, rfl⟩
set_option maxHeartbeats 1000000 in
theorem read_bad (F : Nat) (caps : Array Value) (b : Nat) (s : ByteArray) (n x : Nat) (R : World → Prop) (w : World) (h : In w b s 0) (hx : x ≠ 0)
    (hE : ∀ args w, (callFunc F args).run Tryd.prog w = .ok (.enter F args) w) (hF : Calls Tryd.prog F (#[.string s] ++ caps) w fun e w1 => e = .returned (.tuple #[.int .i64 (n : Int), .int .i64 (x : Int)]) ∧ In w1 b s 0 ∧ R w1) :
    Calls Tryd.prog 68 #[.pointer (some ⟨b, 0, none⟩), .func (.func F) #[] caps] w fun e w' => e = .returned (.tuple #[]) ∧ ∃ w1, R w1 ∧ In w1 b s 0 ∧ w' = w1.setCell ⟨b, 1, none⟩ (.int .i64 (x : Int)) := by
  have c0 : w.cell? ⟨b, 0, none⟩ = some (.string s) := h.cell 0
  have c1 : w.cell? ⟨b, 1, none⟩ = some (.int .i64 0) := h.cell 1
  have t1 : ((x : Int) != 0) = true := by simp; omega
  have HF := Lib.hid hF
  clear h hF
  go_enter Tryd.func68, Tryd.ntmps68
  go_wp2_with fail
  refine HF.out.mono ?_
  rintro e w1 ⟨rfl, hi, hr⟩
  have HI := Lib.hid hi
  have HR := Lib.hid hr
  have d0 : w1.cell? ⟨b, 1, none⟩ = some (.int .i64 0) := hi.cell 1
  have f0 : w1.frozen? ⟨b, 1, none⟩ = false := hi.open_ 1
  clear hi hr HF c0 c1
  go_wp2
  refine bodyPost_ret (results_none rfl _ _ _) rfl ?_
  exact ⟨rfl, w1, HR.out, HI.out, rfl⟩
theorem enter_of {f : FuncId} {fn : Func} {c : Code} (hf : Tryd.prog.funcs[f]? = some fn) (hname : (fn.name == "runtime.NumGoroutine") = false) (hb : fn.body = some c) (args : Array Value) (w : World) :
    (callFunc f args).run Tryd.prog w = .ok (.enter f args) w := by
  have h1 : fn.name ≠ "runtime.NumGoroutine" := by simpa using hname
  simp [callFunc, hf, h1, hb]
theorem enter69 : ∀ args w, (callFunc 69 args).run Tryd.prog w = .ok (.enter 69 args) w := enter_of Tryd.func69 (by kernel_rfl) rfl
theorem numClosure_any (s : ByteArray) (p : Nat) (u : Value) (w : World) (h : Has w p 50 [u]) :
    Calls Tryd.prog 69 #[.string s, .pointer (some ⟨p, 0, none⟩)] w fun e w' => e = .returned (.tuple #[.int .i64 ((Wire.rd (bl s)).2.1 : Int), .int .i64 ((Wire.rd (bl s)).2.2 : Int)]) ∧ w' = w.setCell ⟨p, 0, none⟩ (.int .u64 ((Wire.rd (bl s)).1 : Int)) := by
  have c0 : w.cell? ⟨p, 0, none⟩ = some u := h.cell 0
  have f0 : w.frozen? ⟨p, 0, none⟩ = false := h.open_ 0
  have HN := Lib.hid (number_any s w)
  clear h
  generalize Wire.rd (bl s) = r at *
  go_enter Tryd.func69, Tryd.ntmps69
  go_wp2_with fail
  refine HN.out.mono ?_
  rintro e w1 ⟨rfl, rfl⟩
  unfold rdVal
  go_wp2
  go_ret2
  exact ⟨rfl, rfl⟩
/-- What Num reads, what is left, what is wrong. -/
def numRes (s : ByteArray) (x : Nat) : Nat × ByteArray × Nat := if x ≠ 0 then (0, s, x) else if (Wire.rd (bl s)).2.2 = 0 then ((Wire.rd (bl s)).1, cut s (Wire.rd (bl s)).2.1, 0) else (0, s, (Wire.rd (bl s)).2.2)
theorem mf : ∀ (fn : Fn) (first cap : Array Value) (w : World), (Instr.makeFunc fn first cap).run Tryd.prog w = .ok (.func fn first cap) w := fun _ _ _ _ => rfl
/-- Where a reader keeps what it reads: block p, new; nothing else has turned. -/
def Kp (w : World) (b p : Nat) (t : TypeId) (cs : List Value) (w1 : World) : Prop := Has w1 p t cs ∧ Fr b nul w w1 ∧ p ≠ b
theorem kp_left {w w1 : World} {b p : Nat} {t : TypeId} {cs : List Value} {s : ByteArray} {n : Nat} (h : Kp w b p t cs w1) (hi : In w1 b s 0) : Did w b (cut s n) 0 (w1.setCell ⟨b, 0, none⟩ (.string (cut s n))) ∧ Has (w1.setCell ⟨b, 0, none⟩ (.string (cut s n))) p t cs :=
  ⟨⟨by unfold In; simpa using Has.set_ hi 0 (.string (cut s n)), h.2.1.set 0 _⟩, h.1.far (by simpa using h.2.2) _⟩
theorem kp_wrong {w w1 : World} {b p : Nat} {t : TypeId} {cs : List Value} {s : ByteArray} {x : Nat} (h : Kp w b p t cs w1) (hi : In w1 b s 0) : Did w b s x (w1.setCell ⟨b, 1, none⟩ (.int .i64 (x : Int))) ∧ Has (w1.setCell ⟨b, 1, none⟩ (.int .i64 (x : Int))) p t cs :=
  ⟨⟨by unfold In; simpa using Has.set_ hi 1 (.int .i64 (x : Int)), h.2.1.set 1 _⟩, h.1.far (by simpa using h.2.2) _⟩
theorem fr_new {b g : Nat} {w w1 : World} (h : Fr b nul w w1) (hg : w.heap.size ≤ g) (i : Nat) (u : Value) : Fr b nul w (w1.setCell ⟨g, i, none⟩ u) :=
  ⟨h.os, h.tape, h.output, by have := h.size; simpa [World.setCell] using this, fun k hk hb hv => by rw [Below.heap_setCell w1 ⟨g, i, none⟩ u k (by show k ≠ g; omega)]; exact h.block k hk hb hv⟩
set_option maxHeartbeats 1000000 in
theorem inNum_any (b : Nat) (s : ByteArray) (x : Nat) (w : World) (h : In w b s x) :
    Calls Tryd.prog 54 #[.pointer (some ⟨b, 0, none⟩)] w fun e w' => e = .returned (.int .u64 ((numRes s x).1 : Int)) ∧ Did w b (numRes s x).2.1 (numRes s x).2.2 w' := by
  have hmf := mf
  have hP : Has (w.alloc (.cells #[.int .u64 0] 50)) w.heap.size 50 [.int .u64 0] := Has.new _ _ _
  have hI : In (w.alloc (.cells #[.int .u64 0] 50)) b s x := Has.alloc h _
  have hF : Fr b nul w (w.alloc (.cells #[.int .u64 0] 50)) := (Fr.refl _ _ _).alloc _
  have hne : b ≠ w.heap.size := Nat.ne_of_lt h.lt
  by_cases hx : x ≠ 0
  · have HR := Lib.hid (show numRes s x = (0, s, x) by unfold numRes; rw [if_pos hx])
    have HI := Lib.hid hI
    have HF := Lib.hid hF
    have c0 := hP.cell 0
    have HX := Lib.hid hx
    clear h hI hP hne hF hx
    go_enter Tryd.func54, Tryd.ntmps54
    go_wp2_with fail
    refine (read_not _ b s x _ HX.out HI.out).mono ?_
    rintro e w1 ⟨rfl, rfl⟩
    go_wp2
    go_ret
    refine ⟨by rw [HR.out]; rfl, ?_⟩
    rw [HR.out]
    exact ⟨HI.out, HF.out⟩
  · obtain rfl : x = 0 := by omega
    clear hx
    have hcl := numClosure_any s w.heap.size _ _ hP
    have hin := fun u => Has.far (p := ⟨w.heap.size, 0, none⟩) hI hne u
    have hk := fun u : Value => (show Kp w b w.heap.size 50 [u] ((w.alloc (.cells #[.int .u64 0] 50)).setCell ⟨w.heap.size, 0, none⟩ u) from ⟨by simpa using hP.set_ 0 u, fr_new hF (Nat.le_refl _) 0 u, fun e => hne e.symm⟩)
    have hlen : (Wire.rd (bl s)).2.2 = 0 → (Wire.rd (bl s)).2.1 ≤ s.size := fun h0 => by
      have := (Wire.rd_back (bl s) (Wire.rd (bl s)).1 (Wire.rd (bl s)).2.1 (bl_bytes s) (by rw [← h0])).1
      rwa [bl_length] at this
    have hnr : numRes s 0 = if (Wire.rd (bl s)).2.2 = 0 then ((Wire.rd (bl s)).1, cut s (Wire.rd (bl s)).2.1, 0) else (0, s, (Wire.rd (bl s)).2.2) := by unfold numRes; rw [if_neg (by omega)]
    have hz : (Wire.rd (bl s)).2.2 ≠ 0 → (Wire.rd (bl s)).1 = 0 := fun h0 => by
      rcases Wire.rd_err (bl s) with h | h | h
      · exact absurd h h0
      · rw [h]
      · rw [h]
    generalize Wire.rd (bl s) = r at *
    obtain ⟨v, k, y⟩ := r
    simp only at hcl hlen hnr hz
    by_cases hy : y = 0
    · subst hy
      rw [if_pos rfl] at hnr
      have HR := Lib.hid hnr
      have hcall := read_ok 69 #[.pointer (some ⟨w.heap.size, 0, none⟩)] b s k (Kp w b w.heap.size 50 [.int .u64 (v : Int)]) _ hI (hlen rfl) enter69 (hcl.mono fun e w1 ⟨he, hw⟩ => ⟨he, by rw [hw]; exact hin _, by rw [hw]; exact hk _⟩)
      have HC := Lib.hid hcall
      clear h hI hP hne hF hcl hin hk hlen hnr hz hcall
      go_enter Tryd.func54, Tryd.ntmps54
      go_wp2_with fail
      refine HC.out.mono ?_
      rintro e w2 ⟨rfl, w1, hK, hI1, rfl⟩
      have HD := Lib.hid (kp_left (n := k) hK hI1)
      have c0 := HD.out.2.cell 0
      clear hK hI1
      go_wp2
      go_ret
      refine ⟨by rw [HR.out]; rfl, ?_⟩
      rw [HR.out]
      exact HD.out.1
    · rw [if_neg hy] at hnr
      have HR := Lib.hid hnr
      obtain rfl : v = 0 := hz hy
      have hcall := read_bad 69 #[.pointer (some ⟨w.heap.size, 0, none⟩)] b s k y (Kp w b w.heap.size 50 [.int .u64 ((0 : Nat) : Int)]) _ hI hy enter69 (hcl.mono fun e w1 ⟨he, hw⟩ => ⟨he, by rw [hw]; exact hin _, by rw [hw]; exact hk _⟩)
      have HC := Lib.hid hcall
      clear h hI hP hne hF hcl hin hk hlen hnr hz hcall hy
      go_enter Tryd.func54, Tryd.ntmps54
      go_wp2_with fail
      refine HC.out.mono ?_
      rintro e w2 ⟨rfl, w1, hK, hI1, rfl⟩
      have HD := Lib.hid (kp_wrong (x := y) hK hI1)
      have c0 := HD.out.2.cell 0
      clear hK hI1
      go_wp2
      go_ret
      refine ⟨by rw [HR.out]; rfl, ?_⟩
      rw [HR.out]
      exact HD.out.1
theorem num_in64 (s : ByteArray) (x : Nat) : (numRes s x).1 < 18446744073709551616 := by
  unfold numRes
  split
  · simp
  · split
    · rename_i h
      exact (Wire.rd_back (bl s) _ (Wire.rd (bl s)).2.1 (bl_bytes s) (by rw [← h])).2.2.2
    · simp
theorem inInt_any (b : Nat) (s : ByteArray) (x : Nat) (w : World) (h : In w b s x) :
    Calls Tryd.prog 35 #[.pointer (some ⟨b, 0, none⟩)] w fun e w' => e = .returned (.int .i64 (Wire.unfold_ (numRes s x).1)) ∧ Did w b (numRes s x).2.1 (numRes s x).2.2 w' := by
  have HC := Lib.hid (inNum_any b s x w h)
  have hlt := num_in64 s x
  have HU := Lib.hid (fun w => unfolded_any (numRes s x).1 w hlt)
  clear h hlt
  generalize numRes s x = r at *
  go_enter Tryd.func35, Tryd.ntmps35
  go_wp2_with fail
  refine HC.out.mono ?_
  rintro e w1 ⟨rfl, hd⟩
  have HD := Lib.hid hd
  clear hd
  go_wp2_with fail
  refine (HU.out w1).mono ?_
  rintro e w2 ⟨rfl, rfl⟩
  go_wp2
  go_ret
  exact ⟨rfl, HD.out⟩
end Go.Proofs.YtbcmglggplmkfaaDoor
/- The contract of In.Hash. No condition. -/
namespace Go.Proofs.YtbcmglggplmkfaaDoor
open Go.RowKit
set_option maxRecDepth 100000

theorem und30 : Tryd.prog.underlying 39 = some (.array 32 5) := by kernel_rfl
theorem size30 : (Tryd.prog.info? 39).map (·.size) = some 32 := by kernel_rfl
theorem size30' {l : List Nat} (h : l.length = 32) : (Tryd.prog.info? 39).map (·.size) = some (U8 l).toArray.size := by rw [size30, List.size_toArray, U8_length, h]
def Z32 : List Nat := List.replicate 32 0
end Go.Proofs.YtbcmglggplmkfaaDoor
/- The contract of the statements' own put: a field written. Conditions: a field's text has at most 300 bytes; what was written at most 100000. -/
namespace Go.Proofs.YtbcmglggplmkfaaDoor
open Go.RowKit
set_option maxRecDepth 100000

/-- A field's bytes. -/
def Fld.bytes (f : Fld) : List Nat := if f.kind = 0 then Wire.num f.n else if f.kind = 1 then Wire.num (Wire.fold f.i) else if f.kind = 2 then Wire.num f.s.size ++ bl f.s else f.h
end Go.Proofs.YtbcmglggplmkfaaDoor
/- The contracts of strings.Clone. Conditions: no longer than memory bears. -/
namespace Go.Proofs.YtbcmglggplmkfaaDoor
open Go.RowKit
set_option maxRecDepth 100000

end Go.Proofs.YtbcmglggplmkfaaDoor
/- The contract of In.Text. Conditions: at most 100000 bytes are left. -/
namespace Go.Proofs.YtbcmglggplmkfaaDoor
open Go.RowKit
set_option maxRecDepth 100000

def sub (s : ByteArray) (a b : Nat) : ByteArray := s.extract a b
def nil : ByteArray := ⟨#[]⟩
/-- What Text reads, what is left, what is wrong. -/
def textOf (s : ByteArray) (most : Int) (r : Nat × Nat × Nat) : ByteArray × Nat × Nat := if r.2.2 ≠ 0 then (nil, 0, r.2.2) else if most < (r.1 : Int) then (nil, 0, 22) else if s.size - r.2.1 < r.1 then (nil, 0, 20) else (sub s r.2.1 (r.2.1 + r.1), r.2.1 + r.1, 0)
end Go.Proofs.YtbcmglggplmkfaaDoor
/- The contract of the statements' own get: a field read, of a kind. Conditions: at most 100000 bytes are left. -/
namespace Go.Proofs.YtbcmglggplmkfaaDoor
open Go.RowKit
set_option maxRecDepth 100000

def fn0 (n : Nat) : Fld := ⟨0, 0, n, 0, nil, Z32⟩
def fi1 (i : Int) : Fld := ⟨1, 0, 0, i, nil, Z32⟩
def fs2 (s : ByteArray) : Fld := ⟨2, 0, 0, 0, s, Z32⟩
def fh3 (h : List Nat) : Fld := ⟨3, 0, 0, 0, nil, h⟩
theorem size32 : (Tryd.prog.info? 66).map (·.size) = some 37 := by kernel_rfl
theorem fld_one (f : Fld) : f.cells.toArray.all (·.oneCell') = true := by
  rw [List.all_toArray, List.all_eq_true]
  intro v hv
  unfold Fld.cells at hv
  simp only [List.mem_cons] at hv
  rcases hv with rfl | rfl | rfl | rfl | rfl | hv
  · rfl
  · rfl
  · rfl
  · rfl
  · rfl
  · exact U8_one _ v hv
theorem fld_size {f : Fld} (h : f.h.length = 32) : f.cells.toArray.size = 37 := by simp [Fld.cells, h]
theorem info32 {f : Fld} (h : f.h.length = 32) : (Tryd.prog.info? 66).map (·.size) = some f.cells.toArray.size := by rw [size32, fld_size h]
set_option maxRecDepth 100000 in
theorem built_32 (a0 a1 a2 a3 a4 a5 a6 a7 a8 a9 a10 a11 a12 a13 a14 a15 a16 a17 a18 a19 a20 a21 a22 a23 a24 a25 a26 a27 a28 a29 a30 a31 : Nat) : Tryd.prog.built 66 [(0, .int .i64 3), (5, .agg (U8 [a0, a1, a2, a3, a4, a5, a6, a7, a8, a9, a10, a11, a12, a13, a14, a15, a16, a17, a18, a19, a20, a21, a22, a23, a24, a25, a26, a27, a28, a29, a30, a31]).toArray)] = some (fh3 [a0, a1, a2, a3, a4, a5, a6, a7, a8, a9, a10, a11, a12, a13, a14, a15, a16, a17, a18, a19, a20, a21, a22, a23, a24, a25, a26, a27, a28, a29, a30, a31]).cells.toArray := by kernel_rfl
theorem built_hash (l : List Nat) (h : l.length = 32) : Tryd.prog.built 66 [(0, .int .i64 3), (5, .agg (U8 l).toArray)] = some (fh3 l).cells.toArray := by
  match l, h with
  | [a0, a1, a2, a3, a4, a5, a6, a7, a8, a9, a10, a11, a12, a13, a14, a15, a16, a17, a18, a19, a20, a21, a22, a23, a24, a25, a26, a27, a28, a29, a30, a31], _ => exact built_32 a0 a1 a2 a3 a4 a5 a6 a7 a8 a9 a10 a11 a12 a13 a14 a15 a16 a17 a18 a19 a20 a21 a22 a23 a24 a25 a26 a27 a28 a29 a30 a31
theorem wpList_built {ops : Array Oper} {rest : List Oper} {o : Oper} {a : Act} {w : World} {Q : Exit → Act → World → Prop} (hg : o.guard = none) (t : TypeId) (parts : Array (Nat × Operand)) (ho : o.op = .build t parts) (L : List (Nat × Value)) (cs : Array Value)
    (hp : (parts.map fun (i, x) => (i, a.eval x)).toList = L) (hb : Tryd.prog.built t L = some cs)
    (h : wpList Tryd.prog ops Q rest (a.put o.dst (.agg cs)) w) : wpList Tryd.prog ops Q (o :: rest) a w :=
  wpList_build hg t parts ho (by rw [hp, hb]; rfl) (by rw [hp, hb]; exact h)
end Go.Proofs.YtbcmglggplmkfaaDoor
/- Strings cut, as lists of bytes. No condition. -/
namespace Go.Proofs.YtbcmglggplmkfaaDoor
open Go.RowKit
set_option maxRecDepth 100000

theorem bl_sub (s : ByteArray) (a b : Nat) : bl (sub s a b) = ((bl s).drop a).take (b - a) := by
  unfold bl sub
  rw [ByteArray.data_extract, Array.toList_extract, List.extract_eq_take_drop, List.map_take, List.map_drop]
theorem bl_cut (s : ByteArray) (a : Nat) : bl (cut s a) = (bl s).drop a := by
  have := bl_sub s a s.size
  unfold sub at this
  unfold cut
  rw [this, List.take_of_length_le]
  rw [List.length_drop, bl_length]; omega
end Go.Proofs.YtbcmglggplmkfaaDoor
/- The contract of Done; NewIn. Conditions: at most 300000 bytes. -/
namespace Go.Proofs.YtbcmglggplmkfaaDoor
open Go.RowKit
set_option maxRecDepth 100000

theorem newIn_any (s : ByteArray) (w : World) : Calls Tryd.prog 52 #[.string s] w fun e w' => e = .returned (.pointer (some ⟨w.heap.size, 0, none⟩)) ∧ w' = w.alloc (.cells #[.string s, .int .i64 0] 99) := by
  go_enter Tryd.func52, Tryd.ntmps52
  go_wp2
  go_ret
  exact ⟨rfl, rfl⟩
theorem in_new (w : World) (s : ByteArray) : In (w.alloc (.cells #[.string s, .int .i64 0] 99)) w.heap.size s 0 := Has.new w 99 [.string s, .int .i64 0]
/-- What End tells. -/
def endOf (s : ByteArray) (x : Nat) : Nat := if x = 0 ∧ 0 < s.size then 22 else x
theorem end_anyw (b : Nat) (s : ByteArray) (x : Nat) (w : World) (h : In w b s x) :
    Calls Tryd.prog 53 #[.pointer (some ⟨b, 0, none⟩)] w fun e w' => e = .returned (.int .i64 (endOf s x : Int)) ∧ w = w' := by
  have c0 : w.cell? ⟨b, 0, none⟩ = some (.string s) := h.cell 0
  have c1 : w.cell? ⟨b, 1, none⟩ = some (.int .i64 (x : Int)) := h.cell 1
  clear h
  by_cases hx : x = 0
  · subst hx
    by_cases hs : 0 < s.size
    · have HE := Lib.hid (show endOf s 0 = 22 by unfold endOf; rw [if_pos ⟨rfl, hs⟩])
      go_enter Tryd.func53, Tryd.ntmps53
      go_wp2
      go_ret
      exact ⟨congrArg (fun n : Nat => Ending.returned (.int .i64 (n : Int))) HE.out.symm, rfl⟩
    · have HE := Lib.hid (show endOf s 0 = 0 by unfold endOf; rw [if_neg (by omega)])
      go_enter Tryd.func53, Tryd.ntmps53
      go_wp2
      go_ret
      exact ⟨congrArg (fun n : Nat => Ending.returned (.int .i64 (n : Int))) HE.out.symm, rfl⟩
  · have HE := Lib.hid (show endOf s x = x by unfold endOf; rw [if_neg (by omega)])
    have t1 : ((x : Int) == 0) = false := by simp; omega
    go_enter Tryd.func53, Tryd.ntmps53
    go_wp2
    go_ret
    exact ⟨congrArg (fun n : Nat => Ending.returned (.int .i64 (n : Int))) HE.out.symm, rfl⟩
end Go.Proofs.YtbcmglggplmkfaaDoor
/- What is read to its end was written so. Conditions: at most 300 bytes. -/
namespace Go.Proofs.YtbcmglggplmkfaaDoor
open Go.RowKit
set_option maxRecDepth 100000

theorem Z32_bytes : ∀ x ∈ Z32, x < 256 := fun x hx => by rw [List.eq_of_mem_replicate hx]; omega
theorem fn0_ok (n : Nat) (h : n < 18446744073709551616) : (fn0 n).Ok := ⟨(by show (-9223372036854775808 : Int) ≤ 0; decide), (by show (0 : Int) ≤ 9223372036854775807; decide), (by show (-9223372036854775808 : Int) ≤ 0; decide), (by show (0 : Int) ≤ 9223372036854775807; decide), h, (by show (-9223372036854775808 : Int) ≤ 0; decide), (by show (0 : Int) ≤ 9223372036854775807; decide), rfl, Z32_bytes⟩
theorem fi1_ok (i : Int) (h1 : -9223372036854775808 ≤ i) (h2 : i ≤ 9223372036854775807) : (fi1 i).Ok := ⟨(by show (-9223372036854775808 : Int) ≤ 1; decide), (by show (1 : Int) ≤ 9223372036854775807; decide), (by show (-9223372036854775808 : Int) ≤ 0; decide), (by show (0 : Int) ≤ 9223372036854775807; decide), (by show 0 < 18446744073709551616; decide), h1, h2, rfl, Z32_bytes⟩
end Go.Proofs.YtbcmglggplmkfaaDoor
/- The contract of Few: whether fields are few and short. Conditions: a slice of fields. -/
namespace Go.Proofs.YtbcmglggplmkfaaDoor
open Go.RowKit
set_option maxRecDepth 100000

theorem Flds.below {w w' : World} {lv : Value} {fs : List Fld} (h : Flds w lv fs) (hb : Below w.heap.size w w') : Flds w' lv fs := by
  obtain ⟨A, c, e, h1, h2, h3, h4⟩ := h
  refine ⟨A, c, e, h1, h2, h3, fun h0 => ?_⟩
  obtain ⟨b, o, e2, hl, hc⟩ := h4 h0
  exact ⟨b, o, e2, Nat.lt_of_lt_of_le hl hb.size, fun i f hf j u hu => by rw [hb.cell (p := ⟨b, o + i * 37 + j, none⟩) hl]; exact hc i f hf j u hu⟩
end Go.Proofs.YtbcmglggplmkfaaDoor
/- Fields written are read again, whatever stands behind. Conditions: fields that are short. -/
namespace Go.Proofs.YtbcmglggplmkfaaDoor
open Go.RowKit
set_option maxRecDepth 100000

end Go.Proofs.YtbcmglggplmkfaaDoor
/- The contract of the document's own Get. Conditions: a field of a kind from 0 to 3; at most 100000 bytes. -/
namespace Go.Proofs.YtbcmglggplmkfaaDoor
open Go.RowKit
set_option maxRecDepth 100000

theorem results_cell_two {P : Program} {fn : Func} {p t2 t3 : Tmp} {ty : TypeId} (h : fn.results = #[.cell p ty, .tmp t2, .tmp t3]) (tmps : Array Value) (w : World) (g : Nat) (t : TypeId) (cs : Array Value) (fr : Nat × Nat) (d : TypeDesc)
    (hp : tmps.getD p undef = .pointer (some ⟨g, 0, none⟩)) (hg : w.heap[g]? = some (.cells cs t fr)) (hu : P.underlying ty = some d) (hd : (match d with | .struct _ | .array _ _ => true | _ => false) = true) (hi : (P.info? ty).map (·.size) = some cs.size) :
    (results fn tmps).run P w = .ok (.tuple #[.agg cs, tmps.getD t2 undef, tmps.getD t3 undef]) w := by
  have hp' : tmps[p]?.getD undef = .pointer (some ⟨g, 0, none⟩) := by simpa using hp
  simp [results, h, hp', asAddr, run_loadVar_row w g t ty cs fr d hg hu hd hi]
/-- What the document's Get answers. -/
def refRes (s : ByteArray) (f : Fld) : Fld × Nat × Nat :=
  if f.kind = 3 then (if s.size < 32 then (fn0 0, 0, 20) else (fh3 ((bl s).take 32), 32, 0))
  else if (Wire.rd (bl s)).2.2 ≠ 0 then (fn0 0, 0, (Wire.rd (bl s)).2.2)
  else if f.kind = 0 then (fn0 (Wire.rd (bl s)).1, (Wire.rd (bl s)).2.1, 0)
  else if f.kind = 1 then (fi1 (Wire.unfold_ (Wire.rd (bl s)).1), (Wire.rd (bl s)).2.1, 0)
  else if (textOf s f.most (Wire.rd (bl s))).2.2 ≠ 0 then (fn0 0, 0, (textOf s f.most (Wire.rd (bl s))).2.2)
  else (fs2 (textOf s f.most (Wire.rd (bl s))).1, (textOf s f.most (Wire.rd (bl s))).2.1, 0)
def refVal (r : Fld × Nat × Nat) : Value := .tuple #[r.1.val, .int .i64 (r.2.1 : Int), .int .i64 (r.2.2 : Int)]
theorem below_roww {w V : World} {g : Nat} (h : Below w.heap.size w V) (hg : w.heap.size ≤ g) (cs : Array Value) : Below w.heap.size w (V.setRow g cs) :=
  ⟨h.os, h.tape, h.output, by have := h.size; simpa using this, fun k hk => by rw [setRow_other V g k cs (by omega)]; exact h.block k hk⟩
def hrow (s : ByteArray) (k : Nat) : List Nat := (bl s).take k ++ List.replicate (32 - k) 0
theorem hrow_len (s : ByteArray) (k : Nat) (h : k ≤ 32) (hs : 32 ≤ s.size) : (hrow s k).length = 32 := by
  unfold hrow; rw [List.length_append, List.length_take, bl_length, List.length_replicate]; omega
theorem hrow_set (s : ByteArray) (k : Nat) (h : k < 32) (hs : 32 ≤ s.size) : (hrow s k).set k (s[k]'(by omega)).toNat = hrow s (k + 1) := by
  have hk : k < s.size := by omega
  have hl : ((bl s).take k).length = k := by rw [List.length_take, bl_length]; omega
  have hg : (bl s)[k]? = some (s[k]'hk).toNat := by
    have := bl_drop s k hk
    have h2 := congrArg (fun l => l[0]?) this
    simpa using h2
  unfold hrow
  rw [List.set_append_right _ _ (by omega), hl, Nat.sub_self, show 32 - k = (32 - (k + 1)) + 1 by omega, List.replicate_succ, List.set_cons_zero, List.take_add_one, hg]
  simp
theorem hrow_all (s : ByteArray) : hrow s 32 = (bl s).take 32 := by unfold hrow; simp
structure HRel (w V : World) (k : Nat) (s : ByteArray) : Prop where
  below : Below w.heap.size w V
  res : Has V (w.heap.size + 1) 66 (fn0 0).cells
  row : Has V (w.heap.size + 1 + 1) 39 (U8 (hrow s k))
set_option maxRecDepth 100000 in
set_option maxHeartbeats 4000000 in
theorem refGet_any (s : ByteArray) (f : Fld) (w : World) (hf : f.Ok) (hs : s.size ≤ 100000) (h1 : 0 ≤ f.kind) (h2 : f.kind ≤ 3) :
    Calls Tryd.prog 36 #[.string s, f.val] w fun e w' => e = .returned (refVal (refRes s f)) ∧ Below w.heap.size w w' := by
  have HR : Hid (Has ((w.alloc (.cells f.cells.toArray 66)).alloc (.cells (fn0 0).cells.toArray 66)) (w.heap.size + 1) 66 (fn0 0).cells) := Has.new' _ 66 (fn0 0).cells _ _ rfl (by simp)
  have HB : Hid (Below w.heap.size w ((w.alloc (.cells f.cells.toArray 66)).alloc (.cells (fn0 0).cells.toArray 66))) := ((Below.refl _ _).alloc (Nat.le_refl _) _).alloc (by simp) _
  have e0 : f.cells[0]? = some (.int .i64 f.kind) := rfl
  have e1 : f.cells[1]? = some (.int .i64 f.most) := rfl
  have hlen : (Wire.rd (bl s)).2.2 = 0 → (Wire.rd (bl s)).2.1 ≤ s.size ∧ (Wire.rd (bl s)).1 < 18446744073709551616 := fun h0 => by
    have := Wire.rd_back (bl s) (Wire.rd (bl s)).1 (Wire.rd (bl s)).2.1 (bl_bytes s) (by rw [← h0])
    rw [bl_length] at this
    exact ⟨this.1, this.2.2.2⟩
  have hm1 := hf.m1
  have hm2 := hf.m2
  unfold Fld.val
  by_cases k3 : f.kind = 3
  · rw [k3] at e0
    clear hlen hf hm1 hm2 e1
    by_cases hs32 : s.size < 32
    · have HG := Lib.hid (show refRes s f = (fn0 0, 0, 20) by unfold refRes; rw [if_pos k3, if_pos hs32])
      clear k3 h1 h2
      go_enter Tryd.func36, Tryd.ntmps36
      go_wp2_with (refine wpList_store_row rfl 66 (.tmp 4) (.tmp 18) rfl (w.heap.size + 1) (fn0 0).cells.toArray rfl rfl 66 _ HR.out (info32 rfl) ((fld_size rfl).trans (fld_size rfl).symm) (fld_one _) ?_)
      refine bodyPost_ret (results_cell_two rfl _ _ (w.heap.size + 1) 66 (fn0 0).cells.toArray (0, 0) _ rfl (setRow_heap _ _ _ _ 66 _ HR.out) Tryd.underlying66 rfl (info32 rfl)) rfl ⟨?_, below_roww HB.out (by omega) _⟩
      rw [HG.out]
      rfl
    · have HG := Lib.hid (show refRes s f = (fh3 ((bl s).take 32), 32, 0) by unfold refRes; rw [if_pos k3, if_neg hs32])
      have HZh : Hid (Has (((w.alloc (.cells f.cells.toArray 66)).alloc (.cells (fn0 0).cells.toArray 66)).alloc (.cells (U8 Z32).toArray 39)) (w.heap.size + 1 + 1) 39 (U8 Z32)) := Has.new' _ 39 (U8 Z32) _ _ rfl (by simp)
      have HH0 : Hid (HRel w ((((w.alloc (.cells f.cells.toArray 66)).alloc (.cells (fn0 0).cells.toArray 66)).alloc (.cells (U8 Z32).toArray 39)).setRow (w.heap.size + 1 + 1) (U8 Z32).toArray) 0 s) :=
        ⟨below_roww (HB.out.alloc (by simp; omega) _) (by omega) _, (setRow_other _ _ _ _ (by omega)).trans (HR.out.alloc _), setRow_heap _ _ _ _ 39 (0, 0) HZh.out⟩
      have t3 : decide ((s.size : Int) < 32) = false := by simp; omega
      clear k3 h1 h2
      go_enter Tryd.func36, Tryd.ntmps36
      go_wp2_with (refine wpList_store_row rfl 39 (.tmp 7) (.tmp 19) rfl (w.heap.size + 1 + 1) (U8 Z32).toArray rfl rfl 39 _ HZh.out (size30' rfl) rfl (all_oneCell_toArray (U8_one _)) ?_)
      go_loopw [8] (fun i V => ∃ k : Nat, k ≤ 32 ∧ i = .int .i64 (k : Int) ∧ HRel w V k s) (fun i _ => 32 - (intOf i).toNat)
      case atStart => exact ⟨0, by omega, rfl, HH0.out⟩
      case round =>
        clear HH0 HZh
        obtain ⟨k, hk, hi, hrel⟩ := hrel
        subst hi
        have HH := Lib.hid hrel
        clear hrel
        by_cases hlt : k < 32
        · have hks : k < s.size := by omega
          have hold : ∃ u, wr.cell? ⟨w.heap.size + 1 + 1, k, none⟩ = some u := ⟨_, by rw [HH.out.row.cell, U8_get (by rw [hrow_len s k (by omega) (by omega)]; exact hlt)]⟩
          obtain ⟨u, c0⟩ := hold
          have z0 := HH.out.row.open_ k
          have hnew := HH.out.row.set_ k (.int .u8 ((s[k]'hks).toNat : Int))
          rw [U8_set, hrow_set s k hlt (by omega)] at hnew
          have HN := Lib.hid hnew
          clear hnew
          go_wp2
          exact ⟨⟨k + 1, by omega, by go_num, ⟨HH.out.below.setCell (by simp; omega) _, HH.out.res.far (by simp) _, HN.out⟩⟩, by simp [intOf]; omega⟩
        · obtain rfl : k = 32 := by omega
          have hrow := HH.out.row
          rw [hrow_all] at hrow
          have HRow := Lib.hid hrow
          have hln : ((bl s).take 32).length = 32 := by rw [List.length_take, bl_length]; omega
          have HLn := Lib.hid hln
          have HBt := Lib.hid (built_hash ((bl s).take 32) hln)
          have HRs := Lib.hid HH.out.res
          have HBw := Lib.hid HH.out.below
          clear hrow hln HH
          generalize (bl s).take 32 = l at *
          go_wp2_with (first
            | (refine wpList_load_row rfl 39 (.tmp 7) rfl (w.heap.size + 1 + 1) rfl 39 _ (0, 0) (.array 32 5) HRow.out und30 rfl (size30' HLn.out) ?_)
            | (refine wpList_built rfl 66 #[(0, .const (.int .i64 3)), (5, .tmp 29)] rfl [(0, .int .i64 3), (5, .agg (U8 l).toArray)] (fh3 l).cells.toArray (by simp [Act.eval, Act.put]) HBt.out ?_)
            | (refine wpList_store_row rfl 66 (.tmp 4) (.tmp 30) rfl (w.heap.size + 1) (fh3 l).cells.toArray rfl rfl 66 _ HRs.out (info32 HLn.out) ((fld_size rfl).trans (fld_size HLn.out).symm) (fld_one _) ?_))
          refine bodyPost_ret (results_cell_two rfl _ _ (w.heap.size + 1) 66 (fh3 l).cells.toArray (0, 0) _ rfl (setRow_heap _ _ _ _ 66 _ HRs.out) Tryd.underlying66 rfl (info32 HLn.out)) rfl ⟨?_, below_roww HBw.out (by omega) _⟩
          rw [HG.out]
          rfl
  · have t3 : (f.kind == 3) = false := by simpa using k3
    have hG0 : refRes s f = if (Wire.rd (bl s)).2.2 ≠ 0 then (fn0 0, 0, (Wire.rd (bl s)).2.2)
        else if f.kind = 0 then (fn0 (Wire.rd (bl s)).1, (Wire.rd (bl s)).2.1, 0)
        else if f.kind = 1 then (fi1 (Wire.unfold_ (Wire.rd (bl s)).1), (Wire.rd (bl s)).2.1, 0)
        else if (textOf s f.most (Wire.rd (bl s))).2.2 ≠ 0 then (fn0 0, 0, (textOf s f.most (Wire.rd (bl s))).2.2)
        else (fs2 (textOf s f.most (Wire.rd (bl s))).1, (textOf s f.most (Wire.rd (bl s))).2.1, 0) := by unfold refRes; rw [if_neg k3]
    generalize hrd : Wire.rd (bl s) = r at *
    have HRd := Lib.hid hrd
    clear hrd
    obtain ⟨v, k, y⟩ := r
    simp only at hG0 hlen
    by_cases hy : y = 0
    · subst hy
      obtain ⟨g1, g2⟩ := hlen rfl
      rw [if_neg (by omega)] at hG0
      clear hlen
      by_cases k0 : f.kind = 0
      · rw [if_pos k0] at hG0
        have HG := Lib.hid hG0
        rw [k0] at e0
        clear hG0 k0 k3 t3 h1 h2 hf hm1 hm2 e1
        go_enter Tryd.func36, Tryd.ntmps36
        go_wp2_with fail
        refine (refNumber_any s _).mono ?_
        rintro e w1 ⟨rfl, rfl⟩
        rw [HRd.out]
        unfold rdVal
        go_wp2_with (refine wpList_store_row rfl 66 (.tmp 4) (.tmp 46) rfl (w.heap.size + 1) (fn0 v).cells.toArray rfl rfl 66 _ HR.out (info32 rfl) ((fld_size rfl).trans (fld_size rfl).symm) (fld_one _) ?_)
        refine bodyPost_ret (results_cell_two rfl _ _ (w.heap.size + 1) 66 (fn0 v).cells.toArray (0, 0) _ rfl (setRow_heap _ _ _ _ 66 _ HR.out) Tryd.underlying66 rfl (info32 rfl)) rfl ⟨?_, below_roww HB.out (by omega) _⟩
        rw [HG.out]
        rfl
      · rw [if_neg k0] at hG0
        by_cases k1 : f.kind = 1
        · rw [if_pos k1] at hG0
          have HG := Lib.hid hG0
          rw [k1] at e0
          clear hG0 k0 k1 k3 t3 h1 h2 hf hm1 hm2 e1
          by_cases hev : v % 2 = 0
          · have hu : Wire.unfold_ v = (v : Int) / 2 := by unfold Wire.unfold_; rw [if_pos hev]; omega
            rw [hu] at HG
            clear hu
            go_enter Tryd.func36, Tryd.ntmps36
            go_wp2_with fail
            refine (refNumber_any s _).mono ?_
            rintro e w1 ⟨rfl, rfl⟩
            rw [HRd.out]
            unfold rdVal
            go_wp2_with (refine wpList_store_row rfl 66 (.tmp 4) (.tmp 56) rfl (w.heap.size + 1) (fi1 ((v : Int) / 2)).cells.toArray rfl rfl 66 _ HR.out (info32 rfl) ((fld_size rfl).trans (fld_size rfl).symm) (fld_one _) ?_)
            refine bodyPost_ret (results_cell_two rfl _ _ (w.heap.size + 1) 66 (fi1 ((v : Int) / 2)).cells.toArray (0, 0) _ rfl (setRow_heap _ _ _ _ 66 _ HR.out) Tryd.underlying66 rfl (info32 rfl)) rfl ⟨?_, below_roww HB.out (by omega) _⟩
            rw [HG.out]
            rfl
          · have hu : Wire.unfold_ v = -1 - (v : Int) / 2 := by unfold Wire.unfold_; rw [if_neg hev]; omega
            rw [hu] at HG
            clear hu
            go_enter Tryd.func36, Tryd.ntmps36
            go_wp2_with fail
            refine (refNumber_any s _).mono ?_
            rintro e w1 ⟨rfl, rfl⟩
            rw [HRd.out]
            unfold rdVal
            go_wp2_with (refine wpList_store_row rfl 66 (.tmp 4) (.tmp 62) rfl (w.heap.size + 1) (fi1 (-1 - (v : Int) / 2)).cells.toArray rfl rfl 66 _ HR.out (info32 rfl) ((fld_size rfl).trans (fld_size rfl).symm) (fld_one _) ?_)
            refine bodyPost_ret (results_cell_two rfl _ _ (w.heap.size + 1) 66 (fi1 (-1 - (v : Int) / 2)).cells.toArray (0, 0) _ rfl (setRow_heap _ _ _ _ 66 _ HR.out) Tryd.underlying66 rfl (info32 rfl)) rfl ⟨?_, below_roww HB.out (by omega) _⟩
            rw [HG.out]
            rfl
        · rw [if_neg k1] at hG0
          have k2 : f.kind = 2 := by omega
          rw [k2] at e0
          clear k0 k1 k2 k3 t3 h1 h2 hf
          unfold textOf at hG0
          simp only at hG0
          rw [if_neg (show ¬ (0 : Nat) ≠ 0 by omega)] at hG0
          by_cases h3 : f.most < (v : Int)
          · rw [if_pos h3] at hG0
            simp only at hG0
            rw [if_pos (by omega)] at hG0
            have HG := Lib.hid hG0
            clear hG0
            by_cases h4 : f.most < 0
            · go_enter Tryd.func36, Tryd.ntmps36
              go_wp2_with fail
              refine (refNumber_any s _).mono ?_
              rintro e w1 ⟨rfl, rfl⟩
              rw [HRd.out]
              unfold rdVal
              go_wp2_with (refine wpList_store_row rfl 66 (.tmp 4) (.tmp 74) rfl (w.heap.size + 1) (fn0 0).cells.toArray rfl rfl 66 _ HR.out (info32 rfl) ((fld_size rfl).trans (fld_size rfl).symm) (fld_one _) ?_)
              refine bodyPost_ret (results_cell_two rfl _ _ (w.heap.size + 1) 66 (fn0 0).cells.toArray (0, 0) _ rfl (setRow_heap _ _ _ _ 66 _ HR.out) Tryd.underlying66 rfl (info32 rfl)) rfl ⟨?_, below_roww HB.out (by omega) _⟩
              rw [HG.out]
              rfl
            · have t4 : decide (f.most < 0) = false := by simp; omega
              go_enter Tryd.func36, Tryd.ntmps36
              go_wp2_with fail
              refine (refNumber_any s _).mono ?_
              rintro e w1 ⟨rfl, rfl⟩
              rw [HRd.out]
              unfold rdVal
              go_wp2_with (refine wpList_store_row rfl 66 (.tmp 4) (.tmp 74) rfl (w.heap.size + 1) (fn0 0).cells.toArray rfl rfl 66 _ HR.out (info32 rfl) ((fld_size rfl).trans (fld_size rfl).symm) (fld_one _) ?_)
              refine bodyPost_ret (results_cell_two rfl _ _ (w.heap.size + 1) 66 (fn0 0).cells.toArray (0, 0) _ rfl (setRow_heap _ _ _ _ 66 _ HR.out) Tryd.underlying66 rfl (info32 rfl)) rfl ⟨?_, below_roww HB.out (by omega) _⟩
              rw [HG.out]
              rfl
          · rw [if_neg h3] at hG0
            have t4 : decide (f.most < 0) = false := by simp; omega
            by_cases h5 : s.size - k < v
            · rw [if_pos h5] at hG0
              simp only at hG0
              rw [if_pos (by omega)] at hG0
              have HG := Lib.hid hG0
              clear hG0
              go_enter Tryd.func36, Tryd.ntmps36
              go_wp2_with fail
              refine (refNumber_any s _).mono ?_
              rintro e w1 ⟨rfl, rfl⟩
              rw [HRd.out]
              unfold rdVal
              go_wp2_with (refine wpList_store_row rfl 66 (.tmp 4) (.tmp 82) rfl (w.heap.size + 1) (fn0 0).cells.toArray rfl rfl 66 _ HR.out (info32 rfl) ((fld_size rfl).trans (fld_size rfl).symm) (fld_one _) ?_)
              refine bodyPost_ret (results_cell_two rfl _ _ (w.heap.size + 1) 66 (fn0 0).cells.toArray (0, 0) _ rfl (setRow_heap _ _ _ _ 66 _ HR.out) Tryd.underlying66 rfl (info32 rfl)) rfl ⟨?_, below_roww HB.out (by omega) _⟩
              rw [HG.out]
              rfl
            · rw [if_neg h5] at hG0
              simp only at hG0
              rw [if_neg (show ¬ (0 : Nat) ≠ 0 by omega)] at hG0
              have HG := Lib.hid hG0
              have hkv : k + v ≤ s.size := by omega
              clear hG0
              go_enter Tryd.func36, Tryd.ntmps36
              go_wp2_with fail
              refine (refNumber_any s _).mono ?_
              rintro e w1 ⟨rfl, rfl⟩
              rw [HRd.out]
              unfold rdVal
              go_wp2_with (refine wpList_store_row rfl 66 (.tmp 4) (.tmp 90) rfl (w.heap.size + 1) (fs2 (sub s k (k + v))).cells.toArray rfl rfl 66 _ HR.out (info32 rfl) ((fld_size rfl).trans (fld_size rfl).symm) (fld_one _) ?_)
              refine bodyPost_ret (results_cell_two rfl _ _ (w.heap.size + 1) 66 (fs2 (sub s k (k + v))).cells.toArray (0, 0) _ rfl (setRow_heap _ _ _ _ 66 _ HR.out) Tryd.underlying66 rfl (info32 rfl)) rfl ⟨?_, below_roww HB.out (by omega) _⟩
              rw [HG.out]
              rfl
    · rw [if_pos hy] at hG0
      have HG := Lib.hid hG0
      have t5 : ((y : Int) != 0) = true := by simp; omega
      clear hG0 hlen hf hm1 hm2 e1 h1 h2
      go_enter Tryd.func36, Tryd.ntmps36
      go_wp2_with fail
      refine (refNumber_any s _).mono ?_
      rintro e w1 ⟨rfl, rfl⟩
      rw [HRd.out]
      unfold rdVal
      go_wp2_with (refine wpList_store_row rfl 66 (.tmp 4) (.tmp 39) rfl (w.heap.size + 1) (fn0 0).cells.toArray rfl rfl 66 _ HR.out (info32 rfl) ((fld_size rfl).trans (fld_size rfl).symm) (fld_one _) ?_)
      refine bodyPost_ret (results_cell_two rfl _ _ (w.heap.size + 1) 66 (fn0 0).cells.toArray (0, 0) _ rfl (setRow_heap _ _ _ _ 66 _ HR.out) Tryd.underlying66 rfl (info32 rfl)) rfl ⟨?_, below_roww HB.out (by omega) _⟩
      rw [HG.out]
      rfl
end Go.Proofs.YtbcmglggplmkfaaDoor
