/- The contract of the statements' own get: a field read, of a kind. Conditions: at most 100000 bytes are left. -/
import Derived.Test.YtiifdbagmbikpaaFld
import Derived.Test.YtiifdbagmbikpaaInText
import Derived.Test.YtiifdbagmbikpaaInHash
namespace Go.Proofs.Ytiifdbagmbikpaa
open Go.RowKit

def fn0 (n : Nat) : Fld := ⟨0, 0, n, 0, nil, Z32⟩
def fi1 (i : Int) : Fld := ⟨1, 0, 0, i, nil, Z32⟩
def fs2 (s : ByteArray) : Fld := ⟨2, 0, 0, 0, s, Z32⟩
def fh3 (h : List Nat) : Fld := ⟨3, 0, 0, 0, nil, h⟩
/-- What get reads, what is left, what is wrong. -/
def getRes (s : ByteArray) (x : Nat) (f : Fld) : Fld × ByteArray × Nat :=
  if f.kind = 0 then (fn0 (numRes s x).1, (numRes s x).2.1, (numRes s x).2.2)
  else if f.kind = 1 then (fi1 (Wire.unfold_ (numRes s x).1), (numRes s x).2.1, (numRes s x).2.2)
  else if f.kind = 2 then (fs2 (textRes s x f.most).1, (textRes s x f.most).2.1, (textRes s x f.most).2.2)
  else (fh3 (hashRes s x).1, (hashRes s x).2.1, (hashRes s x).2.2)
theorem size32 : (Try.prog.info? 32).map (·.size) = some 37 := by kernel_rfl
theorem fld_one (f : Fld) : f.cells.toArray.all (·.oneCell') = true := by
  rw [List.all_toArray, List.all_eq_true]
  intro v hv
  unfold Fld.cells at hv
  simp only [List.mem_cons] at hv
  rcases hv with rfl | rfl | rfl | rfl | rfl | hv
  · rfl
  · rfl
  · rfl
  · rfl
  · rfl
  · exact U8_one _ v hv
theorem fld_size {f : Fld} (h : f.h.length = 32) : f.cells.toArray.size = 37 := by simp [Fld.cells, h]
theorem info32 {f : Fld} (h : f.h.length = 32) : (Try.prog.info? 32).map (·.size) = some f.cells.toArray.size := by rw [size32, fld_size h]
set_option maxRecDepth 100000 in
theorem built_32 (a0 a1 a2 a3 a4 a5 a6 a7 a8 a9 a10 a11 a12 a13 a14 a15 a16 a17 a18 a19 a20 a21 a22 a23 a24 a25 a26 a27 a28 a29 a30 a31 : Nat) : Try.prog.built 32 [(0, .int .i64 3), (5, .agg (U8 [a0, a1, a2, a3, a4, a5, a6, a7, a8, a9, a10, a11, a12, a13, a14, a15, a16, a17, a18, a19, a20, a21, a22, a23, a24, a25, a26, a27, a28, a29, a30, a31]).toArray)] = some (fh3 [a0, a1, a2, a3, a4, a5, a6, a7, a8, a9, a10, a11, a12, a13, a14, a15, a16, a17, a18, a19, a20, a21, a22, a23, a24, a25, a26, a27, a28, a29, a30, a31]).cells.toArray := by kernel_rfl
theorem built_hash (l : List Nat) (h : l.length = 32) : Try.prog.built 32 [(0, .int .i64 3), (5, .agg (U8 l).toArray)] = some (fh3 l).cells.toArray := by
  match l, h with
  | [a0, a1, a2, a3, a4, a5, a6, a7, a8, a9, a10, a11, a12, a13, a14, a15, a16, a17, a18, a19, a20, a21, a22, a23, a24, a25, a26, a27, a28, a29, a30, a31], _ => exact built_32 a0 a1 a2 a3 a4 a5 a6 a7 a8 a9 a10 a11 a12 a13 a14 a15 a16 a17 a18 a19 a20 a21 a22 a23 a24 a25 a26 a27 a28 a29 a30 a31
theorem wpList_built {ops : Array Oper} {rest : List Oper} {o : Oper} {a : Act} {w : World} {Q : Exit → Act → World → Prop} (hg : o.guard = none) (t : TypeId) (parts : Array (Nat × Operand)) (ho : o.op = .build t parts) (L : List (Nat × Value)) (cs : Array Value)
    (hp : (parts.map fun (i, x) => (i, a.eval x)).toList = L) (hb : Try.prog.built t L = some cs)
    (h : wpList Try.prog ops Q rest (a.put o.dst (.agg cs)) w) : wpList Try.prog ops Q (o :: rest) a w :=
  wpList_build hg t parts ho (by rw [hp, hb]; rfl) (by rw [hp, hb]; exact h)
/-- The result laid. -/
theorem get_end {w w1 : World} {b : Nat} {s : ByteArray} {x : Nat} {W : World} {cs : Array Value} (hne : b ≠ w.heap.size + 1) (hF : Fr b nul w W) (hd : Did W b s x w1) : Did w b s x (w1.setRow (w.heap.size + 1) cs) :=
  ⟨(setRow_other w1 _ b _ hne).trans hd.1, fr_row (hF.trans (Later.refl _ _) hd.2) (by omega) cs⟩
set_option maxRecDepth 100000 in
set_option maxHeartbeats 2000000 in
theorem get_any (b : Nat) (s : ByteArray) (x : Nat) (f : Fld) (w : World) (hf : f.Ok) (hs : s.size ≤ 100000) (h : In w b s x) :
    Calls Try.prog 18 #[.pointer (some ⟨b, 0, none⟩), f.val] w fun e w' => e = .returned (getRes s x f).1.val ∧ Did w b (getRes s x f).2.1 (getRes s x f).2.2 w' := by
  obtain ⟨W, hW⟩ : ∃ W, (w.alloc (.cells f.cells.toArray 32)).alloc (.cells (fn0 0).cells.toArray 32) = W := ⟨_, rfl⟩
  have hR : Has W (w.heap.size + 1) 32 (fn0 0).cells := by rw [← hW]; exact Has.new' _ 32 (fn0 0).cells _ _ rfl (by simp)
  have hI : In W b s x := by rw [← hW]; exact (Has.alloc h _).alloc _
  have hF : Fr b nul w W := by rw [← hW]; exact ((Fr.refl _ _ _).alloc _).alloc _
  have hne : b ≠ w.heap.size + 1 := by have := h.lt; omega
  have e0 : f.cells[0]? = some (.int .i64 f.kind) := rfl
  have e1 : f.cells[1]? = some (.int .i64 f.most) := rfl
  have HI := Lib.hid hI
  have HF := Lib.hid hF
  have HR := Lib.hid hR
  have HNe := Lib.hid hne
  have HW := Lib.hid hW
  have HOk := Lib.hid hf
  unfold Fld.val
  by_cases k0 : f.kind = 0
  · have HG := Lib.hid (show getRes s x f = (fn0 (numRes s x).1, (numRes s x).2.1, (numRes s x).2.2) by unfold getRes; rw [if_pos k0])
    rw [HG.out]
    rw [k0] at e0
    clear h hR hI hF hne hW hf k0 e1
    have HC := Lib.hid (inNum_any b s x W HI.out)
    generalize numRes s x = r at *
    go_enter Try.func18, Try.ntmps18
    go_wp2_with fail
    change Calls Try.prog 24 _ ((w.alloc (.cells f.cells.toArray 32)).alloc (.cells (fn0 0).cells.toArray 32)) _
    rw [HW.out]
    refine HC.out.mono ?_
    rintro e w1 ⟨rfl, hd⟩
    have HR1 := Lib.hid (HR.out.fr hd.2 (fun e => HNe.out e.symm) (by simp [nul, Value.ownBlock]))
    have HD := Lib.hid hd
    clear hd
    go_wp2_with ((refine wpList_store_row rfl 32 (.tmp 4) (.tmp 11) rfl (w.heap.size + 1) (fn0 r.1).cells.toArray rfl rfl 32 _ HR1.out (info32 rfl) ((fld_size rfl).trans (fld_size rfl).symm) (fld_one _) ?_))
    refine bodyPost_ret (results_cell_row rfl _ _ (w.heap.size + 1) 32 _ (0, 0) _ rfl (setRow_heap w1 _ _ _ 32 _ HR1.out) Try.underlying32 rfl (info32 rfl)) rfl ⟨rfl, get_end HNe.out HF.out HD.out⟩
  · by_cases k1 : f.kind = 1
    · have HG := Lib.hid (show getRes s x f = (fi1 (Wire.unfold_ (numRes s x).1), (numRes s x).2.1, (numRes s x).2.2) by unfold getRes; rw [if_neg k0, if_pos k1])
      rw [HG.out]
      rw [k1] at e0
      clear h hR hI hF hne hW hf k0 k1 e1
      have HC := Lib.hid (inInt_any b s x W HI.out)
      generalize numRes s x = r at *
      generalize Wire.unfold_ r.1 = y at *
      go_enter Try.func18, Try.ntmps18
      go_wp2_with fail
      change Calls Try.prog 28 _ ((w.alloc (.cells f.cells.toArray 32)).alloc (.cells (fn0 0).cells.toArray 32)) _
      rw [HW.out]
      refine HC.out.mono ?_
      rintro e w1 ⟨rfl, hd⟩
      have HR1 := Lib.hid (HR.out.fr hd.2 (fun e => HNe.out e.symm) (by simp [nul, Value.ownBlock]))
      have HD := Lib.hid hd
      clear hd
      go_wp2_with (refine wpList_store_row rfl 32 (.tmp 4) (.tmp 16) rfl (w.heap.size + 1) (fi1 y).cells.toArray rfl rfl 32 _ HR1.out (info32 rfl) ((fld_size rfl).trans (fld_size rfl).symm) (fld_one _) ?_)
      refine bodyPost_ret (results_cell_row rfl _ _ (w.heap.size + 1) 32 _ (0, 0) _ rfl (setRow_heap w1 _ _ _ 32 _ HR1.out) Try.underlying32 rfl (info32 rfl)) rfl ⟨rfl, get_end HNe.out HF.out HD.out⟩
    · by_cases k2 : f.kind = 2
      · have HG := Lib.hid (show getRes s x f = (fs2 (textRes s x f.most).1, (textRes s x f.most).2.1, (textRes s x f.most).2.2) by unfold getRes; rw [if_neg k0, if_neg k1, if_pos k2])
        rw [HG.out]
        rw [k2] at e0
        have HC := Lib.hid (inText_any b s x f.most W hs hf.m1 hf.m2 HI.out)
        clear h hR hI hF hne hW hf k0 k1 k2
        generalize textRes s x f.most = r at *
        go_enter Try.func18, Try.ntmps18
        go_wp2_with fail
        change Calls Try.prog 27 _ ((w.alloc (.cells f.cells.toArray 32)).alloc (.cells (fn0 0).cells.toArray 32)) _
        rw [HW.out]
        refine HC.out.mono ?_
        rintro e w1 ⟨rfl, hd⟩
        have HR1 := Lib.hid (HR.out.fr hd.2 (fun e => HNe.out e.symm) (by simp [nul, Value.ownBlock]))
        have HD := Lib.hid hd
        clear hd
        go_wp2_with (refine wpList_store_row rfl 32 (.tmp 4) (.tmp 23) rfl (w.heap.size + 1) (fs2 r.1).cells.toArray rfl rfl 32 _ HR1.out (info32 rfl) ((fld_size rfl).trans (fld_size rfl).symm) (fld_one _) ?_)
        refine bodyPost_ret (results_cell_row rfl _ _ (w.heap.size + 1) 32 _ (0, 0) _ rfl (setRow_heap w1 _ _ _ 32 _ HR1.out) Try.underlying32 rfl (info32 rfl)) rfl ⟨rfl, get_end HNe.out HF.out HD.out⟩
      · have HG := Lib.hid (show getRes s x f = (fh3 (hashRes s x).1, (hashRes s x).2.1, (hashRes s x).2.2) by unfold getRes; rw [if_neg k0, if_neg k1, if_neg k2])
        rw [HG.out]
        have HC := Lib.hid (inHash_any b s x W HI.out)
        have HLn := Lib.hid (hash_len s x)
        have t0 : (f.kind == 0) = false := by simpa using k0
        have t1 : (f.kind == 1) = false := by simpa using k1
        have t2 : (f.kind == 2) = false := by simpa using k2
        clear h hR hI hF hne hW hf k0 k1 k2 e1
        generalize hashRes s x = r at *
        go_enter Try.func18, Try.ntmps18
        go_wp2_with fail
        change Calls Try.prog 33 _ ((w.alloc (.cells f.cells.toArray 32)).alloc (.cells (fn0 0).cells.toArray 32)) _
        rw [HW.out]
        refine HC.out.mono ?_
        rintro e w1 ⟨rfl, hd⟩
        have HR1 := Lib.hid (HR.out.fr hd.2 (fun e => HNe.out e.symm) (by simp [nul, Value.ownBlock]))
        have HD := Lib.hid hd
        clear hd
        have HBt := Lib.hid (built_hash r.1 HLn.out)
        go_wp2_with (first
          | (refine wpList_built rfl 32 #[(0, .const (.int .i64 3)), (5, .tmp 25)] rfl [(0, .int .i64 3), (5, .agg (U8 r.1).toArray)] (fh3 r.1).cells.toArray (by simp [Act.eval, Act.put]) HBt.out ?_)
          | (refine wpList_store_row rfl 32 (.tmp 4) (.tmp 26) rfl (w.heap.size + 1) (fh3 r.1).cells.toArray rfl rfl 32 _ HR1.out (info32 HLn.out) ((fld_size rfl).trans (fld_size HLn.out).symm) (fld_one _) ?_))
        refine bodyPost_ret (results_cell_row rfl _ _ (w.heap.size + 1) 32 _ (0, 0) _ rfl (setRow_heap w1 _ _ _ 32 _ HR1.out) Try.underlying32 rfl (info32 HLn.out)) rfl ⟨rfl, get_end HNe.out HF.out HD.out⟩
end Go.Proofs.Ytiifdbagmbikpaa
