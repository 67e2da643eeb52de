/- The contract of the document's own Get. Conditions: a field of a kind from 0 to 3; at most 100000 bytes. -/
import Derived.Test.YthkbnbnfjnliaaaGreatDoorJ26
import Derived.Test.YthkbnbnfjnliaaaGreatDoorJ16
import Derived.Test.YthkbnbnfjnliaaaGreatDoorJ13
namespace Go.Proofs.YthkbnbnfjnliaaaGreatDoor
open Go.RowKit
set_option maxRecDepth 100000

theorem results_cell_two {P : Program} {fn : Func} {p t2 t3 : Tmp} {ty : TypeId} (h : fn.results = #[.cell p ty, .tmp t2, .tmp t3]) (tmps : Array Value) (w : World) (g : Nat) (t : TypeId) (cs : Array Value) (fr : Nat × Nat) (d : TypeDesc)
    (hp : tmps.getD p undef = .pointer (some ⟨g, 0, none⟩)) (hg : w.heap[g]? = some (.cells cs t fr)) (hu : P.underlying ty = some d) (hd : (match d with | .struct _ | .array _ _ => true | _ => false) = true) (hi : (P.info? ty).map (·.size) = some cs.size) :
    (results fn tmps).run P w = .ok (.tuple #[.agg cs, tmps.getD t2 undef, tmps.getD t3 undef]) w := by
  have hp' : tmps[p]?.getD undef = .pointer (some ⟨g, 0, none⟩) := by simpa using hp
  simp [results, h, hp', asAddr, run_loadVar_row w g t ty cs fr d hg hu hd hi]
/-- What the document's Get answers. -/
def refRes (s : ByteArray) (f : Fld) : Fld × Nat × Nat :=
  if f.kind = 3 then (if s.size < 32 then (fn0 0, 0, 20) else (fh3 ((bl s).take 32), 32, 0))
  else if (Wire.rd (bl s)).2.2 ≠ 0 then (fn0 0, 0, (Wire.rd (bl s)).2.2)
  else if f.kind = 0 then (fn0 (Wire.rd (bl s)).1, (Wire.rd (bl s)).2.1, 0)
  else if f.kind = 1 then (fi1 (Wire.unfold_ (Wire.rd (bl s)).1), (Wire.rd (bl s)).2.1, 0)
  else if (textOf s f.most (Wire.rd (bl s))).2.2 ≠ 0 then (fn0 0, 0, (textOf s f.most (Wire.rd (bl s))).2.2)
  else (fs2 (textOf s f.most (Wire.rd (bl s))).1, (textOf s f.most (Wire.rd (bl s))).2.1, 0)
def refVal (r : Fld × Nat × Nat) : Value := .tuple #[r.1.val, .int .i64 (r.2.1 : Int), .int .i64 (r.2.2 : Int)]
theorem below_roww {w V : World} {g : Nat} (h : Below w.heap.size w V) (hg : w.heap.size ≤ g) (cs : Array Value) : Below w.heap.size w (V.setRow g cs) :=
  ⟨h.os, h.tape, h.output, by have := h.size; simpa using this, fun k hk => by rw [setRow_other V g k cs (by omega)]; exact h.block k hk⟩
def hrow (s : ByteArray) (k : Nat) : List Nat := (bl s).take k ++ List.replicate (32 - k) 0
theorem hrow_len (s : ByteArray) (k : Nat) (h : k ≤ 32) (hs : 32 ≤ s.size) : (hrow s k).length = 32 := by
  unfold hrow; rw [List.length_append, List.length_take, bl_length, List.length_replicate]; omega
theorem hrow_set (s : ByteArray) (k : Nat) (h : k < 32) (hs : 32 ≤ s.size) : (hrow s k).set k (s[k]'(by omega)).toNat = hrow s (k + 1) := by
  have hk : k < s.size := by omega
  have hl : ((bl s).take k).length = k := by rw [List.length_take, bl_length]; omega
  have hg : (bl s)[k]? = some (s[k]'hk).toNat := by
    have := bl_drop s k hk
    have h2 := congrArg (fun l => l[0]?) this
    simpa using h2
  unfold hrow
  rw [List.set_append_right _ _ (by omega), hl, Nat.sub_self, show 32 - k = (32 - (k + 1)) + 1 by omega, List.replicate_succ, List.set_cons_zero, List.take_add_one, hg]
  simp
theorem hrow_all (s : ByteArray) : hrow s 32 = (bl s).take 32 := by unfold hrow; simp
structure HRel (w V : World) (k : Nat) (s : ByteArray) : Prop where
  below : Below w.heap.size w V
  res : Has V (w.heap.size + 1) 67 (fn0 0).cells
  row : Has V (w.heap.size + 1 + 1) 29 (U8 (hrow s k))
set_option maxRecDepth 100000 in
set_option maxHeartbeats 4000000 in
theorem refGet_any (s : ByteArray) (f : Fld) (w : World) (hf : f.Ok) (hs : s.size ≤ 100000) (h1 : 0 ≤ f.kind) (h2 : f.kind ≤ 3) :
    Calls Tryz.prog 42 #[.string s, f.val] w fun e w' => e = .returned (refVal (refRes s f)) ∧ Below w.heap.size w w' := by
  have HR : Hid (Has ((w.alloc (.cells f.cells.toArray 67)).alloc (.cells (fn0 0).cells.toArray 67)) (w.heap.size + 1) 67 (fn0 0).cells) := Has.new' _ 67 (fn0 0).cells _ _ rfl (by simp)
  have HB : Hid (Below w.heap.size w ((w.alloc (.cells f.cells.toArray 67)).alloc (.cells (fn0 0).cells.toArray 67))) := ((Below.refl _ _).alloc (Nat.le_refl _) _).alloc (by simp) _
  have e0 : f.cells[0]? = some (.int .i64 f.kind) := rfl
  have e1 : f.cells[1]? = some (.int .i64 f.most) := rfl
  have hlen : (Wire.rd (bl s)).2.2 = 0 → (Wire.rd (bl s)).2.1 ≤ s.size ∧ (Wire.rd (bl s)).1 < 18446744073709551616 := fun h0 => by
    have := Wire.rd_back (bl s) (Wire.rd (bl s)).1 (Wire.rd (bl s)).2.1 (bl_bytes s) (by rw [← h0])
    rw [bl_length] at this
    exact ⟨this.1, this.2.2.2⟩
  have hm1 := hf.m1
  have hm2 := hf.m2
  unfold Fld.val
  by_cases k3 : f.kind = 3
  · rw [k3] at e0
    clear hlen hf hm1 hm2 e1
    by_cases hs32 : s.size < 32
    · have HG := Lib.hid (show refRes s f = (fn0 0, 0, 20) by unfold refRes; rw [if_pos k3, if_pos hs32])
      clear k3 h1 h2
      go_enter Tryz.func42, Tryz.ntmps42
      go_wp2_with (refine wpList_store_row rfl 67 (.tmp 4) (.tmp 18) rfl (w.heap.size + 1) (fn0 0).cells.toArray rfl rfl 67 _ HR.out (info32 rfl) ((fld_size rfl).trans (fld_size rfl).symm) (fld_one _) ?_)
      refine bodyPost_ret (results_cell_two rfl _ _ (w.heap.size + 1) 67 (fn0 0).cells.toArray (0, 0) _ rfl (setRow_heap _ _ _ _ 67 _ HR.out) Tryz.underlying67 rfl (info32 rfl)) rfl ⟨?_, below_roww HB.out (by omega) _⟩
      rw [HG.out]
      rfl
    · have HG := Lib.hid (show refRes s f = (fh3 ((bl s).take 32), 32, 0) by unfold refRes; rw [if_pos k3, if_neg hs32])
      have HZh : Hid (Has (((w.alloc (.cells f.cells.toArray 67)).alloc (.cells (fn0 0).cells.toArray 67)).alloc (.cells (U8 Z32).toArray 29)) (w.heap.size + 1 + 1) 29 (U8 Z32)) := Has.new' _ 29 (U8 Z32) _ _ rfl (by simp)
      have HH0 : Hid (HRel w ((((w.alloc (.cells f.cells.toArray 67)).alloc (.cells (fn0 0).cells.toArray 67)).alloc (.cells (U8 Z32).toArray 29)).setRow (w.heap.size + 1 + 1) (U8 Z32).toArray) 0 s) :=
        ⟨below_roww (HB.out.alloc (by simp; omega) _) (by omega) _, (setRow_other _ _ _ _ (by omega)).trans (HR.out.alloc _), setRow_heap _ _ _ _ 29 (0, 0) HZh.out⟩
      have t3 : decide ((s.size : Int) < 32) = false := by simp; omega
      clear k3 h1 h2
      go_enter Tryz.func42, Tryz.ntmps42
      go_wp2_with (refine wpList_store_row rfl 29 (.tmp 7) (.tmp 19) rfl (w.heap.size + 1 + 1) (U8 Z32).toArray rfl rfl 29 _ HZh.out (size30' rfl) rfl (all_oneCell_toArray (U8_one _)) ?_)
      go_loopw [8] (fun i V => ∃ k : Nat, k ≤ 32 ∧ i = .int .i64 (k : Int) ∧ HRel w V k s) (fun i _ => 32 - (intOf i).toNat)
      case atStart => exact ⟨0, by omega, rfl, HH0.out⟩
      case round =>
        clear HH0 HZh
        obtain ⟨k, hk, hi, hrel⟩ := hrel
        subst hi
        have HH := Lib.hid hrel
        clear hrel
        by_cases hlt : k < 32
        · have hks : k < s.size := by omega
          have hold : ∃ u, wr.cell? ⟨w.heap.size + 1 + 1, k, none⟩ = some u := ⟨_, by rw [HH.out.row.cell, U8_get (by rw [hrow_len s k (by omega) (by omega)]; exact hlt)]⟩
          obtain ⟨u, c0⟩ := hold
          have z0 := HH.out.row.open_ k
          have hnew := HH.out.row.set_ k (.int .u8 ((s[k]'hks).toNat : Int))
          rw [U8_set, hrow_set s k hlt (by omega)] at hnew
          have HN := Lib.hid hnew
          clear hnew
          go_wp2
          exact ⟨⟨k + 1, by omega, by go_num, ⟨HH.out.below.setCell (by simp; omega) _, HH.out.res.far (by simp) _, HN.out⟩⟩, by simp [intOf]; omega⟩
        · obtain rfl : k = 32 := by omega
          have hrow := HH.out.row
          rw [hrow_all] at hrow
          have HRow := Lib.hid hrow
          have hln : ((bl s).take 32).length = 32 := by rw [List.length_take, bl_length]; omega
          have HLn := Lib.hid hln
          have HBt := Lib.hid (built_hash ((bl s).take 32) hln)
          have HRs := Lib.hid HH.out.res
          have HBw := Lib.hid HH.out.below
          clear hrow hln HH
          generalize (bl s).take 32 = l at *
          go_wp2_with (first
            | (refine wpList_load_row rfl 29 (.tmp 7) rfl (w.heap.size + 1 + 1) rfl 29 _ (0, 0) (.array 32 5) HRow.out und30 rfl (size30' HLn.out) ?_)
            | (refine wpList_built rfl 67 #[(0, .const (.int .i64 3)), (5, .tmp 29)] rfl [(0, .int .i64 3), (5, .agg (U8 l).toArray)] (fh3 l).cells.toArray (by simp [Act.eval, Act.put]) HBt.out ?_)
            | (refine wpList_store_row rfl 67 (.tmp 4) (.tmp 30) rfl (w.heap.size + 1) (fh3 l).cells.toArray rfl rfl 67 _ HRs.out (info32 HLn.out) ((fld_size rfl).trans (fld_size HLn.out).symm) (fld_one _) ?_))
          refine bodyPost_ret (results_cell_two rfl _ _ (w.heap.size + 1) 67 (fh3 l).cells.toArray (0, 0) _ rfl (setRow_heap _ _ _ _ 67 _ HRs.out) Tryz.underlying67 rfl (info32 HLn.out)) rfl ⟨?_, below_roww HBw.out (by omega) _⟩
          rw [HG.out]
          rfl
  · have t3 : (f.kind == 3) = false := by simpa using k3
    have hG0 : refRes s f = if (Wire.rd (bl s)).2.2 ≠ 0 then (fn0 0, 0, (Wire.rd (bl s)).2.2)
        else if f.kind = 0 then (fn0 (Wire.rd (bl s)).1, (Wire.rd (bl s)).2.1, 0)
        else if f.kind = 1 then (fi1 (Wire.unfold_ (Wire.rd (bl s)).1), (Wire.rd (bl s)).2.1, 0)
        else if (textOf s f.most (Wire.rd (bl s))).2.2 ≠ 0 then (fn0 0, 0, (textOf s f.most (Wire.rd (bl s))).2.2)
        else (fs2 (textOf s f.most (Wire.rd (bl s))).1, (textOf s f.most (Wire.rd (bl s))).2.1, 0) := by unfold refRes; rw [if_neg k3]
    generalize hrd : Wire.rd (bl s) = r at *
    have HRd := Lib.hid hrd
    clear hrd
    obtain ⟨v, k, y⟩ := r
    simp only at hG0 hlen
    by_cases hy : y = 0
    · subst hy
      obtain ⟨g1, g2⟩ := hlen rfl
      rw [if_neg (by omega)] at hG0
      clear hlen
      by_cases k0 : f.kind = 0
      · rw [if_pos k0] at hG0
        have HG := Lib.hid hG0
        rw [k0] at e0
        clear hG0 k0 k3 t3 h1 h2 hf hm1 hm2 e1
        go_enter Tryz.func42, Tryz.ntmps42
        go_wp2_with fail
        refine (refNumber_any s _).mono ?_
        rintro e w1 ⟨rfl, rfl⟩
        rw [HRd.out]
        unfold rdVal
        go_wp2_with (refine wpList_store_row rfl 67 (.tmp 4) (.tmp 46) rfl (w.heap.size + 1) (fn0 v).cells.toArray rfl rfl 67 _ HR.out (info32 rfl) ((fld_size rfl).trans (fld_size rfl).symm) (fld_one _) ?_)
        refine bodyPost_ret (results_cell_two rfl _ _ (w.heap.size + 1) 67 (fn0 v).cells.toArray (0, 0) _ rfl (setRow_heap _ _ _ _ 67 _ HR.out) Tryz.underlying67 rfl (info32 rfl)) rfl ⟨?_, below_roww HB.out (by omega) _⟩
        rw [HG.out]
        rfl
      · rw [if_neg k0] at hG0
        by_cases k1 : f.kind = 1
        · rw [if_pos k1] at hG0
          have HG := Lib.hid hG0
          rw [k1] at e0
          clear hG0 k0 k1 k3 t3 h1 h2 hf hm1 hm2 e1
          by_cases hev : v % 2 = 0
          · have hu : Wire.unfold_ v = (v : Int) / 2 := by unfold Wire.unfold_; rw [if_pos hev]; omega
            rw [hu] at HG
            clear hu
            go_enter Tryz.func42, Tryz.ntmps42
            go_wp2_with fail
            refine (refNumber_any s _).mono ?_
            rintro e w1 ⟨rfl, rfl⟩
            rw [HRd.out]
            unfold rdVal
            go_wp2_with (refine wpList_store_row rfl 67 (.tmp 4) (.tmp 56) rfl (w.heap.size + 1) (fi1 ((v : Int) / 2)).cells.toArray rfl rfl 67 _ HR.out (info32 rfl) ((fld_size rfl).trans (fld_size rfl).symm) (fld_one _) ?_)
            refine bodyPost_ret (results_cell_two rfl _ _ (w.heap.size + 1) 67 (fi1 ((v : Int) / 2)).cells.toArray (0, 0) _ rfl (setRow_heap _ _ _ _ 67 _ HR.out) Tryz.underlying67 rfl (info32 rfl)) rfl ⟨?_, below_roww HB.out (by omega) _⟩
            rw [HG.out]
            rfl
          · have hu : Wire.unfold_ v = -1 - (v : Int) / 2 := by unfold Wire.unfold_; rw [if_neg hev]; omega
            rw [hu] at HG
            clear hu
            go_enter Tryz.func42, Tryz.ntmps42
            go_wp2_with fail
            refine (refNumber_any s _).mono ?_
            rintro e w1 ⟨rfl, rfl⟩
            rw [HRd.out]
            unfold rdVal
            go_wp2_with (refine wpList_store_row rfl 67 (.tmp 4) (.tmp 62) rfl (w.heap.size + 1) (fi1 (-1 - (v : Int) / 2)).cells.toArray rfl rfl 67 _ HR.out (info32 rfl) ((fld_size rfl).trans (fld_size rfl).symm) (fld_one _) ?_)
            refine bodyPost_ret (results_cell_two rfl _ _ (w.heap.size + 1) 67 (fi1 (-1 - (v : Int) / 2)).cells.toArray (0, 0) _ rfl (setRow_heap _ _ _ _ 67 _ HR.out) Tryz.underlying67 rfl (info32 rfl)) rfl ⟨?_, below_roww HB.out (by omega) _⟩
            rw [HG.out]
            rfl
        · rw [if_neg k1] at hG0
          have k2 : f.kind = 2 := by omega
          rw [k2] at e0
          clear k0 k1 k2 k3 t3 h1 h2 hf
          unfold textOf at hG0
          simp only at hG0
          rw [if_neg (show ¬ (0 : Nat) ≠ 0 by omega)] at hG0
          by_cases h3 : f.most < (v : Int)
          · rw [if_pos h3] at hG0
            simp only at hG0
            rw [if_pos (by omega)] at hG0
            have HG := Lib.hid hG0
            clear hG0
            by_cases h4 : f.most < 0
            · go_enter Tryz.func42, Tryz.ntmps42
              go_wp2_with fail
              refine (refNumber_any s _).mono ?_
              rintro e w1 ⟨rfl, rfl⟩
              rw [HRd.out]
              unfold rdVal
              go_wp2_with (refine wpList_store_row rfl 67 (.tmp 4) (.tmp 74) rfl (w.heap.size + 1) (fn0 0).cells.toArray rfl rfl 67 _ HR.out (info32 rfl) ((fld_size rfl).trans (fld_size rfl).symm) (fld_one _) ?_)
              refine bodyPost_ret (results_cell_two rfl _ _ (w.heap.size + 1) 67 (fn0 0).cells.toArray (0, 0) _ rfl (setRow_heap _ _ _ _ 67 _ HR.out) Tryz.underlying67 rfl (info32 rfl)) rfl ⟨?_, below_roww HB.out (by omega) _⟩
              rw [HG.out]
              rfl
            · have t4 : decide (f.most < 0) = false := by simp; omega
              go_enter Tryz.func42, Tryz.ntmps42
              go_wp2_with fail
              refine (refNumber_any s _).mono ?_
              rintro e w1 ⟨rfl, rfl⟩
              rw [HRd.out]
              unfold rdVal
              go_wp2_with (refine wpList_store_row rfl 67 (.tmp 4) (.tmp 74) rfl (w.heap.size + 1) (fn0 0).cells.toArray rfl rfl 67 _ HR.out (info32 rfl) ((fld_size rfl).trans (fld_size rfl).symm) (fld_one _) ?_)
              refine bodyPost_ret (results_cell_two rfl _ _ (w.heap.size + 1) 67 (fn0 0).cells.toArray (0, 0) _ rfl (setRow_heap _ _ _ _ 67 _ HR.out) Tryz.underlying67 rfl (info32 rfl)) rfl ⟨?_, below_roww HB.out (by omega) _⟩
              rw [HG.out]
              rfl
          · rw [if_neg h3] at hG0
            have t4 : decide (f.most < 0) = false := by simp; omega
            by_cases h5 : s.size - k < v
            · rw [if_pos h5] at hG0
              simp only at hG0
              rw [if_pos (by omega)] at hG0
              have HG := Lib.hid hG0
              clear hG0
              go_enter Tryz.func42, Tryz.ntmps42
              go_wp2_with fail
              refine (refNumber_any s _).mono ?_
              rintro e w1 ⟨rfl, rfl⟩
              rw [HRd.out]
              unfold rdVal
              go_wp2_with (refine wpList_store_row rfl 67 (.tmp 4) (.tmp 82) rfl (w.heap.size + 1) (fn0 0).cells.toArray rfl rfl 67 _ HR.out (info32 rfl) ((fld_size rfl).trans (fld_size rfl).symm) (fld_one _) ?_)
              refine bodyPost_ret (results_cell_two rfl _ _ (w.heap.size + 1) 67 (fn0 0).cells.toArray (0, 0) _ rfl (setRow_heap _ _ _ _ 67 _ HR.out) Tryz.underlying67 rfl (info32 rfl)) rfl ⟨?_, below_roww HB.out (by omega) _⟩
              rw [HG.out]
              rfl
            · rw [if_neg h5] at hG0
              simp only at hG0
              rw [if_neg (show ¬ (0 : Nat) ≠ 0 by omega)] at hG0
              have HG := Lib.hid hG0
              have hkv : k + v ≤ s.size := by omega
              clear hG0
              go_enter Tryz.func42, Tryz.ntmps42
              go_wp2_with fail
              refine (refNumber_any s _).mono ?_
              rintro e w1 ⟨rfl, rfl⟩
              rw [HRd.out]
              unfold rdVal
              go_wp2_with (refine wpList_store_row rfl 67 (.tmp 4) (.tmp 90) rfl (w.heap.size + 1) (fs2 (sub s k (k + v))).cells.toArray rfl rfl 67 _ HR.out (info32 rfl) ((fld_size rfl).trans (fld_size rfl).symm) (fld_one _) ?_)
              refine bodyPost_ret (results_cell_two rfl _ _ (w.heap.size + 1) 67 (fs2 (sub s k (k + v))).cells.toArray (0, 0) _ rfl (setRow_heap _ _ _ _ 67 _ HR.out) Tryz.underlying67 rfl (info32 rfl)) rfl ⟨?_, below_roww HB.out (by omega) _⟩
              rw [HG.out]
              rfl
    · rw [if_pos hy] at hG0
      have HG := Lib.hid hG0
      have t5 : ((y : Int) != 0) = true := by simp; omega
      clear hG0 hlen hf hm1 hm2 e1 h1 h2
      go_enter Tryz.func42, Tryz.ntmps42
      go_wp2_with fail
      refine (refNumber_any s _).mono ?_
      rintro e w1 ⟨rfl, rfl⟩
      rw [HRd.out]
      unfold rdVal
      go_wp2_with (refine wpList_store_row rfl 67 (.tmp 4) (.tmp 39) rfl (w.heap.size + 1) (fn0 0).cells.toArray rfl rfl 67 _ HR.out (info32 rfl) ((fld_size rfl).trans (fld_size rfl).symm) (fld_one _) ?_)
      refine bodyPost_ret (results_cell_two rfl _ _ (w.heap.size + 1) 67 (fn0 0).cells.toArray (0, 0) _ rfl (setRow_heap _ _ _ _ 67 _ HR.out) Tryz.underlying67 rfl (info32 rfl)) rfl ⟨?_, below_roww HB.out (by omega) _⟩
      rw [HG.out]
      rfl
end Go.Proofs.YthkbnbnfjnliaaaGreatDoor
/- The contract of the document's own Num. Conditions: a number of 64 bits. -/
namespace Go.Proofs.YthkbnbnfjnliaaaGreatDoor
open Go.RowKit
set_option maxRecDepth 100000

end Go.Proofs.YthkbnbnfjnliaaaGreatDoor
/- The contracts of the document's own Int, Text and Put. Conditions: a field; a text of at most 300 bytes. -/
namespace Go.Proofs.YthkbnbnfjnliaaaGreatDoor
open Go.RowKit
set_option maxRecDepth 100000

theorem refInt_any (n : Int) (w : World) (h1 : -9223372036854775808 ≤ n) (h2 : n ≤ 9223372036854775807) :
    Calls Tryz.prog 50 #[.int .i64 n] w fun e w' => e = .returned (.string (S (Wire.num (Wire.fold n)))) ∧ Below w.heap.size w w' := by
  have hlt := Wire.fold_lt n h1 h2
  by_cases h : 0 ≤ n
  · have he : 2 * n = ((Wire.fold n : Nat) : Int) := by unfold Wire.fold; rw [if_pos h]; omega
    have HC := Lib.hid (refNum_any (Wire.fold n) w hlt)
    generalize Wire.fold n = y at *
    go_enter Tryz.func50, Tryz.ntmps50
    go_wp2_with fail
    refine HC.out.mono ?_
    rintro e w1 ⟨rfl, hb⟩
    go_wp2
    go_ret
    exact ⟨rfl, hb⟩
  · have he : 2 * (-1 - n) + 1 = ((Wire.fold n : Nat) : Int) := by unfold Wire.fold; rw [if_neg h]; omega
    have HC := Lib.hid (refNum_any (Wire.fold n) w hlt)
    generalize Wire.fold n = y at *
    go_enter Tryz.func50, Tryz.ntmps50
    go_wp2_with fail
    refine HC.out.mono ?_
    rintro e w1 ⟨rfl, hb⟩
    go_wp2
    go_ret
    exact ⟨rfl, hb⟩
end Go.Proofs.YthkbnbnfjnliaaaGreatDoor
