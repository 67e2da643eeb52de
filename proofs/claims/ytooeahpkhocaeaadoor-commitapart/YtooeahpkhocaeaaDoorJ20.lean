/- What is read to its end was written so. Conditions: at most 300 bytes. -/
import Derived.Test.YtooeahpkhocaeaaDoorJ19
import Derived.Test.YtooeahpkhocaeaaDoorJ13
import Derived.Test.YtooeahpkhocaeaaDoorJ14
import Derived.Test.YtooeahpkhocaeaaDoorJ18
import Derived.Test.YtooeahpkhocaeaaDoorJ15
import Derived.Laws.StructEq
namespace Go.Proofs.YtooeahpkhocaeaaDoor
open Go.RowKit
set_option maxRecDepth 100000

theorem Z32_bytes : ∀ x ∈ Z32, x < 256 := fun x hx => by rw [List.eq_of_mem_replicate hx]; omega
theorem fn0_ok (n : Nat) (h : n < 18446744073709551616) : (fn0 n).Ok := ⟨(by show (-9223372036854775808 : Int) ≤ 0; decide), (by show (0 : Int) ≤ 9223372036854775807; decide), (by show (-9223372036854775808 : Int) ≤ 0; decide), (by show (0 : Int) ≤ 9223372036854775807; decide), h, (by show (-9223372036854775808 : Int) ≤ 0; decide), (by show (0 : Int) ≤ 9223372036854775807; decide), rfl, Z32_bytes⟩
theorem fh3_ok (h : List Nat) (h1 : h.length = 32) (h2 : ∀ c ∈ h, c < 256) : (fh3 h).Ok := ⟨(by show (-9223372036854775808 : Int) ≤ 3; decide), (by show (3 : Int) ≤ 9223372036854775807; decide), (by show (-9223372036854775808 : Int) ≤ 0; decide), (by show (0 : Int) ≤ 9223372036854775807; decide), (by show 0 < 18446744073709551616; decide), (by show (-9223372036854775808 : Int) ≤ 0; decide), (by show (0 : Int) ≤ 9223372036854775807; decide), h1, h2⟩
end Go.Proofs.YtooeahpkhocaeaaDoor
/- The contract of Few: whether fields are few and short. Conditions: a slice of fields. -/
namespace Go.Proofs.YtooeahpkhocaeaaDoor
open Go.RowKit
set_option maxRecDepth 100000

theorem Flds.below {w w' : World} {lv : Value} {fs : List Fld} (h : Flds w lv fs) (hb : Below w.heap.size w w') : Flds w' lv fs := by
  obtain ⟨A, c, e, h1, h2, h3, h4⟩ := h
  refine ⟨A, c, e, h1, h2, h3, fun h0 => ?_⟩
  obtain ⟨b, o, e2, hl, hc⟩ := h4 h0
  exact ⟨b, o, e2, Nat.lt_of_lt_of_le hl hb.size, fun i f hf j u hu => by rw [hb.cell (p := ⟨b, o + i * 37 + j, none⟩) hl]; exact hc i f hf j u hu⟩
end Go.Proofs.YtooeahpkhocaeaaDoor
/- Fields written are read again, whatever stands behind. Conditions: fields that are short. -/
namespace Go.Proofs.YtooeahpkhocaeaaDoor
open Go.RowKit
set_option maxRecDepth 100000

end Go.Proofs.YtooeahpkhocaeaaDoor
/- The contract of the document's own Get. Conditions: a field of a kind from 0 to 3; at most 100000 bytes. -/
namespace Go.Proofs.YtooeahpkhocaeaaDoor
open Go.RowKit
set_option maxRecDepth 100000

theorem results_cell_two {P : Program} {fn : Func} {p t2 t3 : Tmp} {ty : TypeId} (h : fn.results = #[.cell p ty, .tmp t2, .tmp t3]) (tmps : Array Value) (w : World) (g : Nat) (t : TypeId) (cs : Array Value) (fr : Nat × Nat) (d : TypeDesc)
    (hp : tmps.getD p undef = .pointer (some ⟨g, 0, none⟩)) (hg : w.heap[g]? = some (.cells cs t fr)) (hu : P.underlying ty = some d) (hd : (match d with | .struct _ | .array _ _ => true | _ => false) = true) (hi : (P.info? ty).map (·.size) = some cs.size) :
    (results fn tmps).run P w = .ok (.tuple #[.agg cs, tmps.getD t2 undef, tmps.getD t3 undef]) w := by
  have hp' : tmps[p]?.getD undef = .pointer (some ⟨g, 0, none⟩) := by simpa using hp
  simp [results, h, hp', asAddr, run_loadVar_row w g t ty cs fr d hg hu hd hi]
/-- What the document's Get answers. -/
def refRes (s : ByteArray) (f : Fld) : Fld × Nat × Nat :=
  if f.kind = 3 then (if s.size < 32 then (fn0 0, 0, 20) else (fh3 ((bl s).take 32), 32, 0))
  else if (Wire.rd (bl s)).2.2 ≠ 0 then (fn0 0, 0, (Wire.rd (bl s)).2.2)
  else if f.kind = 0 then (fn0 (Wire.rd (bl s)).1, (Wire.rd (bl s)).2.1, 0)
  else if f.kind = 1 then (fi1 (Wire.unfold_ (Wire.rd (bl s)).1), (Wire.rd (bl s)).2.1, 0)
  else if (textOf s f.most (Wire.rd (bl s))).2.2 ≠ 0 then (fn0 0, 0, (textOf s f.most (Wire.rd (bl s))).2.2)
  else (fs2 (textOf s f.most (Wire.rd (bl s))).1, (textOf s f.most (Wire.rd (bl s))).2.1, 0)
def refVal (r : Fld × Nat × Nat) : Value := .tuple #[r.1.val, .int .i64 (r.2.1 : Int), .int .i64 (r.2.2 : Int)]
theorem below_roww {w V : World} {g : Nat} (h : Below w.heap.size w V) (hg : w.heap.size ≤ g) (cs : Array Value) : Below w.heap.size w (V.setRow g cs) :=
  ⟨h.os, h.tape, h.output, by have := h.size; simpa using this, fun k hk => by rw [setRow_other V g k cs (by omega)]; exact h.block k hk⟩
def hrow (s : ByteArray) (k : Nat) : List Nat := (bl s).take k ++ List.replicate (32 - k) 0
theorem hrow_len (s : ByteArray) (k : Nat) (h : k ≤ 32) (hs : 32 ≤ s.size) : (hrow s k).length = 32 := by
  unfold hrow; rw [List.length_append, List.length_take, bl_length, List.length_replicate]; omega
theorem hrow_set (s : ByteArray) (k : Nat) (h : k < 32) (hs : 32 ≤ s.size) : (hrow s k).set k (s[k]'(by omega)).toNat = hrow s (k + 1) := by
  have hk : k < s.size := by omega
  have hl : ((bl s).take k).length = k := by rw [List.length_take, bl_length]; omega
  have hg : (bl s)[k]? = some (s[k]'hk).toNat := by
    have := bl_drop s k hk
    have h2 := congrArg (fun l => l[0]?) this
    simpa using h2
  unfold hrow
  rw [List.set_append_right _ _ (by omega), hl, Nat.sub_self, show 32 - k = (32 - (k + 1)) + 1 by omega, List.replicate_succ, List.set_cons_zero, List.take_add_one, hg]
  simp
theorem hrow_all (s : ByteArray) : hrow s 32 = (bl s).take 32 := by unfold hrow; simp
structure HRel (w V : World) (k : Nat) (s : ByteArray) : Prop where
  below : Below w.heap.size w V
  res : Has V (w.heap.size + 1) 63 (fn0 0).cells
  row : Has V (w.heap.size + 1 + 1) 23 (U8 (hrow s k))
set_option maxRecDepth 100000 in
set_option maxHeartbeats 4000000 in
theorem refGet_any (s : ByteArray) (f : Fld) (w : World) (hf : f.Ok) (hs : s.size ≤ 100000) (h1 : 0 ≤ f.kind) (h2 : f.kind ≤ 3) :
    Calls Tryd.prog 29 #[.string s, f.val] w fun e w' => e = .returned (refVal (refRes s f)) ∧ Below w.heap.size w w' := by
  have HR : Hid (Has ((w.alloc (.cells f.cells.toArray 63)).alloc (.cells (fn0 0).cells.toArray 63)) (w.heap.size + 1) 63 (fn0 0).cells) := Has.new' _ 63 (fn0 0).cells _ _ rfl (by simp)
  have HB : Hid (Below w.heap.size w ((w.alloc (.cells f.cells.toArray 63)).alloc (.cells (fn0 0).cells.toArray 63))) := ((Below.refl _ _).alloc (Nat.le_refl _) _).alloc (by simp) _
  have e0 : f.cells[0]? = some (.int .i64 f.kind) := rfl
  have e1 : f.cells[1]? = some (.int .i64 f.most) := rfl
  have hlen : (Wire.rd (bl s)).2.2 = 0 → (Wire.rd (bl s)).2.1 ≤ s.size ∧ (Wire.rd (bl s)).1 < 18446744073709551616 := fun h0 => by
    have := Wire.rd_back (bl s) (Wire.rd (bl s)).1 (Wire.rd (bl s)).2.1 (bl_bytes s) (by rw [← h0])
    rw [bl_length] at this
    exact ⟨this.1, this.2.2.2⟩
  have hm1 := hf.m1
  have hm2 := hf.m2
  unfold Fld.val
  by_cases k3 : f.kind = 3
  · rw [k3] at e0
    clear hlen hf hm1 hm2 e1
    by_cases hs32 : s.size < 32
    · have HG := Lib.hid (show refRes s f = (fn0 0, 0, 20) by unfold refRes; rw [if_pos k3, if_pos hs32])
      clear k3 h1 h2
      go_enter Tryd.func29, Tryd.ntmps29
      go_wp2_with (refine wpList_store_row rfl 63 (.tmp 4) (.tmp 18) rfl (w.heap.size + 1) (fn0 0).cells.toArray rfl rfl 63 _ HR.out (info32 rfl) ((fld_size rfl).trans (fld_size rfl).symm) (fld_one _) ?_)
      refine bodyPost_ret (results_cell_two rfl _ _ (w.heap.size + 1) 63 (fn0 0).cells.toArray (0, 0) _ rfl (setRow_heap _ _ _ _ 63 _ HR.out) Tryd.underlying63 rfl (info32 rfl)) rfl ⟨?_, below_roww HB.out (by omega) _⟩
      rw [HG.out]
      rfl
    · have HG := Lib.hid (show refRes s f = (fh3 ((bl s).take 32), 32, 0) by unfold refRes; rw [if_pos k3, if_neg hs32])
      have HZh : Hid (Has (((w.alloc (.cells f.cells.toArray 63)).alloc (.cells (fn0 0).cells.toArray 63)).alloc (.cells (U8 Z32).toArray 23)) (w.heap.size + 1 + 1) 23 (U8 Z32)) := Has.new' _ 23 (U8 Z32) _ _ rfl (by simp)
      have HH0 : Hid (HRel w ((((w.alloc (.cells f.cells.toArray 63)).alloc (.cells (fn0 0).cells.toArray 63)).alloc (.cells (U8 Z32).toArray 23)).setRow (w.heap.size + 1 + 1) (U8 Z32).toArray) 0 s) :=
        ⟨below_roww (HB.out.alloc (by simp; omega) _) (by omega) _, (setRow_other _ _ _ _ (by omega)).trans (HR.out.alloc _), setRow_heap _ _ _ _ 23 (0, 0) HZh.out⟩
      have t3 : decide ((s.size : Int) < 32) = false := by simp; omega
      clear k3 h1 h2
      go_enter Tryd.func29, Tryd.ntmps29
      go_wp2_with (refine wpList_store_row rfl 23 (.tmp 7) (.tmp 19) rfl (w.heap.size + 1 + 1) (U8 Z32).toArray rfl rfl 23 _ HZh.out (size30' rfl) rfl (all_oneCell_toArray (U8_one _)) ?_)
      go_loopw [8] (fun i V => ∃ k : Nat, k ≤ 32 ∧ i = .int .i64 (k : Int) ∧ HRel w V k s) (fun i _ => 32 - (intOf i).toNat)
      case atStart => exact ⟨0, by omega, rfl, HH0.out⟩
      case round =>
        clear HH0 HZh
        obtain ⟨k, hk, hi, hrel⟩ := hrel
        subst hi
        have HH := Lib.hid hrel
        clear hrel
        by_cases hlt : k < 32
        · have hks : k < s.size := by omega
          have hold : ∃ u, wr.cell? ⟨w.heap.size + 1 + 1, k, none⟩ = some u := ⟨_, by rw [HH.out.row.cell, U8_get (by rw [hrow_len s k (by omega) (by omega)]; exact hlt)]⟩
          obtain ⟨u, c0⟩ := hold
          have z0 := HH.out.row.open_ k
          have hnew := HH.out.row.set_ k (.int .u8 ((s[k]'hks).toNat : Int))
          rw [U8_set, hrow_set s k hlt (by omega)] at hnew
          have HN := Lib.hid hnew
          clear hnew
          go_wp2
          exact ⟨⟨k + 1, by omega, by go_num, ⟨HH.out.below.setCell (by simp; omega) _, HH.out.res.far (by simp) _, HN.out⟩⟩, by simp [intOf]; omega⟩
        · obtain rfl : k = 32 := by omega
          have hrow := HH.out.row
          rw [hrow_all] at hrow
          have HRow := Lib.hid hrow
          have hln : ((bl s).take 32).length = 32 := by rw [List.length_take, bl_length]; omega
          have HLn := Lib.hid hln
          have HBt := Lib.hid (built_hash ((bl s).take 32) hln)
          have HRs := Lib.hid HH.out.res
          have HBw := Lib.hid HH.out.below
          clear hrow hln HH
          generalize (bl s).take 32 = l at *
          go_wp2_with (first
            | (refine wpList_load_row rfl 23 (.tmp 7) rfl (w.heap.size + 1 + 1) rfl 23 _ (0, 0) (.array 32 5) HRow.out und30 rfl (size30' HLn.out) ?_)
            | (refine wpList_built rfl 63 #[(0, .const (.int .i64 3)), (5, .tmp 29)] rfl [(0, .int .i64 3), (5, .agg (U8 l).toArray)] (fh3 l).cells.toArray (by simp [Act.eval, Act.put]) HBt.out ?_)
            | (refine wpList_store_row rfl 63 (.tmp 4) (.tmp 30) rfl (w.heap.size + 1) (fh3 l).cells.toArray rfl rfl 63 _ HRs.out (info32 HLn.out) ((fld_size rfl).trans (fld_size HLn.out).symm) (fld_one _) ?_))
          refine bodyPost_ret (results_cell_two rfl _ _ (w.heap.size + 1) 63 (fh3 l).cells.toArray (0, 0) _ rfl (setRow_heap _ _ _ _ 63 _ HRs.out) Tryd.underlying63 rfl (info32 HLn.out)) rfl ⟨?_, below_roww HBw.out (by omega) _⟩
          rw [HG.out]
          rfl
  · have t3 : (f.kind == 3) = false := by simpa using k3
    have hG0 : refRes s f = if (Wire.rd (bl s)).2.2 ≠ 0 then (fn0 0, 0, (Wire.rd (bl s)).2.2)
        else if f.kind = 0 then (fn0 (Wire.rd (bl s)).1, (Wire.rd (bl s)).2.1, 0)
        else if f.kind = 1 then (fi1 (Wire.unfold_ (Wire.rd (bl s)).1), (Wire.rd (bl s)).2.1, 0)
        else if (textOf s f.most (Wire.rd (bl s))).2.2 ≠ 0 then (fn0 0, 0, (textOf s f.most (Wire.rd (bl s))).2.2)
        else (fs2 (textOf s f.most (Wire.rd (bl s))).1, (textOf s f.most (Wire.rd (bl s))).2.1, 0) := by unfold refRes; rw [if_neg k3]
    generalize hrd : Wire.rd (bl s) = r at *
    have HRd := Lib.hid hrd
    clear hrd
    obtain ⟨v, k, y⟩ := r
    simp only at hG0 hlen
    by_cases hy : y = 0
    · subst hy
      obtain ⟨g1, g2⟩ := hlen rfl
      rw [if_neg (by omega)] at hG0
      clear hlen
      by_cases k0 : f.kind = 0
      · rw [if_pos k0] at hG0
        have HG := Lib.hid hG0
        rw [k0] at e0
        clear hG0 k0 k3 t3 h1 h2 hf hm1 hm2 e1
        go_enter Tryd.func29, Tryd.ntmps29
        go_wp2_with fail
        refine (refNumber_any s _).mono ?_
        rintro e w1 ⟨rfl, rfl⟩
        rw [HRd.out]
        unfold rdVal
        go_wp2_with (refine wpList_store_row rfl 63 (.tmp 4) (.tmp 46) rfl (w.heap.size + 1) (fn0 v).cells.toArray rfl rfl 63 _ HR.out (info32 rfl) ((fld_size rfl).trans (fld_size rfl).symm) (fld_one _) ?_)
        refine bodyPost_ret (results_cell_two rfl _ _ (w.heap.size + 1) 63 (fn0 v).cells.toArray (0, 0) _ rfl (setRow_heap _ _ _ _ 63 _ HR.out) Tryd.underlying63 rfl (info32 rfl)) rfl ⟨?_, below_roww HB.out (by omega) _⟩
        rw [HG.out]
        rfl
      · rw [if_neg k0] at hG0
        by_cases k1 : f.kind = 1
        · rw [if_pos k1] at hG0
          have HG := Lib.hid hG0
          rw [k1] at e0
          clear hG0 k0 k1 k3 t3 h1 h2 hf hm1 hm2 e1
          by_cases hev : v % 2 = 0
          · have hu : Wire.unfold_ v = (v : Int) / 2 := by unfold Wire.unfold_; rw [if_pos hev]; omega
            rw [hu] at HG
            clear hu
            go_enter Tryd.func29, Tryd.ntmps29
            go_wp2_with fail
            refine (refNumber_any s _).mono ?_
            rintro e w1 ⟨rfl, rfl⟩
            rw [HRd.out]
            unfold rdVal
            go_wp2_with (refine wpList_store_row rfl 63 (.tmp 4) (.tmp 56) rfl (w.heap.size + 1) (fi1 ((v : Int) / 2)).cells.toArray rfl rfl 63 _ HR.out (info32 rfl) ((fld_size rfl).trans (fld_size rfl).symm) (fld_one _) ?_)
            refine bodyPost_ret (results_cell_two rfl _ _ (w.heap.size + 1) 63 (fi1 ((v : Int) / 2)).cells.toArray (0, 0) _ rfl (setRow_heap _ _ _ _ 63 _ HR.out) Tryd.underlying63 rfl (info32 rfl)) rfl ⟨?_, below_roww HB.out (by omega) _⟩
            rw [HG.out]
            rfl
          · have hu : Wire.unfold_ v = -1 - (v : Int) / 2 := by unfold Wire.unfold_; rw [if_neg hev]; omega
            rw [hu] at HG
            clear hu
            go_enter Tryd.func29, Tryd.ntmps29
            go_wp2_with fail
            refine (refNumber_any s _).mono ?_
            rintro e w1 ⟨rfl, rfl⟩
            rw [HRd.out]
            unfold rdVal
            go_wp2_with (refine wpList_store_row rfl 63 (.tmp 4) (.tmp 62) rfl (w.heap.size + 1) (fi1 (-1 - (v : Int) / 2)).cells.toArray rfl rfl 63 _ HR.out (info32 rfl) ((fld_size rfl).trans (fld_size rfl).symm) (fld_one _) ?_)
            refine bodyPost_ret (results_cell_two rfl _ _ (w.heap.size + 1) 63 (fi1 (-1 - (v : Int) / 2)).cells.toArray (0, 0) _ rfl (setRow_heap _ _ _ _ 63 _ HR.out) Tryd.underlying63 rfl (info32 rfl)) rfl ⟨?_, below_roww HB.out (by omega) _⟩
            rw [HG.out]
            rfl
        · rw [if_neg k1] at hG0
          have k2 : f.kind = 2 := by omega
          rw [k2] at e0
          clear k0 k1 k2 k3 t3 h1 h2 hf
          unfold textOf at hG0
          simp only at hG0
          rw [if_neg (show ¬ (0 : Nat) ≠ 0 by omega)] at hG0
          by_cases h3 : f.most < (v : Int)
          · rw [if_pos h3] at hG0
            simp only at hG0
            rw [if_pos (by omega)] at hG0
            have HG := Lib.hid hG0
            clear hG0
            by_cases h4 : f.most < 0
            · go_enter Tryd.func29, Tryd.ntmps29
              go_wp2_with fail
              refine (refNumber_any s _).mono ?_
              rintro e w1 ⟨rfl, rfl⟩
              rw [HRd.out]
              unfold rdVal
              go_wp2_with (refine wpList_store_row rfl 63 (.tmp 4) (.tmp 74) rfl (w.heap.size + 1) (fn0 0).cells.toArray rfl rfl 63 _ HR.out (info32 rfl) ((fld_size rfl).trans (fld_size rfl).symm) (fld_one _) ?_)
              refine bodyPost_ret (results_cell_two rfl _ _ (w.heap.size + 1) 63 (fn0 0).cells.toArray (0, 0) _ rfl (setRow_heap _ _ _ _ 63 _ HR.out) Tryd.underlying63 rfl (info32 rfl)) rfl ⟨?_, below_roww HB.out (by omega) _⟩
              rw [HG.out]
              rfl
            · have t4 : decide (f.most < 0) = false := by simp; omega
              go_enter Tryd.func29, Tryd.ntmps29
              go_wp2_with fail
              refine (refNumber_any s _).mono ?_
              rintro e w1 ⟨rfl, rfl⟩
              rw [HRd.out]
              unfold rdVal
              go_wp2_with (refine wpList_store_row rfl 63 (.tmp 4) (.tmp 74) rfl (w.heap.size + 1) (fn0 0).cells.toArray rfl rfl 63 _ HR.out (info32 rfl) ((fld_size rfl).trans (fld_size rfl).symm) (fld_one _) ?_)
              refine bodyPost_ret (results_cell_two rfl _ _ (w.heap.size + 1) 63 (fn0 0).cells.toArray (0, 0) _ rfl (setRow_heap _ _ _ _ 63 _ HR.out) Tryd.underlying63 rfl (info32 rfl)) rfl ⟨?_, below_roww HB.out (by omega) _⟩
              rw [HG.out]
              rfl
          · rw [if_neg h3] at hG0
            have t4 : decide (f.most < 0) = false := by simp; omega
            by_cases h5 : s.size - k < v
            · rw [if_pos h5] at hG0
              simp only at hG0
              rw [if_pos (by omega)] at hG0
              have HG := Lib.hid hG0
              clear hG0
              go_enter Tryd.func29, Tryd.ntmps29
              go_wp2_with fail
              refine (refNumber_any s _).mono ?_
              rintro e w1 ⟨rfl, rfl⟩
              rw [HRd.out]
              unfold rdVal
              go_wp2_with (refine wpList_store_row rfl 63 (.tmp 4) (.tmp 82) rfl (w.heap.size + 1) (fn0 0).cells.toArray rfl rfl 63 _ HR.out (info32 rfl) ((fld_size rfl).trans (fld_size rfl).symm) (fld_one _) ?_)
              refine bodyPost_ret (results_cell_two rfl _ _ (w.heap.size + 1) 63 (fn0 0).cells.toArray (0, 0) _ rfl (setRow_heap _ _ _ _ 63 _ HR.out) Tryd.underlying63 rfl (info32 rfl)) rfl ⟨?_, below_roww HB.out (by omega) _⟩
              rw [HG.out]
              rfl
            · rw [if_neg h5] at hG0
              simp only at hG0
              rw [if_neg (show ¬ (0 : Nat) ≠ 0 by omega)] at hG0
              have HG := Lib.hid hG0
              have hkv : k + v ≤ s.size := by omega
              clear hG0
              go_enter Tryd.func29, Tryd.ntmps29
              go_wp2_with fail
              refine (refNumber_any s _).mono ?_
              rintro e w1 ⟨rfl, rfl⟩
              rw [HRd.out]
              unfold rdVal
              go_wp2_with (refine wpList_store_row rfl 63 (.tmp 4) (.tmp 90) rfl (w.heap.size + 1) (fs2 (sub s k (k + v))).cells.toArray rfl rfl 63 _ HR.out (info32 rfl) ((fld_size rfl).trans (fld_size rfl).symm) (fld_one _) ?_)
              refine bodyPost_ret (results_cell_two rfl _ _ (w.heap.size + 1) 63 (fs2 (sub s k (k + v))).cells.toArray (0, 0) _ rfl (setRow_heap _ _ _ _ 63 _ HR.out) Tryd.underlying63 rfl (info32 rfl)) rfl ⟨?_, below_roww HB.out (by omega) _⟩
              rw [HG.out]
              rfl
    · rw [if_pos hy] at hG0
      have HG := Lib.hid hG0
      have t5 : ((y : Int) != 0) = true := by simp; omega
      clear hG0 hlen hf hm1 hm2 e1 h1 h2
      go_enter Tryd.func29, Tryd.ntmps29
      go_wp2_with fail
      refine (refNumber_any s _).mono ?_
      rintro e w1 ⟨rfl, rfl⟩
      rw [HRd.out]
      unfold rdVal
      go_wp2_with (refine wpList_store_row rfl 63 (.tmp 4) (.tmp 39) rfl (w.heap.size + 1) (fn0 0).cells.toArray rfl rfl 63 _ HR.out (info32 rfl) ((fld_size rfl).trans (fld_size rfl).symm) (fld_one _) ?_)
      refine bodyPost_ret (results_cell_two rfl _ _ (w.heap.size + 1) 63 (fn0 0).cells.toArray (0, 0) _ rfl (setRow_heap _ _ _ _ 63 _ HR.out) Tryd.underlying63 rfl (info32 rfl)) rfl ⟨?_, below_roww HB.out (by omega) _⟩
      rw [HG.out]
      rfl
end Go.Proofs.YtooeahpkhocaeaaDoor
/- The contract of the document's own Num. Conditions: a number of 64 bits. -/
namespace Go.Proofs.YtooeahpkhocaeaaDoor
open Go.RowKit
set_option maxRecDepth 100000

end Go.Proofs.YtooeahpkhocaeaaDoor
/- The contracts of the document's own Int, Text and Put. Conditions: a field; a text of at most 300 bytes. -/
namespace Go.Proofs.YtooeahpkhocaeaaDoor
open Go.RowKit
set_option maxRecDepth 100000

end Go.Proofs.YtooeahpkhocaeaaDoor
/- Small facts of vertices. No condition. -/
namespace Go.Proofs.YtooeahpkhocaeaaDoor
open Go.RowKit
set_option maxRecDepth 100000

/-- A row that holds the beginning of what is written stays. -/
theorem owns_pre {w w' : World} {B : Nat} {e : TypeId} {sz g n m cap : Nat} {xs news : List Value} (h : w.ownsRow B e sz (.slice (some ⟨g, 0, none⟩) n cap) n xs) (hsz : 0 < sz) (h' : w'.ownsRow B e sz (.slice (some ⟨g, 0, none⟩) (n + m) cap) (n + m) (xs ++ news)) (hgr : w.grownBy w' (some g))
    {v : Value} {k : Nat} {ys : List Value} (hv : w.ownsRow B e sz v k ys) (hk : ys <+: (xs ++ news)) : w'.ownsRow B e sz v k ys := by
  refine ⟨hv.1, ?_⟩
  rcases hv.2 with hn | ⟨g2, cap2, cur2, rfl, hb2, hg2, hc2, hm2, hs2, ht2⟩
  · exact .inl hn
  · by_cases hgg : g2 = g
    · subst hgg
      rcases h.2 with ⟨hn, _⟩ | ⟨g1, cap1, cur1, e1, hb1, hg1, hc1, hm1, hs1, ht1⟩
      · cases hn
      simp only [Value.slice.injEq, Option.some.injEq, Addr.mk.injEq, and_true, true_and] at e1
      obtain ⟨rfl, rfl⟩ := e1
      rw [hg1] at hg2
      simp only [Option.some.injEq, Obj.cells.injEq, and_true] at hg2
      subst hg2
      rcases h'.2 with ⟨hn, _⟩ | ⟨g3, cap3, cur3, e3, hb3, hg3, hc3, hm3, hs3, ht3⟩
      · cases hn
      simp only [Value.slice.injEq, Option.some.injEq, Addr.mk.injEq, and_true, true_and] at e3
      obtain ⟨rfl, rfl⟩ := e3
      have hcc : cap2 = cap := Nat.eq_of_mul_eq_mul_right hsz (by omega)
      subst hcc
      refine .inr ⟨g2, cap2, cur3, rfl, hb2, hg3, hc2, hm2, hs3, ?_⟩
      have hle : k * sz ≤ (n + m) * sz := by have := hk.length_le; rw [hv.1, h'.1] at this; exact this
      have e4 : cur3.toList.take (k * sz) = (xs ++ news).take (k * sz) := by
        rw [← ht3, List.take_take, Nat.min_eq_left hle]
      obtain ⟨r, hr⟩ := hk
      rw [e4, ← hr, ← hv.1, List.take_left]
    · exact .inr ⟨g2, cap2, cur2, rfl, hb2, (hgr.block g2 (Array.getElem?_eq_some_iff.1 hg2).1 (fun e => hgg (Option.some.inj e))).trans hg2, hc2, hm2, hs2, ht2⟩
end Go.Proofs.YtooeahpkhocaeaaDoor
