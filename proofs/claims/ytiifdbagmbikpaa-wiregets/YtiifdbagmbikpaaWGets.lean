/- The walk of WireGets. Conditions: a slice of fields. -/
import Derived.Test.YtiifdbagmbikpaaWKeeps
import Derived.Test.YtiifdbagmbikpaaRefGet
namespace Go.Proofs.Ytiifdbagmbikpaa
open Go.RowKit

/-- What is read is the document's. -/
theorem get_ref (s : ByteArray) (f : Fld) (h1 : 0 ≤ f.kind) (h2 : f.kind ≤ 3) : getRes s 0 f = ((if (refRes s f).2.2 = 0 then (refRes s f).1 else fk f.kind), cut s (refRes s f).2.1, (refRes s f).2.2) := by
  have hte : (Wire.rd (bl s)).2.2 ≠ 0 → textOf s f.most (Wire.rd (bl s)) = (nil, 0, (Wire.rd (bl s)).2.2) := fun h => by unfold textOf; rw [if_pos h]
  have hbad := fun h => textOf_bad (s := s) (most := f.most) (r := Wire.rd (bl s)) h
  obtain hk | hk | hk | hk : f.kind = 0 ∨ f.kind = 1 ∨ f.kind = 2 ∨ f.kind = 3 := by omega
  · unfold getRes refRes numRes
    by_cases hy : (Wire.rd (bl s)).2.2 = 0
    · simp [hk, hy]
    · simp [hk, hy, cut_zero, fk, fn0]
  · unfold getRes refRes numRes
    by_cases hy : (Wire.rd (bl s)).2.2 = 0
    · simp [hk, hy]
    · simp [hk, hy, cut_zero, fk, fi1, Wire.unfold_]
  · unfold getRes refRes textRes
    by_cases hy : (Wire.rd (bl s)).2.2 = 0
    · by_cases ht : (textOf s f.most (Wire.rd (bl s))).2.2 = 0
      · simp [hk, hy, ht]
      · obtain ⟨b1, b2⟩ := hbad ht
        simp [hk, hy, ht, b1, b2, cut_zero, fk, fs2]
    · have := hte hy
      simp [hk, hy, this, cut_zero, fk, fs2]
  · unfold getRes refRes hashRes
    by_cases hz : s.size < 32
    · simp [hk, hz, cut_zero, fk, fh3]
    · simp [hk, hz]
theorem ref_le (s : ByteArray) (f : Fld) : (refRes s f).2.1 ≤ s.size ∧ (refRes s f).1.h.length = 32 := by
  have hlen : (Wire.rd (bl s)).2.2 = 0 → (Wire.rd (bl s)).2.1 ≤ s.size := fun h0 => by
    have := Wire.rd_back (bl s) (Wire.rd (bl s)).1 (Wire.rd (bl s)).2.1 (bl_bytes s) (by rw [← h0])
    rw [bl_length] at this
    exact this.1
  have hte := textOf_le s f.most
  unfold refRes
  split
  · split
    · exact ⟨by simp, rfl⟩
    · refine ⟨by simp; omega, ?_⟩
      show ((bl s).take 32).length = 32
      rw [List.length_take, bl_length]; omega
  · split
    · exact ⟨by simp, rfl⟩
    · split
      · exact ⟨hlen (by omega), rfl⟩
      · split
        · exact ⟨hlen (by omega), rfl⟩
        · split
          · exact ⟨by simp, rfl⟩
          · exact ⟨hte, rfl⟩
theorem cut_size (s : ByteArray) (n : Nat) : (cut s n).size ≤ s.size := by unfold cut; rw [ByteArray.size_extract]; omega
structure GRel (w V : World) (c : Nat) (t : ByteArray) (x : Nat) : Prop where
  below : Below w.heap.size w V
  hc : w.heap.size ≤ c
  inn : In V c t x
  small : t.size ≤ 500
set_option maxRecDepth 100000 in
set_option maxHeartbeats 8000000 in
theorem gets_walk {w : World} (s : ByteArray) (lv : Value) (fs : List Fld) (hl : Flds w lv fs) :
    Calls Try.prog 4 #[.string s, lv] w fun e w' => e = .returned (.bool true) ∧ Below w.heap.size w w' := by
  have HFl := Lib.hid hl
  obtain ⟨A, c, rfl, hc1, hc2, hok, hcell⟩ := hl
  have HOk := Lib.hid hok
  have HCell := Lib.hid hcell
  unfold maxLen at hc2
  clear hok hcell
  go_enter Try.func4, Try.ntmps4
  go_wp2_with fail
  refine (newIn_any s w).mono ?_
  rintro e w1 ⟨rfl, hw⟩
  have hI := in_new w s
  rw [← hw] at hI
  have HB1 : Hid (Below w.heap.size w w1) := by show Below _ _ _; rw [hw]; exact (Below.refl _ _).alloc (Nat.le_refl _) _
  have HI1 := Lib.hid hI
  clear hw hI
  go_wp2_with fail
  refine (awake_any w1).mono ?_
  rintro e w2 ⟨rfl, hb⟩
  have HB2 := Lib.hid (HB1.out.trans (hb.mono HB1.out.size))
  have HI2 := Lib.hid (show In w2 w.heap.size s 0 from Has.below HI1.out hb HI1.out.lt)
  have HF2 := Lib.hid (HFl.out.below HB2.out)
  clear hb HB1 HI1
  go_wp2_with fail
  by_cases hsh : Short fs
  · refine (few_yes _ fs w2 HF2.out hsh).mono ?_
    rintro e w3 ⟨rfl, rfl⟩
    by_cases h500 : s.size ≤ 500
    · have t1 : decide ((s.size : Int) > 500) = false := by simp; omega
      have h40 : fs.length ≤ 40 := hsh.2
      have HSh := Lib.hid hsh.1
      have HG0 := Lib.hid (show GRel w w2 w.heap.size s 0 from ⟨HB2.out, Nat.le_refl _, HI2.out, h500⟩)
      clear hsh HB2 HI2 HF2 h500
      go_wp2_with fail
      go_loopw [0, 6, 7] (fun u e i V => ∃ (k x : Nat) (t : ByteArray), k ≤ fs.length ∧ u = .string t ∧ e = .int .i64 (x : Int) ∧ i = .int .i64 (k : Int) ∧ GRel w V w.heap.size t x) (fun _ _ i _ => fs.length - (intOf i).toNat)
      case atStart => exact ⟨0, 0, s, by omega, rfl, rfl, rfl, HG0.out⟩
      case round =>
        clear HG0 t1
        obtain ⟨k, x, t, hk, hu, he, hi, hrel⟩ := hrel
        subst hu he hi
        have HG := Lib.hid hrel
        clear hrel
        by_cases hlt : k < fs.length
        · obtain ⟨b, o, rfl, hb, hcl⟩ := HCell.out (by omega)
          obtain ⟨f, hf⟩ : ∃ f, fs[k]? = some f := ⟨_, List.getElem?_eq_getElem hlt⟩
          have hfo := HOk.out f (List.mem_of_getElem? hf)
          have hfs := HSh.out f (List.mem_of_getElem? hf)
          have hrw : w.rangeAt b (o + k * 37) f.cells := flds_range (hcl k f hf)
          have hk0 : w.cell? ⟨b, o + k * 37, none⟩ = some (.int .i64 f.kind) := by simpa using hcl k f hf 0 _ rfl
          have HRW := Lib.hid hrw
          have HKc := Lib.hid hk0
          have HFo := Lib.hid hfo
          have HKd : Hid (0 ≤ f.kind ∧ f.kind ≤ 3) := ⟨hfs.2.1, hfs.2.2⟩
          have HSz : Hid ((Try.prog.info? 32).map (·.size) = some f.cells.length) := by show _ = _; rw [size32, Fld.len hfo]
          have HZ : Hid (Has (wr.alloc (.cells (fn0 0).cells.toArray 32)) wr.heap.size 32 (fn0 0).cells) := Has.new _ _ _
          obtain ⟨X1, hX1, hH1, hB1, hN1⟩ := box_new wr (fn0 0)
          have HX1 := Lib.hid hX1
          have HH1 := Lib.hid hH1
          have HN1 := Lib.hid hN1
          have hcw : w.heap.size < wr.heap.size := HG.out.inn.lt
          have HG1 := Lib.hid (show GRel w X1 w.heap.size t x from ⟨HG.out.below.trans (hB1.mono HG.out.below.size), HG.out.hc, Has.below HG.out.inn hB1 hcw, HG.out.small⟩)
          have HR1 : Hid (X1.rangeAt b (o + k * 37) f.cells) := fun j u hu => by rw [HG1.out.below.cell (p := ⟨b, o + k * 37 + j, none⟩) hb]; exact HRW.out j u hu
          have HCw := Lib.hid hcw
          clear hcl hf hfo hfs hrw hk0 hX1 hH1 hB1 hN1 hcw
          by_cases hx : x = 0
          · subst hx
            have hrg := refGet_any t f X1 HFo.out (by have := HG1.out.small; omega) HKd.out.1 HKd.out.2
            have hgr := get_ref t f HKd.out.1 HKd.out.2
            obtain ⟨hle, hhl⟩ := ref_le t f
            have HRg := Lib.hid hrg
            have HGr := Lib.hid hgr
            have HHl := Lib.hid hhl
            clear hrg hgr hhl
            generalize refRes t f = r at *
            obtain ⟨R, n, y⟩ := r
            simp only at hle
            have hR32 : R.h.length = 32 := HHl.out
            have HR32 := Lib.hid hR32
            have HSr := Lib.hid (info32 hR32)
            have HEr := Lib.hid ((fld_size (f := fn0 0) rfl).trans (fld_size hR32).symm)
            clear hR32 HHl
            go_wp2_with (first
              | (refine wpList_store_row rfl 32 (.tmp 8) (.tmp 37) rfl wr.heap.size (fn0 0).cells.toArray rfl rfl 32 _ HZ.out (info32 rfl) rfl (fld_one _) ?_; (change wpList _ _ _ _ _ ((wr.alloc (.cells (fn0 0).cells.toArray 32)).setRow wr.heap.size (fn0 0).cells.toArray)); rw [HX1.out])
              | (refine wpList_load_mid rfl 32 (.tmp 45) rfl b (o + k * 37) rfl f.cells _ HR1.out Try.underlying32 rfl HSz.out ?_))
            refine HRg.out.mono ?_
            rintro e w4 ⟨rfl, hb4⟩
            unfold refVal Fld.val
            have hH4 : Has w4 wr.heap.size 32 (fn0 0).cells := HH1.out.below hb4 HH1.out.lt
            have hG4 : GRel w w4 w.heap.size t 0 := ⟨HG1.out.below.trans (hb4.mono HG1.out.below.size), HG1.out.hc, Has.below HG1.out.inn hb4 HG1.out.inn.lt, HG1.out.small⟩
            obtain ⟨X2, hX2⟩ : ∃ X, w4.setRow wr.heap.size R.cells.toArray = X := ⟨_, rfl⟩
            have hH2 : Has X2 wr.heap.size 32 R.cells := by rw [← hX2]; exact setRow_heap _ _ _ _ 32 (0, 0) hH4
            have hG2 : GRel w X2 w.heap.size t 0 := by
              rw [← hX2]
              exact ⟨below_row hG4.below (by have := HCw.out; omega) _, hG4.hc, (setRow_other _ _ _ _ (by have := HCw.out; omega)).trans hG4.inn, hG4.small⟩
            have HR2 : Hid (X2.rangeAt b (o + k * 37) f.cells) := fun j u hu => by rw [hG2.below.cell (p := ⟨b, o + k * 37 + j, none⟩) hb]; exact HRW.out j u hu
            have HX2 := Lib.hid hX2
            have HH4 := Lib.hid hH4
            have HH2 := Lib.hid hH2
            have HG2 := Lib.hid hG2
            clear hb4 hH4 hG4 hX2 hH2 hG2 HR1 HX1 HH1 HG1 HZ HRg
            go_wp2_with (first
              | (refine wpList_store_row rfl 32 (.tmp 8) (.tmp 48) rfl wr.heap.size R.cells.toArray rfl rfl 32 _ HH4.out HSr.out HEr.out (fld_one _) ?_; rw [HX2.out])
              | (refine wpList_load_mid rfl 32 (.tmp 54) rfl b (o + k * 37) rfl f.cells _ HR2.out Try.underlying32 rfl HSz.out ?_))
            refine (get_any w.heap.size t 0 f X2 HFo.out (by have := HG2.out.small; omega) HG2.out.inn).mono ?_
            rintro e w5 ⟨rfl, hd⟩
            rw [HGr.out] at hd ⊢
            unfold Fld.val
            simp only at hd ⊢
            have hH5 : Has w5 wr.heap.size 32 R.cells := HH2.out.fr hd.2 (by have := HCw.out; omega) (by simp [nul, Value.ownBlock])
            obtain ⟨U, hU⟩ : ∃ U, cut t n = U := ⟨_, rfl⟩
            rw [hU] at hd
            have hU2 : t.extract n t.size = U := hU
            have hUs : U.size ≤ 500 := by rw [← hU]; have := cut_size t n; have := HG2.out.small; omega
            have hG5 : GRel w w5 w.heap.size U y := ⟨fr_nul HG2.out.below (Nat.le_refl _) hd.2, HG2.out.hc, hd.1, hUs⟩
            have HG5 := Lib.hid hG5
            have HH5 := Lib.hid hH5
            have hq5 := hH5.lt
            have HQ5 := Lib.hid hq5
            clear hd hH5 hG5 hU hUs hq5 HX2 HH4 HH2 HG2 HR2 HGr
            by_cases hy : y = 0
            · subst hy
              rw [if_pos rfl]
              obtain ⟨X3, hX3, hH3, hB3, hN3⟩ := box_new w5 R
              have HX3 := Lib.hid hX3
              have HH3 := Lib.hid hH3
              have H3a := Lib.hid (HH5.out.below hB3 HQ5.out)
              have HG3 := Lib.hid (show GRel w X3 w.heap.size U 0 from ⟨HG5.out.below.trans (hB3.mono HG5.out.below.size), HG5.out.hc, Has.below HG5.out.inn hB3 HG5.out.inn.lt, HG5.out.small⟩)
              have HZ5 : Hid (Has (w5.alloc (.cells (fn0 0).cells.toArray 32)) w5.heap.size 32 (fn0 0).cells) := Has.new _ _ _
              clear hX3 hH3 hB3 hN3
              go_wp2_with (first
                | (refine wpList_store_row rfl 32 (.tmp 11) (.tmp 56) rfl w5.heap.size R.cells.toArray rfl rfl 32 _ HZ5.out HSr.out HEr.out (fld_one _) ?_; (change wpList _ _ _ _ _ ((w5.alloc (.cells (fn0 0).cells.toArray 32)).setRow w5.heap.size R.cells.toArray)); rw [HX3.out])
                | (refine wpList_neq_same rfl (.tmp 69) (.tmp 70) rfl R HR32.out rfl rfl ?_)
                | (refine wpList_load_row rfl 32 (.tmp 11) rfl w5.heap.size rfl 32 _ (0, 0) _ HH3.out Try.underlying32 rfl HSr.out ?_)
                | (refine wpList_load_row rfl 32 (.tmp 8) rfl wr.heap.size rfl 32 _ (0, 0) _ H3a.out Try.underlying32 rfl HSr.out ?_))
              refine (err_any w.heap.size U 0 X3 HG3.out.inn).mono ?_
              rintro e w6 ⟨rfl, rfl⟩
              go_wp2_with fail
              refine (left_any w.heap.size U 0 X3 HG3.out.inn).mono ?_
              rintro e w6 ⟨rfl, rfl⟩
              go_wp2
              exact ⟨⟨k + 1, 0, U, by omega, rfl, rfl, by go_num, HG3.out⟩, by simp [intOf]; omega⟩
            · rw [if_neg hy]
              have t5 : ((y : Int) != 0) = true := by simp; omega
              obtain ⟨X3, hX3, hH3, hB3, hN3⟩ := box_new w5 (fk f.kind)
              have hH3a : Has X3 wr.heap.size 32 R.cells := HH5.out.below hB3 HQ5.out
              have hG3 : GRel w X3 w.heap.size U y := ⟨HG5.out.below.trans (hB3.mono HG5.out.below.size), HG5.out.hc, Has.below HG5.out.inn hB3 HG5.out.inn.lt, HG5.out.small⟩
              have c3 : X3.cell? ⟨b, o + k * 37, none⟩ = some (.int .i64 f.kind) := by rw [hG3.below.cell (p := ⟨b, o + k * 37, none⟩) hb]; exact HKc.out
              obtain ⟨X4, hX4⟩ : ∃ X, X3.setRow wr.heap.size (fk f.kind).cells.toArray = X := ⟨_, rfl⟩
              have HH4a : Hid (Has X4 wr.heap.size 32 (fk f.kind).cells) := by show Has _ _ _ _; rw [← hX4]; exact setRow_heap _ _ _ _ 32 (0, 0) hH3a
              have HH4b : Hid (Has X4 w5.heap.size 32 (fk f.kind).cells) := by show Has _ _ _ _; rw [← hX4]; exact (setRow_other _ _ _ _ (by have := HQ5.out; omega)).trans hH3
              have HG4 : Hid (GRel w X4 w.heap.size U y) := by
                show GRel _ _ _ _ _
                rw [← hX4]
                exact ⟨below_row hG3.below (by have := HCw.out; omega) _, hG3.hc, (setRow_other _ _ _ _ (by have := HCw.out; omega)).trans hG3.inn, hG3.small⟩
              have HX3 := Lib.hid hX3
              have HX4 := Lib.hid hX4
              have H3a := Lib.hid hH3a
              have HSf := Lib.hid (info32 (f := fk f.kind) rfl)
              have HZ5 : Hid (Has (w5.alloc (.cells (fn0 0).cells.toArray 32)) w5.heap.size 32 (fn0 0).cells) := Has.new _ _ _
              clear hX3 hH3 hB3 hN3 hX4 hH3a hG3
              go_wp2_with (first
                | (refine wpList_store_row rfl 32 (.tmp 11) (.tmp 56) rfl w5.heap.size (fk f.kind).cells.toArray rfl rfl 32 _ HZ5.out HSf.out rfl (fld_one _) ?_; (change wpList _ _ _ _ _ ((w5.alloc (.cells (fn0 0).cells.toArray 32)).setRow w5.heap.size (fk f.kind).cells.toArray)); rw [HX3.out])
                | (refine wpList_store_row rfl 32 (.tmp 8) (.tmp 64) rfl wr.heap.size (fk f.kind).cells.toArray rfl rfl 32 _ H3a.out HSf.out ((fld_size HR32.out).trans (fld_size (f := fk f.kind) rfl).symm) (fld_one _) ?_; rw [HX4.out])
                | (refine wpList_neq_same rfl (.tmp 69) (.tmp 70) rfl (fk f.kind) rfl rfl rfl ?_)
                | (refine wpList_load_row rfl 32 (.tmp 11) rfl w5.heap.size rfl 32 _ (0, 0) _ HH4b.out Try.underlying32 rfl HSf.out ?_)
                | (refine wpList_load_row rfl 32 (.tmp 8) rfl wr.heap.size rfl 32 _ (0, 0) _ HH4a.out Try.underlying32 rfl HSf.out ?_))
              refine (err_any w.heap.size U y X4 HG4.out.inn).mono ?_
              rintro e w6 ⟨rfl, rfl⟩
              go_wp2_with fail
              refine (left_any w.heap.size U y X4 HG4.out.inn).mono ?_
              rintro e w6 ⟨rfl, rfl⟩
              go_wp2
              exact ⟨⟨k + 1, y, U, by omega, rfl, rfl, by go_num, HG4.out⟩, by simp [intOf]; omega⟩
          · have t2 : ((x : Int) == 0) = false := by simp; omega
            have t5 : ((x : Int) != 0) = true := by simp; omega
            have HKr := Lib.hid (keep_res t x f hx HKd.out.1 HKd.out.2)
            have hU0 : t.extract 0 t.size = t := by simp
            go_wp2_with (first
              | (refine wpList_store_row rfl 32 (.tmp 8) (.tmp 37) rfl wr.heap.size (fn0 0).cells.toArray rfl rfl 32 _ HZ.out (info32 rfl) rfl (fld_one _) ?_; (change wpList _ _ _ _ _ ((wr.alloc (.cells (fn0 0).cells.toArray 32)).setRow wr.heap.size (fn0 0).cells.toArray)); rw [HX1.out])
              | (refine wpList_load_mid rfl 32 (.tmp 54) rfl b (o + k * 37) rfl f.cells _ HR1.out Try.underlying32 rfl HSz.out ?_))
            refine (get_any w.heap.size t x f X1 HFo.out (by have := HG1.out.small; omega) HG1.out.inn).mono ?_
            rintro e w5 ⟨rfl, hd⟩
            rw [HKr.out] at hd ⊢
            unfold Fld.val
            simp only at hd ⊢
            have hH5 : Has w5 wr.heap.size 32 (fn0 0).cells := HH1.out.fr hd.2 (by have := HCw.out; omega) (by simp [nul, Value.ownBlock])
            have hG5 : GRel w w5 w.heap.size t x := ⟨fr_nul HG1.out.below (Nat.le_refl _) hd.2, HG1.out.hc, hd.1, HG1.out.small⟩
            have HQ5 := Lib.hid hH5.lt
            obtain ⟨X3, hX3, hH3, hB3, hN3⟩ := box_new w5 (fk f.kind)
            have hH3a : Has X3 wr.heap.size 32 (fn0 0).cells := hH5.below hB3 HQ5.out
            have hG3 : GRel w X3 w.heap.size t x := ⟨hG5.below.trans (hB3.mono hG5.below.size), hG5.hc, Has.below hG5.inn hB3 hG5.inn.lt, hG5.small⟩
            have c3 : X3.cell? ⟨b, o + k * 37, none⟩ = some (.int .i64 f.kind) := by rw [hG3.below.cell (p := ⟨b, o + k * 37, none⟩) hb]; exact HKc.out
            clear hd hH5 hG5 HX1 HH1 HG1 HR1 HZ HKr
            obtain ⟨X4, hX4⟩ : ∃ X, X3.setRow wr.heap.size (fk f.kind).cells.toArray = X := ⟨_, rfl⟩
            have HH4a : Hid (Has X4 wr.heap.size 32 (fk f.kind).cells) := by show Has _ _ _ _; rw [← hX4]; exact setRow_heap _ _ _ _ 32 (0, 0) hH3a
            have HH4b : Hid (Has X4 w5.heap.size 32 (fk f.kind).cells) := by show Has _ _ _ _; rw [← hX4]; exact (setRow_other _ _ _ _ (by have := HQ5.out; omega)).trans hH3
            have HG4 : Hid (GRel w X4 w.heap.size t x) := by
              show GRel _ _ _ _ _
              rw [← hX4]
              exact ⟨below_row hG3.below (by have := HCw.out; omega) _, hG3.hc, (setRow_other _ _ _ _ (by have := HCw.out; omega)).trans hG3.inn, hG3.small⟩
            have HX3 := Lib.hid hX3
            have HX4 := Lib.hid hX4
            have H3a := Lib.hid hH3a
            have HSf := Lib.hid (info32 (f := fk f.kind) rfl)
            have HZ5 : Hid (Has (w5.alloc (.cells (fn0 0).cells.toArray 32)) w5.heap.size 32 (fn0 0).cells) := Has.new _ _ _
            clear hX3 hH3 hB3 hN3 hX4 hH3a hG3
            go_wp2_with (first
              | (refine wpList_store_row rfl 32 (.tmp 11) (.tmp 56) rfl w5.heap.size (fk f.kind).cells.toArray rfl rfl 32 _ HZ5.out HSf.out rfl (fld_one _) ?_; (change wpList _ _ _ _ _ ((w5.alloc (.cells (fn0 0).cells.toArray 32)).setRow w5.heap.size (fk f.kind).cells.toArray)); rw [HX3.out])
              | (refine wpList_store_row rfl 32 (.tmp 8) (.tmp 64) rfl wr.heap.size (fk f.kind).cells.toArray rfl rfl 32 _ H3a.out HSf.out ((fld_size (f := fn0 0) rfl).trans (fld_size (f := fk f.kind) rfl).symm) (fld_one _) ?_; rw [HX4.out])
              | (refine wpList_neq_same rfl (.tmp 69) (.tmp 70) rfl (fk f.kind) rfl rfl rfl ?_)
              | (refine wpList_load_row rfl 32 (.tmp 11) rfl w5.heap.size rfl 32 _ (0, 0) _ HH4b.out Try.underlying32 rfl HSf.out ?_)
              | (refine wpList_load_row rfl 32 (.tmp 8) rfl wr.heap.size rfl 32 _ (0, 0) _ HH4a.out Try.underlying32 rfl HSf.out ?_))
            refine (err_any w.heap.size t x X4 HG4.out.inn).mono ?_
            rintro e w6 ⟨rfl, rfl⟩
            go_wp2_with fail
            refine (left_any w.heap.size t x X4 HG4.out.inn).mono ?_
            rintro e w6 ⟨rfl, rfl⟩
            go_wp2
            exact ⟨⟨k + 1, x, t, by omega, rfl, rfl, by go_num, HG4.out⟩, by simp [intOf]; omega⟩
        · obtain rfl : k = fs.length := by omega
          have HB := Lib.hid HG.out.below
          have HI := Lib.hid HG.out.inn
          clear HG
          by_cases hx : x = 0
          · subst hx
            by_cases ht : t.size = 0
            · have hte : t = ⟨#[]⟩ := ByteArray.ext (Array.eq_empty_of_size_eq_zero ht)
              subst hte
              go_wp2_with fail
              refine (end_any w.heap.size _ 0 wr HI.out).mono ?_
              rintro e w6 ⟨rfl, rfl⟩
              rw [show endOf ⟨#[]⟩ 0 = 0 by decide +kernel]
              go_wp2
              go_ret
              exact ⟨rfl, HB.out⟩
            · have hne : t ≠ ⟨#[]⟩ := fun e => ht (by rw [e]; rfl)
              obtain ⟨q1, q2⟩ := str_ne2 hne
              have q3 : (t != ⟨#[]⟩) = true := by rw [bne, q1]; rfl
              have q4 : (!t.toList.isEmpty) = true := by
                cases hd : t.toList with
                | nil => exact absurd (ByteArray.ext (Array.ext' (by rw [← ByteArray.toList_eq, hd]))) hne
                | cons a l => rfl
              have HEnd := Lib.hid (show endOf t 0 = 22 by unfold endOf; rw [if_pos ⟨rfl, by omega⟩])
              clear hne
              go_wp2_with fail
              refine (end_any w.heap.size _ 0 wr HI.out).mono ?_
              rintro e w6 ⟨rfl, rfl⟩
              rw [HEnd.out]
              go_wp2
              go_ret
              exact ⟨rfl, HB.out⟩
          · have t2 : ((x : Int) == 0) = false := by simp; omega
            have HEnd := Lib.hid (show endOf t x = x by unfold endOf; rw [if_neg (by omega)])
            go_wp2_with fail
            refine (end_any w.heap.size _ x wr HI.out).mono ?_
            rintro e w6 ⟨rfl, rfl⟩
            rw [HEnd.out]
            go_wp2
            go_ret
            exact ⟨rfl, HB.out⟩
    · have t1 : decide ((s.size : Int) > 500) = true := by simp; omega
      go_wp2_with fail
      refine (awake_any w2).mono ?_
      rintro e w3 ⟨rfl, hb⟩
      go_wp2
      go_ret
      exact ⟨rfl, HB2.out.trans (hb.mono HB2.out.size)⟩
  · refine (few_no _ fs w2 HF2.out hsh).mono ?_
    rintro e w3 ⟨rfl, rfl⟩
    go_wp2_with fail
    refine (awake_any w2).mono ?_
    rintro e w3 ⟨rfl, hb⟩
    go_wp2
    go_ret
    exact ⟨rfl, HB2.out.trans (hb.mono HB2.out.size)⟩
end Go.Proofs.Ytiifdbagmbikpaa
