/- The walk of WirePuts. Conditions: a slice of fields. -/
import Derived.Test.YtiifdbagmbikpaaAwake
import Derived.Test.YtiifdbagmbikpaaEq2
import Derived.Test.YtiifdbagmbikpaaPutsMath
import Derived.Test.YtiifdbagmbikpaaRefPut
namespace Go.Proofs.Ytiifdbagmbikpaa
open Go.RowKit

theorem done_str (b : Nat) (v : Value) (l : List Nat) (s : ByteArray) (w : World) (hs : S l = s) (h : Out w b v l) :
    Calls Try.prog 16 #[.pointer (some ⟨b, 0, none⟩)] w fun e w' => e = .returned (.string s) ∧ w = w' := by
  rw [← hs]; exact done_any b v l w h
theorem refPut_str (f : Fld) (s : ByteArray) (w : World) (hf : f.Ok) (hz : f.s.size ≤ 300) (hs : S f.bytes = s) :
    Calls Try.prog 15 #[.agg f.cells.toArray] w fun e w' => e = .returned (.string s) ∧ Below w.heap.size w w' := by
  rw [← hs]; exact refPut_any f w hf hz
/-- Behind k readings. -/
structure PRel (w V : World) (c k : Nat) (fs : List Fld) (more : ByteArray) : Prop where
  below : Below w.heap.size w V
  hc : w.heap.size ≤ c
  inn : In V c (S (encF (fs.drop k) ++ bl more)) 0
set_option maxRecDepth 100000 in
set_option maxHeartbeats 8000000 in
theorem puts_walk {w : World} (lv : Value) (fs : List Fld) (hl : Flds w lv fs) (more : ByteArray) :
    Calls Try.prog 3 #[lv, .string more] w fun e w' => e = .returned (.bool true) ∧ Below w.heap.size w w' := by
  have HFl := Lib.hid hl
  obtain ⟨A, c, rfl, hc1, hc2, hok, hcell⟩ := hl
  have HOk := Lib.hid hok
  have HCell := Lib.hid hcell
  unfold maxLen at hc2
  clear hok hcell
  go_enter Try.func3, Try.ntmps3
  go_wp2_with fail
  refine (newOut_any w).mono ?_
  rintro e w1 ⟨rfl, hw⟩
  have hO := OB.new (Below.refl w.heap.size w)
  rw [← hw] at hO
  have H1 := Lib.hid hO
  clear hw hO
  go_wp2_with fail
  refine (awake_any w1).mono ?_
  rintro e w2 ⟨rfl, hb⟩
  have H2 := Lib.hid (show OB w w2 w.heap.size (.slice none 0 0) [] from ⟨H1.out.out.below hb, H1.out.hb, H1.out.own, H1.out.below.trans (hb.mono H1.out.below.size)⟩)
  have HF2 := Lib.hid (HFl.out.below H2.out.below)
  clear hb H1
  go_wp2_with fail
  by_cases hsh : Short fs
  · refine (few_yes _ fs w2 HF2.out hsh).mono ?_
    rintro e w3 ⟨rfl, rfl⟩
    by_cases h100 : more.size ≤ 100
    · have t1 : decide ((more.size : Int) > 100) = false := by simp; omega
      have h40 : fs.length ≤ 40 := hsh.2
      have HSh := Lib.hid hsh.1
      clear hsh
      have HE0 := Lib.hid (show OB w w2 w.heap.size (.slice none 0 0) (encF (fs.take 0)) from H2.out)
      have HS0 : Hid (S (encF (fs.take 0)) = ⟨#[]⟩) := rfl
      clear HF2 H2
      go_wp2_with fail
      go_loopw [6, 7] (fun s i V => ∃ (k : Nat) (v : Value), k ≤ fs.length ∧ i = .int .i64 (k : Int) ∧ s = .string (S (encF (fs.take k))) ∧ OB w V w.heap.size v (encF (fs.take k))) (fun _ i _ => fs.length - (intOf i).toNat)
      case atStart => exact ⟨0, _, by omega, rfl, rfl, HE0.out⟩
      case round =>
        clear HE0 HS0
        obtain ⟨k, v, hk, hi, hs, hO⟩ := hrel
        subst hi hs
        have HO := Lib.hid hO
        clear hO
        have hel : (encF (fs.take k)).length ≤ 20000 := by
          have := encF_le (fs.take k) (fun f hf => HOk.out f (List.mem_of_mem_take hf)) (fun f hf => HSh.out f (List.mem_of_mem_take hf))
          rw [List.length_take] at this; omega
        by_cases hlt : k < fs.length
        · obtain ⟨b, o, rfl, hb, hcl⟩ := HCell.out (by omega)
          obtain ⟨f, hf⟩ : ∃ f, fs[k]? = some f := ⟨_, List.getElem?_eq_getElem hlt⟩
          have hfo := HOk.out f (List.mem_of_getElem? hf)
          have hfs := HSh.out f (List.mem_of_getElem? hf)
          have hstep := encF_step fs k f hf
          have hrw : w.rangeAt b (o + k * 37) f.cells := flds_range (hcl k f hf)
          have hr0 : wr.rangeAt b (o + k * 37) f.cells := fun j u hu => by rw [HO.out.below.cell (p := ⟨b, o + k * 37 + j, none⟩) hb]; exact hrw j u hu
          have HRW := Lib.hid hrw
          have HR0 := Lib.hid hr0
          have HFo := Lib.hid hfo
          have HFs := Lib.hid hfs
          have HSz : Hid ((Try.prog.info? 32).map (·.size) = some f.cells.length) := by show _ = _; rw [size32, Fld.len hfo]
          have hbl := Fld.bytes_le hfo hfs.1
          obtain ⟨Sk, hSk⟩ : ∃ s, S (encF (fs.take k)) = s := ⟨_, rfl⟩
          obtain ⟨Sf, hSf⟩ : ∃ s, S f.bytes = s := ⟨_, rfl⟩
          have hS1 : S (encF (fs.take (k + 1))) = Sk ++ Sf := by rw [hstep, S_append, hSk, hSf]
          have hz1 : Sk.size ≤ 20000 := by rw [← hSk, S_size]; exact hel
          have hz2 : Sf.size ≤ 310 := by rw [← hSf, S_size]; exact hbl
          have hz3 : ¬ 9223372036854775807 < Sk.size + Sf.size := by omega
          have HStep := Lib.hid hstep
          have HSk := Lib.hid hSk
          have HSf := Lib.hid hSf
          have HS1 := Lib.hid hS1
          have HEl := Lib.hid hel
          rw [hSk]
          clear hcl hf hfo hfs hrw hr0 hbl hSk hSf hS1 hstep hel
          go_wp2_with (refine wpList_load_mid rfl 32 (.tmp 40) rfl b (o + k * 37) rfl f.cells _ HR0.out Try.underlying32 rfl HSz.out ?_)
          refine (put_any w.heap.size f v _ wr HFo.out HFs.out.1 HO.out.out (by have := HEl.out; omega)).mono ?_
          rintro e w3 ⟨rfl, hw⟩
          obtain ⟨v3, ho3, _, _⟩ := HO.out.wrote hw
          rw [← HStep.out] at ho3
          have H3 := Lib.hid ho3
          have HR3 : Hid (w3.rangeAt b (o + k * 37) f.cells) := fun j u hu => by rw [H3.out.below.cell (p := ⟨b, o + k * 37 + j, none⟩) hb]; exact HRW.out j u hu
          clear hw ho3 HO HR0
          go_wp2_with (refine wpList_load_mid rfl 32 (.tmp 46) rfl b (o + k * 37) rfl f.cells _ HR3.out Try.underlying32 rfl HSz.out ?_)
          refine (refPut_str f Sf w3 HFo.out HFs.out.1 HSf.out).mono ?_
          rintro e w4 ⟨rfl, hb4⟩
          have H4 := Lib.hid (show OB w w4 w.heap.size v3 (encF (fs.take (k + 1))) from ⟨H3.out.out.below hb4, H3.out.hb, H3.out.own, H3.out.below.trans (hb4.mono H3.out.below.size)⟩)
          clear hb4 H3 HR3
          go_wp2_with fail
          refine (done_str w.heap.size v3 _ (Sk ++ Sf) w4 HS1.out H4.out.out).mono ?_
          rintro e w5 ⟨rfl, rfl⟩
          go_wp2
          exact ⟨⟨k + 1, v3, by omega, by go_num, by rw [HS1.out], H4.out⟩, by simp [intOf]; omega⟩
        · obtain rfl : k = fs.length := by omega
          rw [List.take_length] at HO hel ⊢
          obtain ⟨Sn, hSn⟩ : ∃ s, S (encF fs) = s := ⟨_, rfl⟩
          have hz1 : Sn.size ≤ 20000 := by rw [← hSn, S_size]; exact hel
          have hz3 : ¬ 9223372036854775807 < Sn.size + more.size := by omega
          have hT : Sn ++ more = S (encF (fs.drop 0) ++ bl more) := by rw [← hSn, S_append, S_bl]; rfl
          rw [hSn]
          have HT := Lib.hid hT
          clear hSn hT hel
          go_wp2_with fail
          rw [HT.out]
          refine (newIn_any _ wr).mono ?_
          rintro e w4 ⟨rfl, hw⟩
          have hI := in_new wr (S (encF (fs.drop 0) ++ bl more))
          rw [← hw] at hI
          have hba : Below wr.heap.size wr w4 := by rw [hw]; exact (Below.refl _ _).alloc (Nat.le_refl _) _
          have HP0 := Lib.hid (show PRel w w4 wr.heap.size 0 fs more from ⟨HO.out.below.trans (hba.mono HO.out.below.size), HO.out.below.size, hI⟩)
          clear hI hba hw HO
          generalize wr.heap.size = cc at *
          go_wp2_with fail
          go_loopw [9] (fun i V => ∃ k : Nat, k ≤ fs.length ∧ i = .int .i64 (k : Int) ∧ PRel w V cc k fs more) (fun i _ => fs.length - (intOf i).toNat)
          case atStart => exact ⟨0, by omega, rfl, HP0.out⟩
          case round =>
            clear HP0
            obtain ⟨k, hk, hi, hrel⟩ := hrel
            subst hi
            have HP := Lib.hid hrel
            clear hrel
            by_cases hlt : k < fs.length
            · obtain ⟨b, o, rfl, hb, hcl⟩ := HCell.out (by omega)
              obtain ⟨f, hf⟩ : ∃ f, fs[k]? = some f := ⟨_, List.getElem?_eq_getElem hlt⟩
              have hfo := HOk.out f (List.mem_of_getElem? hf)
              have hfs := HSh.out f (List.mem_of_getElem? hf)
              have hrw : w.rangeAt b (o + k * 37) f.cells := flds_range (hcl k f hf)
              have HR0 : Hid (wr.rangeAt b (o + k * 37) f.cells) := fun j u hu => by rw [HP.out.below.cell (p := ⟨b, o + k * 37 + j, none⟩) hb]; exact hrw j u hu
              have hrest : ∀ x ∈ encF (fs.drop (k + 1)) ++ bl more, x < 256 := fun x hx => by
                rcases List.mem_append.1 hx with h | h
                · exact encF_bytes _ (fun f hf => HOk.out f (List.mem_of_mem_drop hf)) x h
                · exact bl_bytes more x h
              have hgb := get_back f (encF (fs.drop (k + 1)) ++ bl more) hfo hfs hrest
              have hinn := HP.out.inn
              rw [encF_drop fs k f hf, List.append_assoc] at hinn
              have hsz : (S (f.bytes ++ (encF (fs.drop (k + 1)) ++ bl more))).size ≤ 100000 := by
                rw [S_size]
                have h1 := encF_le (fs.drop k) (fun f hf => HOk.out f (List.mem_of_mem_drop hf)) (fun f hf => HSh.out f (List.mem_of_mem_drop hf))
                rw [encF_drop fs k f hf, List.length_append, List.length_drop] at h1
                simp only [List.length_append, bl_length]
                omega
              have HGb := Lib.hid hgb
              have HInn := Lib.hid hinn
              have HSz2 := Lib.hid hsz
              have HFo := Lib.hid hfo
              have HSz : Hid ((Try.prog.info? 32).map (·.size) = some f.cells.length) := by show _ = _; rw [size32, Fld.len hfo]
              have HSa := Lib.hid (info32 hfo.hl)
              have HEq := Lib.hid ((fld_size (f := fn0 0) rfl).trans (fld_size hfo.hl).symm)
              have HZ : Hid (Has (wr.alloc (.cells (fn0 0).cells.toArray 32)) wr.heap.size 32 (fn0 0).cells) := Has.new _ _ _
              obtain ⟨X1, hX1, hH1, hB1, hN1⟩ := box_new wr f
              have HX1 := Lib.hid hX1
              have c1 : X1.cell? ⟨wr.heap.size, 1, none⟩ = some (.int .i64 f.most) := hH1.cell 1
              have z1 : X1.frozen? ⟨wr.heap.size, 1, none⟩ = false := hH1.open_ 1
              have HH2 := Lib.hid (has_most hH1 300)
              have hcl1 : cc < wr.heap.size := HInn.out.lt
              have hI2 : In (X1.setCell ⟨wr.heap.size, 1, none⟩ (.int .i64 300)) cc (S (f.bytes ++ (encF (fs.drop (k + 1)) ++ bl more))) 0 := Has.far (Has.below HInn.out hB1 hcl1) (by simp; omega) _
              have HI2 := Lib.hid hI2
              have HB2 : Hid (Below wr.heap.size wr (X1.setCell ⟨wr.heap.size, 1, none⟩ (.int .i64 300))) := hB1.setCell (by simp) _
              have HN2 : Hid ((X1.setCell ⟨wr.heap.size, 1, none⟩ (.int .i64 300)).heap.size = wr.heap.size + 1) := by show _ = _; rw [← hN1]; simp [World.setCell]
              have HFm := Lib.hid (fmost_ok hfo 300 (by omega) (by omega))
              have HSm := Lib.hid (info32 (fmost_ok hfo 300 (by omega) (by omega)).hl)
              have HKd : Hid (0 ≤ f.kind ∧ f.kind ≤ 3) := ⟨hfs.2.1, hfs.2.2⟩
              have HCl := Lib.hid (canon_len hfo)
              have HCc := Lib.hid hcl1
              clear hcl hf hfo hfs hrw hrest hgb hinn hsz hX1 hH1 hB1 hN1 hI2 hcl1
              go_wp2_with (first
                | (refine wpList_load_mid rfl 32 (.tmp 68) rfl b (o + k * 37) rfl f.cells _ HR0.out Try.underlying32 rfl HSz.out ?_)
                | (refine wpList_store_row rfl 32 (.tmp 10) (.tmp 69) rfl wr.heap.size f.cells.toArray rfl rfl 32 _ HZ.out HSa.out HEq.out (fld_one _) ?_; (change wpList _ _ _ _ _ ((wr.alloc (.cells (fn0 0).cells.toArray 32)).setRow wr.heap.size f.cells.toArray)); rw [HX1.out])
                | (refine wpList_load_row rfl 32 (.tmp 10) rfl wr.heap.size rfl 32 _ (0, 0) _ HH2.out Try.underlying32 rfl HSm.out ?_))
              refine (get_any cc _ 0 (fmost f 300) _ HFm.out HSz2.out HI2.out).mono ?_
              rintro e w5 ⟨rfl, hd⟩
              rw [HGb.out] at hd ⊢
              unfold Fld.val
              have hH5 : Has w5 wr.heap.size 32 (fmost f 300).cells := HH2.out.fr hd.2 (by have := HCc.out; omega) (by simp [nul, Value.ownBlock])
              have hq5 : wr.heap.size < w5.heap.size := hH5.lt
              obtain ⟨X3, hX3, hH3, hB3, hN3⟩ := box_new w5 (canon f)
              have hA3 : Has X3 wr.heap.size 32 (fmost f 300).cells := hH5.below hB3 hq5
              have c3 : X3.cell? ⟨wr.heap.size, 1, none⟩ = some (.int .i64 300) := hA3.cell 1
              have z3 : X3.frozen? ⟨wr.heap.size, 1, none⟩ = false := hA3.open_ 1
              have d0 : X3.cell? ⟨wr.heap.size, 0, none⟩ = some (.int .i64 f.kind) := hA3.cell 0
              have d2 : X3.cell? ⟨wr.heap.size, 2, none⟩ = some (.int .u64 (f.n : Int)) := hA3.cell 2
              have d3 : X3.cell? ⟨wr.heap.size, 3, none⟩ = some (.int .i64 f.i) := hA3.cell 3
              have d4 : X3.cell? ⟨wr.heap.size, 4, none⟩ = some (.string f.s) := hA3.cell 4
              have hA4 : Has (X3.setCell ⟨wr.heap.size, 1, none⟩ (.int .i64 0)) wr.heap.size 32 (fmost f 0).cells := has_most hA3 0
              have hH4 : Has (X3.setCell ⟨wr.heap.size, 1, none⟩ (.int .i64 0)) w5.heap.size 32 (canon f).cells := hH3.far (by simp; omega) _
              have HRh := Lib.hid (fld_range2 hA4)
              have hIc : In (X3.setCell ⟨wr.heap.size, 1, none⟩ (.int .i64 0)) cc (S (encF (fs.drop (k + 1)) ++ bl more)) 0 := Has.far (Has.below hd.1 hB3 hd.1.lt) (by have := HCc.out; simp; omega) _
              obtain ⟨X5, hX5⟩ : ∃ X, (X3.setCell ⟨wr.heap.size, 1, none⟩ (.int .i64 0)).setRow wr.heap.size (canon f).cells.toArray = X := ⟨_, rfl⟩
              have h5a : Has X5 wr.heap.size 32 (canon f).cells := by rw [← hX5]; exact setRow_heap _ _ _ _ 32 (0, 0) hA4
              have h5b : Has X5 w5.heap.size 32 (canon f).cells := by rw [← hX5]; exact (setRow_other _ _ _ _ (by omega)).trans hH4
              have hI5 : In X5 cc (S (encF (fs.drop (k + 1)) ++ bl more)) 0 := by rw [← hX5]; exact (setRow_other _ _ _ _ (by have := HCc.out; omega)).trans hIc
              have hB5 : Below w.heap.size w X5 := by
                have g1 : Below w.heap.size w (X1.setCell ⟨wr.heap.size, 1, none⟩ (.int .i64 300)) := HP.out.below.trans (HB2.out.mono HP.out.below.size)
                have g2 := fr_nul g1 HP.out.hc hd.2
                have g3 : Below w.heap.size w X3 := g2.trans (hB3.mono (by have := g2.size; omega))
                have g4 : Below w.heap.size w (X3.setCell ⟨wr.heap.size, 1, none⟩ (.int .i64 0)) := g3.setCell (by have := HP.out.below.size; simpa using this) _
                rw [← hX5]
                exact ⟨g4.os, g4.tape, g4.output, by have := g4.size; simpa using this, fun j hj => by rw [setRow_other _ _ j _ (by have := HP.out.below.size; omega)]; exact g4.block j hj⟩
              have HP5 := Lib.hid (show PRel w X5 cc (k + 1) fs more from ⟨hB5, HP.out.hc, hI5⟩)
              have HCs := Lib.hid (info32 HCl.out)
              have HCe := Lib.hid ((fld_size (f := fn0 0) rfl).trans (fld_size HCl.out).symm)
              have HCf := Lib.hid ((fld_size (f := fmost f 0) HFo.out.hl).trans (fld_size HCl.out).symm)
              have HZ5 : Hid (Has (w5.alloc (.cells (fn0 0).cells.toArray 32)) w5.heap.size 32 (fn0 0).cells) := Has.new _ _ _
              have HX3 := Lib.hid hX3
              have HX5 := Lib.hid hX5
              have HA4 := Lib.hid hA4
              have H5a := Lib.hid h5a
              have H5b := Lib.hid h5b
              have HSzh : Hid ((Try.prog.info? 30).map (·.size) = some (U8 f.h).length) := by show _ = _; rw [size30, U8_length, HFo.out.hl]
              have HBt := Lib.hid (built_hash f.h HFo.out.hl)
              have hkd := HKd.out
              clear hd hH5 hq5 hX3 hH3 hB3 hN3 hA3 hA4 hH4 hIc hX5 h5a h5b hI5 hB5 HP HH2 HI2 HB2 HN2 HFm HSm HX1 c1 z1 HZ HSa HEq HR0 HGb HInn HSz2 HSz HCc HKd
              obtain hk0 | hk0 | hk0 | hk0 : f.kind = 0 ∨ f.kind = 1 ∨ f.kind = 2 ∨ f.kind = 3 := by omega
              · have hcan : canon f = (fn0 f.n) := by unfold canon; rw [if_pos hk0]
                rw [hcan] at HCl HCs HCe HCf HX3 HX5 H5a H5b ⊢
                rw [hk0] at d0
                clear hk0 hcan
                go_wp2_with (first
                  | (refine wpList_store_row rfl 32 (.tmp 11) (.tmp 73) rfl w5.heap.size (fn0 f.n).cells.toArray rfl rfl 32 _ HZ5.out HCs.out HCe.out (fld_one _) ?_; (change wpList _ _ _ _ _ ((w5.alloc (.cells (fn0 0).cells.toArray 32)).setRow w5.heap.size (fn0 f.n).cells.toArray)); rw [HX3.out])
                  | (refine wpList_store_row rfl 32 (.tmp 10) (.tmp 84) rfl wr.heap.size (fn0 f.n).cells.toArray rfl rfl 32 _ HA4.out HCs.out HCf.out (fld_one _) ?_; rw [HX5.out])
                  | (refine wpList_neq_same rfl (.tmp 95) (.tmp 96) rfl (fn0 f.n) HCl.out rfl rfl ?_)
                  | (refine wpList_load_row rfl 32 (.tmp 11) rfl w5.heap.size rfl 32 _ (0, 0) _ H5b.out Try.underlying32 rfl HCs.out ?_)
                  | (refine wpList_load_row rfl 32 (.tmp 10) rfl wr.heap.size rfl 32 _ (0, 0) _ H5a.out Try.underlying32 rfl HCs.out ?_))
                exact ⟨⟨k + 1, by omega, by go_num, HP5.out⟩, by simp [intOf]; omega⟩
              · have hcan : canon f = (fi1 f.i) := by unfold canon; rw [if_neg (by omega), if_pos hk0]
                rw [hcan] at HCl HCs HCe HCf HX3 HX5 H5a H5b ⊢
                rw [hk0] at d0
                clear hk0 hcan
                go_wp2_with (first
                  | (refine wpList_store_row rfl 32 (.tmp 11) (.tmp 73) rfl w5.heap.size (fi1 f.i).cells.toArray rfl rfl 32 _ HZ5.out HCs.out HCe.out (fld_one _) ?_; (change wpList _ _ _ _ _ ((w5.alloc (.cells (fn0 0).cells.toArray 32)).setRow w5.heap.size (fi1 f.i).cells.toArray)); rw [HX3.out])
                  | (refine wpList_store_row rfl 32 (.tmp 10) (.tmp 89) rfl wr.heap.size (fi1 f.i).cells.toArray rfl rfl 32 _ HA4.out HCs.out HCf.out (fld_one _) ?_; rw [HX5.out])
                  | (refine wpList_neq_same rfl (.tmp 95) (.tmp 96) rfl (fi1 f.i) HCl.out rfl rfl ?_)
                  | (refine wpList_load_row rfl 32 (.tmp 11) rfl w5.heap.size rfl 32 _ (0, 0) _ H5b.out Try.underlying32 rfl HCs.out ?_)
                  | (refine wpList_load_row rfl 32 (.tmp 10) rfl wr.heap.size rfl 32 _ (0, 0) _ H5a.out Try.underlying32 rfl HCs.out ?_))
                exact ⟨⟨k + 1, by omega, by go_num, HP5.out⟩, by simp [intOf]; omega⟩
              · have hcan : canon f = (fs2 f.s) := by unfold canon; rw [if_neg (by omega), if_neg (by omega), if_pos hk0]
                rw [hcan] at HCl HCs HCe HCf HX3 HX5 H5a H5b ⊢
                rw [hk0] at d0
                clear hk0 hcan
                go_wp2_with (first
                  | (refine wpList_store_row rfl 32 (.tmp 11) (.tmp 73) rfl w5.heap.size (fs2 f.s).cells.toArray rfl rfl 32 _ HZ5.out HCs.out HCe.out (fld_one _) ?_; (change wpList _ _ _ _ _ ((w5.alloc (.cells (fn0 0).cells.toArray 32)).setRow w5.heap.size (fs2 f.s).cells.toArray)); rw [HX3.out])
                  | (refine wpList_store_row rfl 32 (.tmp 10) (.tmp 94) rfl wr.heap.size (fs2 f.s).cells.toArray rfl rfl 32 _ HA4.out HCs.out HCf.out (fld_one _) ?_; rw [HX5.out])
                  | (refine wpList_neq_same rfl (.tmp 95) (.tmp 96) rfl (fs2 f.s) HCl.out rfl rfl ?_)
                  | (refine wpList_load_row rfl 32 (.tmp 11) rfl w5.heap.size rfl 32 _ (0, 0) _ H5b.out Try.underlying32 rfl HCs.out ?_)
                  | (refine wpList_load_row rfl 32 (.tmp 10) rfl wr.heap.size rfl 32 _ (0, 0) _ H5a.out Try.underlying32 rfl HCs.out ?_))
                exact ⟨⟨k + 1, by omega, by go_num, HP5.out⟩, by simp [intOf]; omega⟩
              · have hcan : canon f = (fh3 f.h) := by unfold canon; rw [if_neg (by omega), if_neg (by omega), if_neg (by omega)]
                rw [hcan] at HCl HCs HCe HCf HX3 HX5 H5a H5b ⊢
                rw [hk0] at d0
                clear hk0 hcan
                go_wp2_with (first
                  | (refine wpList_store_row rfl 32 (.tmp 11) (.tmp 73) rfl w5.heap.size (fh3 f.h).cells.toArray rfl rfl 32 _ HZ5.out HCs.out HCe.out (fld_one _) ?_; (change wpList _ _ _ _ _ ((w5.alloc (.cells (fn0 0).cells.toArray 32)).setRow w5.heap.size (fh3 f.h).cells.toArray)); rw [HX3.out])
                  | (refine wpList_load_mid rfl 30 (.tmp 77) rfl wr.heap.size 5 rfl (U8 f.h) (.array 32 5) HRh.out und30 rfl HSzh.out ?_)
                  | (refine wpList_built rfl 32 #[(0, .const (.int .i64 3)), (5, .tmp 78)] rfl [(0, .int .i64 3), (5, .agg (U8 f.h).toArray)] (fh3 f.h).cells.toArray (by simp [Act.eval, Act.put]) HBt.out ?_)
                  | (refine wpList_store_row rfl 32 (.tmp 10) (.tmp 79) rfl wr.heap.size (fh3 f.h).cells.toArray rfl rfl 32 _ HA4.out HCs.out HCf.out (fld_one _) ?_; rw [HX5.out])
                  | (refine wpList_neq_same rfl (.tmp 95) (.tmp 96) rfl (fh3 f.h) HCl.out rfl rfl ?_)
                  | (refine wpList_load_row rfl 32 (.tmp 11) rfl w5.heap.size rfl 32 _ (0, 0) _ H5b.out Try.underlying32 rfl HCs.out ?_)
                  | (refine wpList_load_row rfl 32 (.tmp 10) rfl wr.heap.size rfl 32 _ (0, 0) _ H5a.out Try.underlying32 rfl HCs.out ?_))
                exact ⟨⟨k + 1, by omega, by go_num, HP5.out⟩, by simp [intOf]; omega⟩
            · obtain rfl : k = fs.length := by omega
              have hI := HP.out.inn
              rw [List.drop_length, show encF [] ++ bl more = bl more from rfl, S_bl] at hI
              have HI := Lib.hid hI
              have HB := Lib.hid HP.out.below
              clear hI HP
              by_cases hm : more.size = 0
              · have hme : more = ⟨#[]⟩ := ByteArray.ext (Array.eq_empty_of_size_eq_zero hm)
                subst hme
                go_wp2_with fail
                refine (err_any cc _ 0 wr HI.out).mono ?_
                rintro e w6 ⟨rfl, rfl⟩
                go_wp2_with fail
                refine (left_any cc _ 0 wr HI.out).mono ?_
                rintro e w6 ⟨rfl, rfl⟩
                go_wp2_with fail
                refine (end_any cc _ 0 wr HI.out).mono ?_
                rintro e w6 ⟨rfl, rfl⟩
                rw [show endOf ⟨#[]⟩ 0 = 0 by decide +kernel]
                go_wp2
                go_ret
                exact ⟨rfl, HB.out⟩
              · have hne : more ≠ ⟨#[]⟩ := fun e => hm (by rw [e]; rfl)
                obtain ⟨q1, q2⟩ := str_ne2 hne
                have q3 : (more != ⟨#[]⟩) = true := by rw [bne, q1]; rfl
                have q4 : (!more.toList.isEmpty) = true := by
                  cases hd : more.toList with
                  | nil => exact absurd (ByteArray.ext (Array.ext' (by rw [← ByteArray.toList_eq, hd]))) hne
                  | cons a l => rfl
                have hEnd : endOf more 0 = 22 := by unfold endOf; rw [if_pos ⟨rfl, by omega⟩]
                have HEnd := Lib.hid hEnd
                clear hne hEnd
                go_wp2_with fail
                refine (err_any cc _ 0 wr HI.out).mono ?_
                rintro e w6 ⟨rfl, rfl⟩
                go_wp2_with fail
                refine (left_any cc _ 0 wr HI.out).mono ?_
                rintro e w6 ⟨rfl, rfl⟩
                go_wp2_with fail
                refine (end_any cc _ 0 wr HI.out).mono ?_
                rintro e w6 ⟨rfl, rfl⟩
                rw [HEnd.out]
                go_wp2
                go_ret
                exact ⟨rfl, HB.out⟩
    · have t1 : decide ((more.size : Int) > 100) = true := by simp; omega
      go_wp2_with fail
      refine (awake_any w2).mono ?_
      rintro e w3 ⟨rfl, hb⟩
      go_wp2
      go_ret
      exact ⟨rfl, H2.out.below.trans (hb.mono H2.out.below.size)⟩
  · refine (few_no _ fs w2 HF2.out hsh).mono ?_
    rintro e w3 ⟨rfl, rfl⟩
    go_wp2_with fail
    refine (awake_any w2).mono ?_
    rintro e w3 ⟨rfl, hb⟩
    go_wp2
    go_ret
    exact ⟨rfl, H2.out.below.trans (hb.mono H2.out.below.size)⟩
end Go.Proofs.Ytiifdbagmbikpaa
