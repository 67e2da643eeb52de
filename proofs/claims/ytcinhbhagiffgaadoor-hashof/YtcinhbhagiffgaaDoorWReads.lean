/- The walk of HashReads. Conditions: the table of constants lies as it was laid. -/
import Derived.Test.YtcinhbhagiffgaaDoorRefRead
namespace Go.Proofs.YtcinhbhagiffgaaDoor
open Go.RowKit

theorem dig_vald (c : Nat) (h : isd c = true) : dig (vald c) = c := by
  have hc : c < 256 := by simp [isd] at h; omega
  have : ∀ c : Fin 256, isd c.val = true → dig (vald c.val) = c.val := by decide +kernel
  exact this ⟨c, hc⟩ h
theorem S_bl (s : ByteArray) : S (bl s) = s := by
  obtain ⟨⟨l⟩⟩ := s
  have e : (UInt8.ofNat ∘ UInt8.toNat) = id := by funext x; simp
  simp [S, bl, e]
theorem hexs_map (l : List Nat) (m : Nat) (hl : l.length = 2 * m) (h : ∀ j, j < 2 * m → isd (l.getD j 0) = true) : hexs ((List.range m).map (hexAt l)) = l := by
  apply List.ext_getElem (by rw [hexs_length, List.length_map, List.length_range, hl])
  intro j h1 h2
  have hlen : ((List.range m).map (hexAt l)).length = m := by simp
  have hg := hexs_get ((List.range m).map (hexAt l)) (j / 2) (by rw [hlen]; omega)
  have hv : ((List.range m).map (hexAt l)).getD (j / 2) 0 = hexAt l (j / 2) := by
    rw [List.getD_eq_getElem?_getD, List.getElem?_map, List.getElem?_range (by omega)]; rfl
  rw [hv] at hg
  have a1 := vald_lt (l.getD (2 * (j / 2)) 0)
  have a2 := vald_lt (l.getD (2 * (j / 2) + 1) 0)
  have hd1 : hexAt l (j / 2) / 16 = vald (l.getD (2 * (j / 2)) 0) := by unfold hexAt; omega
  have hd2 : hexAt l (j / 2) % 16 = vald (l.getD (2 * (j / 2) + 1) 0) := by unfold hexAt; omega
  rw [hd1, hd2, dig_vald _ (h _ (by omega)), dig_vald _ (h _ (by omega))] at hg
  have e : ∀ (x : List Nat) (i : Nat) (hi : i < x.length), x[i] = x.getD i 0 := fun x i hi => by
    rw [List.getD_eq_getElem?_getD, List.getElem?_eq_getElem hi]; rfl
  rw [e _ _ h1, e _ _ h2]
  rcases Nat.mod_two_eq_zero_or_one j with h0 | h0
  · have : j = 2 * (j / 2) := by omega
    rw [this]; exact hg.1
  · have : j = 2 * (j / 2) + 1 := by omega
    rw [this]; exact hg.2
theorem refOk_is (l : List Nat) : refOk l = rdOk l := by
  unfold refOk rdOk
  by_cases h : l.length = 64
  · rw [h, show 2 * (64 / 2) = 64 from rfl, List.take_of_length_le (by omega)]
    exact Bool.and_comm _ _
  · rw [beq_eq_false_iff_ne.2 h]; simp
theorem read_facts (s : ByteArray) (h : rdOk (bl s) = true) : (rdBytes (bl s)).length = 32 ∧ Sha.Bytes (rdBytes (bl s)) ∧ S (refOut (bl s)) = S (rdBytes (bl s)) ∧ S (hexs (rdBytes (bl s))) = s ∧ rdErr (bl s) = 0 := by
  have h64 : (bl s).length = 64 := by simp [rdOk] at h; exact h.1
  have hall : (bl s).all isd = true := by simp only [rdOk, Bool.and_eq_true] at h; exact h.2
  have e : rdBytes (bl s) = (List.range 32).map (hexAt (bl s)) := by simp [rdBytes, h, unhexTo]
  have hd : ∀ j, j < 2 * 32 → isd ((bl s).getD j 0) = true := fun j hj => by
    rw [List.getD_eq_getElem?_getD, List.getElem?_eq_getElem (by omega)]
    exact List.all_eq_true.1 hall _ (List.getElem_mem _)
  refine ⟨by rw [e]; simp, ?_, ?_, ?_, by simp [rdErr, h]⟩
  · rw [e]
    intro x hx
    obtain ⟨i, _, rfl⟩ := List.mem_map.1 hx
    have a1 := vald_lt ((bl s).getD (2 * i) 0)
    have a2 := vald_lt ((bl s).getD (2 * i + 1) 0)
    unfold hexAt; omega
  · rw [e]
    unfold refOut
    rw [h64, show 2 * (64 / 2) = 64 from rfl, List.take_of_length_le (by omega), if_pos hall]
  · rw [e, hexs_map (bl s) 32 (by omega) hd, S_bl]

set_option maxRecDepth 100000 in
set_option maxHeartbeats 1000000 in
theorem reads_walk (s : ByteArray) (w : World) (hk : Kept w) :
    Calls Tryd.prog 6 #[.string s] w fun e w' => e = .returned (.bool true) ∧ Below w.heap.size w w' := by
  have HK := Lib.hid hk
  clear hk
  by_cases h200 : 200 < s.size
  · have t1 : decide ((s.size : Int) > 200) = true := by simp; omega
    go_enter Tryd.func6, Tryd.ntmps6
    go_wp2_with fail
    refine (awake_any _ HK.out).mono ?_
    rintro e w1 ⟨rfl, hb1⟩
    have HB1 := Lib.hid hb1
    clear hb1
    go_wp2_with fail
    refine (awake_any _ (HK.out.below HB1.out HK.out.pos)).mono ?_
    rintro e w2 ⟨rfl, hb2⟩
    have HB2 := Lib.hid (HB1.out.trans (hb2.mono HB1.out.size))
    clear hb2 HB1
    go_wp2
    go_ret
    exact ⟨rfl, HB2.out⟩
  · have hs : s.size ≤ 1000 := by omega
    go_enter Tryd.func6, Tryd.ntmps6
    go_wp2_with fail
    refine (awake_any _ HK.out).mono ?_
    rintro e w1 ⟨rfl, hb1⟩
    have HB1 := Lib.hid hb1
    clear hb1
    go_wp2_with fail
    refine (read_any s _ hs).mono ?_
    rintro e w2 ⟨rfl, hb2⟩
    have HB2 := Lib.hid (HB1.out.trans (hb2.mono HB1.out.size))
    clear hb2 HB1
    have HF := Lib.hid (read_facts s)
    have HRl : Hid ((rdBytes (bl s)).length = 32) := by
      show _ = _
      unfold rdBytes; split
      · exact unhexTo_length _ _ (by omega)
      · simp
    have HSz : Hid ((Tryd.prog.info? 25).map (·.size) = some (U8 (rdBytes (bl s))).toArray.size) := by
      show _ = _
      rw [size25', List.size_toArray, U8_length, HRl.out]
    have HRk : Hid (rdOk (bl s) = false → rdBytes (bl s) = List.replicate 32 0 ∧ rdErr (bl s) = 10) := fun h => by simp [rdBytes, rdErr, h]
    have HRo := Lib.hid (refOk_is (bl s))
    generalize rdBytes (bl s) = B at *
    generalize rdErr (bl s) = E at *
    have hBl := HRl.out
    have hst := run_storeCells_new (P := Tryd.prog) w2 25 (U8 (List.replicate 32 0)).toArray (U8 B).toArray HSz.out (by simp [HRl.out]) (all_oneCell_toArray (U8_one _))
    have hst1 : Sem.run Tryd.prog (storeCells ⟨w2.heap.size, 0, none⟩ (U8 B)) (w2.alloc (.cells #[.int .u8 0, .int .u8 0, .int .u8 0, .int .u8 0, .int .u8 0, .int .u8 0, .int .u8 0, .int .u8 0, .int .u8 0, .int .u8 0, .int .u8 0, .int .u8 0, .int .u8 0, .int .u8 0, .int .u8 0, .int .u8 0, .int .u8 0, .int .u8 0, .int .u8 0, .int .u8 0, .int .u8 0, .int .u8 0, .int .u8 0, .int .u8 0, .int .u8 0, .int .u8 0, .int .u8 0, .int .u8 0, .int .u8 0, .int .u8 0, .int .u8 0, .int .u8 0] 25)) = .ok () (w2.alloc (.cells (U8 B).toArray 25)) := hst
    clear hst
    have hx3 := Has.new w2 25 (U8 B)
    have hB3 : Below w.heap.size w (w2.alloc (.cells (U8 B).toArray 25)) := HB2.out.alloc (by have := HB2.out.size; omega) _
    generalize hW3 : w2.alloc (.cells (U8 B).toArray 25) = W3 at *
    have HX3 := Lib.hid hx3
    have HB3 := Lib.hid hB3
    clear hx3 hB3 hW3 HB2
    go_wp2_with fail
    refine (refread_any s hs _).mono ?_
    rintro e w4 ⟨rfl, hb4⟩
    have HX4 := Lib.hid (HX3.out.below hb4 HX3.out.lt)
    have HB4 := Lib.hid (HB3.out.trans (hb4.mono HB3.out.size))
    clear hb4 HX3 HB3 hst1
    cases hok : rdOk (bl s) with
    | false =>
      rw [HRo.out, hok]
      obtain ⟨hZ, hE⟩ := HRk.out hok
      have heq : ∀ W : World, (binOp .eql 25 (.agg (U8 B).toArray) (.agg #[.int .u8 0, .int .u8 0, .int .u8 0, .int .u8 0, .int .u8 0, .int .u8 0, .int .u8 0, .int .u8 0, .int .u8 0, .int .u8 0, .int .u8 0, .int .u8 0, .int .u8 0, .int .u8 0, .int .u8 0, .int .u8 0, .int .u8 0, .int .u8 0, .int .u8 0, .int .u8 0, .int .u8 0, .int .u8 0, .int .u8 0, .int .u8 0, .int .u8 0, .int .u8 0, .int .u8 0, .int .u8 0, .int .u8 0, .int .u8 0, .int .u8 0, .int .u8 0])).run Tryd.prog W = .ok (.bool true) W := fun W => by
        have := run_eqHash B (List.replicate 32 0) hBl (by simp) W
        rw [show (B == List.replicate 32 0) = true from by rw [hZ]; exact beq_self_eq_true _] at this
        exact this
      clear hZ
      subst hE
      go_wp2_with (refine wpList_load_row rfl 25 (.tmp 3) rfl w2.heap.size rfl 25 _ (0, 0) (.array 32 5) HX4.out und25 rfl HSz.out ?_)
      go_ret
      exact ⟨rfl, HB4.out⟩
    | true =>
      rw [HRo.out, hok]
      obtain ⟨_, hBb, hS1, hS2, hE⟩ := HF.out hok
      rw [hS1]
      have HS2 := Lib.hid hS2
      subst hE
      clear hS1 hS2
      go_wp2_with (refine wpList_load_row rfl 25 (.tmp 3) rfl w2.heap.size rfl 25 _ (0, 0) (.array 32 5) HX4.out und25 rfl HSz.out ?_)
      refine (str_any B HRl.out _).mono ?_
      rintro e w5 ⟨rfl, hb5⟩
      have HX5 := Lib.hid (HX4.out.below hb5 HX4.out.lt)
      have HB5 := Lib.hid (HB4.out.trans (hb5.mono HB4.out.size))
      clear hb5 HX4 HB4
      go_wp2_with (refine wpList_load_g 25 (.tmp 3) rfl (by rfl) w2.heap.size rfl 25 (U8 B) (.array 32 5) HX5.out und25 rfl HSz.out ?_)
      refine (text_any B hBb HRl.out _).mono ?_
      rintro e w6 ⟨rfl, hb6⟩
      rw [HS2.out]
      have HB6 := Lib.hid (HB5.out.trans (hb6.mono HB5.out.size))
      clear hb6 HX5 HB5
      go_wp2
      go_ret
      exact ⟨rfl, HB6.out⟩
end Go.Proofs.YtcinhbhagiffgaaDoor
