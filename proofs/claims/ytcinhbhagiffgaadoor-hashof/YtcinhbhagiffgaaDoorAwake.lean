/- The contract of the laws own awake: it returns true. Conditions: the table of constants lies as it was laid. -/
import Derived.Test.YtcinhbhagiffgaaDoorEq
import Derived.Lib.ConvBytes
namespace Go.Proofs.YtcinhbhagiffgaaDoor
open Go.RowKit

theorem und5 : Tryd.prog.underlying 5 = some (.int .u8) := by kernel_rfl
theorem freeze_block_other (w : World) (a : Addr) (n i : Nat) (h : i ≠ a.block) : (w.freeze a n).heap[i]? = w.heap[i]? := by
  unfold World.freeze
  split
  · rfl
  · simp only [Array.getElem?_modify]
    rw [if_neg (by omega)]
theorem freeze_size (w : World) (a : Addr) (n : Nat) : (w.freeze a n).heap.size = w.heap.size := by
  unfold World.freeze
  split <;> simp
theorem freeze_cell (w : World) (a b : Addr) (n : Nat) : (w.freeze a n).cell? b = w.cell? b := by
  unfold World.freeze
  split
  · rfl
  · unfold World.cell?
    simp only [Array.getElem?_modify]
    by_cases h : a.block = b.block
    · simp only [h, if_true]
      cases w.heap[b.block]? with
      | none => rfl
      | some o => cases o <;> rfl
    · rw [if_neg h]
/-- A literal turned into bytes: the same slice; nothing else has turned. -/
theorem conv_new (w : World) (x : List Nat) (n c : Nat) : ∃ W1 : World, Sem.run Tryd.prog (convert 27 27 (.slice (some ⟨w.heap.size, 0, none⟩) n c)) (w.alloc (.cells (U8 x).toArray 5)) = .ok (.slice (some ⟨w.heap.size, 0, none⟩) n c) W1 ∧
    W1.heap.size = w.heap.size + 1 ∧ Below w.heap.size w W1 ∧ W1.rangeAt w.heap.size 0 (U8 x) := by
  refine ⟨(w.alloc (.cells (U8 x).toArray 5)).freeze ⟨w.heap.size, x.length, none⟩ 1, ?_, by rw [freeze_size]; simp, ?_, ?_⟩
  · have hsh : (w.alloc (.cells (U8 x).toArray 5)).shape? w.heap.size = some (5, x.length) := by
      simp [World.shape?, World.alloc, -World.alloc_eq]
    simp [convert, run_underlying und27, run_underlying und5, markStringish, hsh, Result.andThen]
  · have hb : Below w.heap.size w (w.alloc (.cells (U8 x).toArray 5)) := (Below.refl _ _).alloc (Nat.le_refl _) _
    refine ⟨?_, ?_, ?_, ?_, fun i hi => ?_⟩
    · unfold World.freeze; split <;> exact hb.os
    · unfold World.freeze; split <;> exact hb.tape
    · unfold World.freeze; split <;> exact hb.output
    · rw [freeze_size]; exact hb.size
    · rw [freeze_block_other _ _ _ _ (by simp; omega)]; exact hb.block i hi
  · intro j v hv
    rw [freeze_cell]
    have := (Has.new w 5 (U8 x)).range 0 (U8 x).length
    rw [List.drop_zero, List.take_length] at this
    exact this j v hv

theorem wpList_load_g {P : Program} {ops : Array Oper} {rest : List Oper} {o : Oper} {a : Act} {w : World} {Q : Exit → Act → World → Prop} (ty : TypeId) (x : Operand) (ho : o.op = .load ty x) (hw : Region.wanted o (yielded ops a.tmps) = true)
    (g : Nat) (hx : a.eval x = .pointer (some ⟨g, 0, none⟩)) (t : TypeId) (cs : List Value) (d : TypeDesc) (hg : Has w g t cs)
    (hu : P.underlying ty = some d) (hd : (match d with | .struct _ | .array _ _ => true | _ => false) = true) (hi : (P.info? ty).map (·.size) = some cs.toArray.size)
    (h : wpList P ops Q rest (a.put o.dst (.agg cs.toArray)) w) : wpList P ops Q (o :: rest) a w := by
  unfold wpList
  rw [if_pos hw]
  exact .inl (wp_load_row ty x ho g hx t cs.toArray (0, 0) d hg hu hd hi h)
theorem S_size (l : List Nat) (h : l.length ≤ 1000) : (S l).size ≤ 1000 := by
  show ((l.map UInt8.ofNat).toArray).size ≤ 1000
  rw [List.size_toArray, List.length_map]; exact h
theorem bl_S {l : List Nat} (h : Sha.Bytes l) : bl (S l) = l := by
  simp only [bl, S, List.map_map]
  conv => rhs; rw [← List.map_id l]
  apply List.map_congr_left
  intro n hn
  have := h n hn
  simp [Nat.mod_eq_of_lt this]
theorem dig_isd (n : Nat) (h : n < 16) : isd (dig n) = true := by
  unfold isd dig; split <;> simp <;> omega
theorem vald_dig (n : Nat) (h : n < 16) : vald (dig n) = n := by
  unfold vald dig
  split
  · rw [if_pos (by omega)]; omega
  · rw [if_neg (by omega), if_pos (by omega)]; omega
theorem hexs_bytes {l : List Nat} (h : Sha.Bytes l) : Sha.Bytes (hexs l) := fun x hx => by
  obtain ⟨b, hb, hx⟩ := List.mem_flatMap.1 hx
  have h256 := h b hb
  simp only [List.mem_cons, List.not_mem_nil, or_false] at hx
  rcases hx with rfl | rfl
  · exact dig_lt _ (by omega)
  · exact dig_lt _ (by omega)
theorem hexs_isd {l : List Nat} (h : Sha.Bytes l) : (hexs l).all isd = true := by
  rw [List.all_eq_true]
  intro x hx
  obtain ⟨b, hb, hx⟩ := List.mem_flatMap.1 hx
  have h256 := h b hb
  simp only [List.mem_cons, List.not_mem_nil, or_false] at hx
  rcases hx with rfl | rfl
  · exact dig_isd _ (by omega)
  · exact dig_isd _ (by omega)
theorem hexs_get : ∀ (l : List Nat) (i : Nat), i < l.length → (hexs l).getD (2 * i) 0 = dig (l.getD i 0 / 16) ∧ (hexs l).getD (2 * i + 1) 0 = dig (l.getD i 0 % 16)
  | [], i, h => by simp at h
  | b :: r, 0, _ => by simp [hexs]
  | b :: r, i + 1, h => by
    have ih := hexs_get r i (by simpa using h)
    have e : hexs (b :: r) = dig (b / 16) :: dig (b % 16) :: hexs r := by simp [hexs]
    rw [e, show 2 * (i + 1) = 2 * i + 1 + 1 by omega]
    exact ih
/-- A sum's text is read as that sum. -/
theorem read_text {l : List Nat} (hb : Sha.Bytes l) (hl : l.length = 32) : rdOk (bl (S (hexs l))) = true ∧ rdBytes (bl (S (hexs l))) = l ∧ rdErr (bl (S (hexs l))) = 0 := by
  rw [bl_S (hexs_bytes hb)]
  have ho : rdOk (hexs l) = true := by
    simp only [rdOk, Bool.and_eq_true, beq_iff_eq]
    exact ⟨by rw [hexs_length, hl], hexs_isd hb⟩
  refine ⟨ho, ?_, by simp [rdErr, ho]⟩
  simp only [rdBytes, ho, if_true, unhexTo, Nat.sub_self, List.replicate_zero, List.append_nil]
  apply List.ext_getElem (by simp [hl])
  intro i h1 h2
  have hg := hexs_get l i h2
  have hbi := hb.getD i
  have hv : l.getD i 0 = l[i] := by rw [List.getD_eq_getElem?_getD, List.getElem?_eq_getElem h2]; rfl
  rw [hv] at hg hbi
  simp only [List.getElem_map, List.getElem_range, hexAt]
  rw [hg.1, hg.2, vald_dig _ (by omega), vald_dig _ (by omega)]
  omega
theorem sha_bytes (l : List Nat) : Sha.Bytes (Sha.sha l) := by
  have h := Sha.run_ok ((l ++ Sha.ending l.length).length / 64) (l := l ++ Sha.ending l.length) Sha.init_ok
  intro x hx
  unfold Sha.sha Sha.out at hx
  obtain ⟨n, hn, hxn⟩ := List.mem_flatMap.1 hx
  clear hx
  generalize Sha.run ((l ++ Sha.ending l.length).length / 64) Sha.init (l ++ Sha.ending l.length) = s at *
  have hlt : n < 4294967296 := by
    simp only [Sha.St.list, List.mem_cons, List.not_mem_nil, or_false] at hn
    rcases hn with rfl | rfl | rfl | rfl | rfl | rfl | rfl | rfl
    · exact h.a
    · exact h.b
    · exact h.c
    · exact h.d
    · exact h.e
    · exact h.f
    · exact h.g
    · exact h.h
  have hx' : x = n / 16777216 ∨ x = n / 65536 % 256 ∨ x = n / 256 % 256 ∨ x = n % 256 := by simpa [Sha.be4] using hxn
  omega
theorem sl_new {w : World} {g n : Nat} {l : List Nat} (hg : g < w.heap.size) (h : w.rangeAt g 0 (U8 l)) (hn : l.length = n) (c : Nat) (hc : n ≤ c) (hm : c ≤ maxLen) : Sl w w.heap.size (.slice (some ⟨g, 0, none⟩) n c) l :=
  ⟨_, c, by rw [hn], by omega, hm, fun _ => ⟨g, 0, rfl, by omega, hg, h⟩⟩
theorem Sl.below {w w' : World} {B g g' : Nat} {v : Value} {l : List Nat} (h : Sl w g v l) (k : Below w.heap.size w w') (hg : w'.heap.size ≤ g') (_hB : B = B) : Sl w' g' v l := by
  obtain ⟨A, c, rfl, h1, h2, h3⟩ := h
  refine ⟨A, c, rfl, h1, h2, fun hp => ?_⟩
  obtain ⟨b, o, rfl, hb, hs, hr⟩ := h3 hp
  exact ⟨b, o, rfl, by have := k.size; omega, Nat.lt_of_lt_of_le hs k.size, fun j v hv => by rw [k.cell (p := ⟨b, o + j, none⟩) hs]; exact hr j v hv⟩
theorem parts_new (w : World) (vs : List Value) (ps : List (List Nat)) (o : Array Value) (n : Nat) (ho : o = vs.toArray) (hn : n = ps.length) (hl : vs.length = ps.length) (hm : ps.length ≤ maxLen) (hS : ∀ (i : Nat) u l, vs[i]? = some u → ps[i]? = some l → Sl w w.heap.size u l) :
    Parts (w.alloc (.cells o 27)) (.slice (some ⟨w.heap.size, 0, none⟩) n n) ps := by
  subst ho hn
  refine ⟨_, _, vs, rfl, Nat.le_refl _, hm, hl, fun _ => ⟨w.heap.size, 0, rfl, by simp, ?_⟩, fun i u l h1 h2 => ?_⟩
  · have := (Has.new w 27 vs).range 0 vs.length
    rw [List.drop_zero, List.take_length] at this
    exact this
  · exact (hS i u l h1 h2).below (B := 0) ((Below.refl _ _).alloc (Nat.le_refl _) _) (Nat.le_refl _) rfl

set_option maxRecDepth 100000 in
set_option maxHeartbeats 1000000 in
theorem awake_any (w : World) (hk : Kept w) : Calls Tryd.prog 11 #[] w fun e w' => e = .returned (.bool true) ∧ Below w.heap.size w w' := by
  have HK := Lib.hid hk
  clear hk
  obtain ⟨W1, c1, s1, b1, r1⟩ := conv_new w [97] 1 1
  obtain ⟨W2, c2, s2, b2, r2⟩ := conv_new W1 [98, 99] 2 2
  have c1' : Sem.run Tryd.prog (convert 27 27 (.slice (some ⟨w.heap.size, 0, none⟩) 1 1)) (w.alloc (.cells #[.int .u8 97] 5)) = .ok (.slice (some ⟨w.heap.size, 0, none⟩) 1 1) W1 := c1
  have c2' : Sem.run Tryd.prog (convert 27 27 (.slice (some ⟨W1.heap.size, 0, none⟩) 2 2)) (W1.alloc (.cells #[.int .u8 98, .int .u8 99] 5)) = .ok (.slice (some ⟨W1.heap.size, 0, none⟩) 2 2) W2 := c2
  have S1 := Lib.hid s1
  have S2 := Lib.hid s2
  have B1 := Lib.hid b1
  have B2 := Lib.hid b2
  have R1 := Lib.hid r1
  have R2 := Lib.hid r2
  clear c1 c2 s1 s2 b1 b2 r1 r2
  go_enter Tryd.func11, Tryd.ntmps11
  go_wp2_with fail
  have hp : Parts (W2.alloc (.cells #[.slice (some ⟨w.heap.size, 0, none⟩) 1 1, .slice (some ⟨W1.heap.size, 0, none⟩) 2 2] 27)) (.slice (some ⟨W2.heap.size, 0, none⟩) 2 2) [[97], [98, 99]] := by
    have hs1 : Sl W2 W2.heap.size (.slice (some ⟨w.heap.size, 0, none⟩) 1 1) [97] := (sl_new (w := W1) (n := 1) (by have := S1.out; omega) R1.out rfl 1 (by omega) (by unfold maxLen; omega)).below (B := 0) B2.out (Nat.le_refl _) rfl
    have hs2 : Sl W2 W2.heap.size (.slice (some ⟨W1.heap.size, 0, none⟩) 2 2) [98, 99] := sl_new (n := 2) (by have := S2.out; omega) R2.out rfl 2 (by omega) (by unfold maxLen; omega)
    refine parts_new W2 [.slice (some ⟨w.heap.size, 0, none⟩) 1 1, .slice (some ⟨W1.heap.size, 0, none⟩) 2 2] [[97], [98, 99]] _ 2 rfl rfl rfl (by simp; unfold maxLen; omega) (fun i u l h1 h2 => ?_)
    match i, h1, h2 with
    | 0, h1, h2 => simp at h1 h2; subst h1 h2; exact hs1
    | 1, h1, h2 => simp at h1 h2; subst h1 h2; exact hs2
    | i + 2, h1, h2 => simp at h1
  have hb2 : Below w.heap.size w (W2.alloc (.cells #[.slice (some ⟨w.heap.size, 0, none⟩) 1 1, .slice (some ⟨W1.heap.size, 0, none⟩) 2 2] 27)) :=
    (B1.out.trans (B2.out.mono (by have := S1.out; omega))).alloc (by have := S1.out; have := S2.out; omega) _
  have hbytes : ∀ l ∈ [[97], [98, 99]], Sha.Bytes l := by
    intro l hl x hx
    simp at hl
    rcases hl with rfl | rfl <;> simp at hx <;> omega
  refine (of_any [[97], [98, 99]] _ _ hp hbytes (HK.out.below hb2 HK.out.pos) (by simp)).mono ?_
  rintro e w3 ⟨rfl, hb3⟩
  rw [show [[97], [98, 99]].flatten = [97, 98, 99] from rfl]
  have hB3 : Below w.heap.size w w3 := hb2.trans (hb3.mono (by have := hb2.size; omega))
  have HB3 := Lib.hid hB3
  clear hp hb2 hbytes hb3 hB3 c1' c2'
  obtain ⟨H, hH⟩ : ∃ H, H = Sha.sha [97, 98, 99] := ⟨_, rfl⟩
  rw [← hH]
  have hHb : Sha.Bytes H := by rw [hH]; exact sha_bytes _
  have hHl : H.length = 32 := by rw [hH]; exact Sha.Holds.sumText
  have hHs : S (hexs H) = ⟨#[98, 97, 55, 56, 49, 54, 98, 102, 56, 102, 48, 49, 99, 102, 101, 97, 52, 49, 52, 49, 52, 48, 100, 101, 53, 100, 97, 101, 50, 50, 50, 51, 98, 48, 48, 51, 54, 49, 97, 51, 57, 54, 49, 55, 55, 97, 57, 99, 98, 52, 49, 48, 102, 102, 54, 49, 102, 50, 48, 48, 49, 53, 97, 100]⟩ := by
    rw [hH, Sha.sha_abc]; decide +kernel
  have hL1 : decide (cmpS (List.replicate 32 0) H < 0) = true := by rw [hH, Sha.sha_abc]; decide +kernel
  have hL2 : decide (cmpS H H < 0) = false := by rw [hH, Sha.sha_abc]; decide +kernel
  have heq : (S (hexs H)).toList = [98, 97, 55, 56, 49, 54, 98, 102, 56, 102, 48, 49, 99, 102, 101, 97, 52, 49, 52, 49, 52, 48, 100, 101, 53, 100, 97, 101, 50, 50, 50, 51, 98, 48, 48, 51, 54, 49, 97, 51, 57, 54, 49, 55, 55, 97, 57, 99, 98, 52, 49, 48, 102, 102, 54, 49, 102, 50, 48, 48, 49, 53, 97, 100] := by
    rw [hHs, ByteArray.toList_eq]
  have HR := Lib.hid (read_text hHb hHl)
  have heh := fun W : World => run_eqHash H H hHl hHl W
  rw [beq_self_eq_true] at heh
  have HL1 := Lib.hid hL1
  have HL2 := Lib.hid hL2
  have HHl := Lib.hid hHl
  clear hH hHs hL1 hL2 hHl
  have hHsz : (Tryd.prog.info? 25).map (·.size) = some (U8 H).toArray.size := by rw [size25', List.size_toArray, U8_length, HHl.out]
  have hst := run_storeCells_new (P := Tryd.prog) w3 25 (U8 (List.replicate 32 0)).toArray (U8 H).toArray hHsz (by simp [HHl.out]) (all_oneCell_toArray (U8_one _))
  have hst1 : Sem.run Tryd.prog (storeCells ⟨w3.heap.size, 0, none⟩ (U8 H)) (w3.alloc (.cells #[.int .u8 0, .int .u8 0, .int .u8 0, .int .u8 0, .int .u8 0, .int .u8 0, .int .u8 0, .int .u8 0, .int .u8 0, .int .u8 0, .int .u8 0, .int .u8 0, .int .u8 0, .int .u8 0, .int .u8 0, .int .u8 0, .int .u8 0, .int .u8 0, .int .u8 0, .int .u8 0, .int .u8 0, .int .u8 0, .int .u8 0, .int .u8 0, .int .u8 0, .int .u8 0, .int .u8 0, .int .u8 0, .int .u8 0, .int .u8 0, .int .u8 0, .int .u8 0] 25)) = .ok () (w3.alloc (.cells (U8 H).toArray 25)) := hst
  have HSz := Lib.hid hHsz
  clear hst hHsz
  have hx3 := Has.new w3 25 (U8 H)
  have hB4 : Below w.heap.size w (w3.alloc (.cells (U8 H).toArray 25)) := HB3.out.alloc (by have := HB3.out.size; omega) _
  generalize hW4 : w3.alloc (.cells (U8 H).toArray 25) = W4 at *
  have HX := Lib.hid hx3
  have HB4 := Lib.hid hB4
  clear hx3 hB4 hW4 HB3
  go_wp2_with (refine wpList_load_row rfl 25 (.tmp 1) rfl w3.heap.size rfl 25 _ (0, 0) (.array 32 5) HX.out und25 rfl HSz.out ?_)
  refine (text_any H hHb HHl.out _).mono ?_
  rintro e w5 ⟨rfl, hb5⟩
  have HX5 := Lib.hid (HX.out.below hb5 HX.out.lt)
  have HB5 := Lib.hid (HB4.out.trans (hb5.mono HB4.out.size))
  clear hb5 HX HB4 hst1
  go_wp2_with fail
  refine (read_any _ _ (S_size (hexs H) (by rw [hexs_length, HHl.out]; omega))).mono ?_
  rintro e w6 ⟨rfl, hb6⟩
  rw [HR.out.2.1, HR.out.2.2]
  have HX6 := Lib.hid (HX5.out.below hb6 HX5.out.lt)
  have HB6 := Lib.hid (HB5.out.trans (hb6.mono HB5.out.size))
  clear hb6 HX5 HB5
  have hst := run_storeCells_new (P := Tryd.prog) w6 25 (U8 (List.replicate 32 0)).toArray (U8 H).toArray HSz.out (by simp [HHl.out]) (all_oneCell_toArray (U8_one _))
  have hst1 : Sem.run Tryd.prog (storeCells ⟨w6.heap.size, 0, none⟩ (U8 H)) (w6.alloc (.cells #[.int .u8 0, .int .u8 0, .int .u8 0, .int .u8 0, .int .u8 0, .int .u8 0, .int .u8 0, .int .u8 0, .int .u8 0, .int .u8 0, .int .u8 0, .int .u8 0, .int .u8 0, .int .u8 0, .int .u8 0, .int .u8 0, .int .u8 0, .int .u8 0, .int .u8 0, .int .u8 0, .int .u8 0, .int .u8 0, .int .u8 0, .int .u8 0, .int .u8 0, .int .u8 0, .int .u8 0, .int .u8 0, .int .u8 0, .int .u8 0, .int .u8 0, .int .u8 0] 25)) = .ok () (w6.alloc (.cells (U8 H).toArray 25)) := hst
  clear hst
  have hx7 := Has.new w6 25 (U8 H)
  have hy7 := HX6.out.alloc (.cells (U8 H).toArray 25)
  have hB7 : Below w.heap.size w (w6.alloc (.cells (U8 H).toArray 25)) := HB6.out.alloc (by have := HB6.out.size; omega) _
  generalize hW7 : w6.alloc (.cells (U8 H).toArray 25) = W7 at *
  have HX7 := Lib.hid hx7
  have HY7 := Lib.hid hy7
  have HB7 := Lib.hid hB7
  clear hx7 hy7 hB7 hW7 HX6 HB6
  have hHl := HHl.out
  go_wp2_with (refine wpList_load_row rfl 25 (.tmp 1) rfl w3.heap.size rfl 25 _ (0, 0) (.array 32 5) HY7.out und25 rfl HSz.out ?_)
  refine (text_any H hHb HHl.out _).mono ?_
  rintro e w8 ⟨rfl, hb8⟩
  have HX8 := Lib.hid (HX7.out.below hb8 HX7.out.lt)
  have HY8 := Lib.hid (HY7.out.below hb8 HY7.out.lt)
  have HB8 := Lib.hid (HB7.out.trans (hb8.mono HB7.out.size))
  clear hb8 HX7 HY7 HB7 hst1
  go_wp2_with (first
    | (refine wpList_load_g 25 (.tmp 1) rfl (by rfl) w3.heap.size rfl 25 (U8 H) (.array 32 5) HY8.out und25 rfl HSz.out ?_)
    | (refine wpList_load_g 25 (.tmp 2) rfl (by rfl) w6.heap.size rfl 25 (U8 H) (.array 32 5) HX8.out und25 rfl HSz.out ?_))
  refine (less_any (List.replicate 32 0) H (by simp) HHl.out _).mono ?_
  rintro e w9 ⟨rfl, hb9⟩
  rw [HL1.out]
  have HY9 := Lib.hid (HY8.out.below hb9 HY8.out.lt)
  have HB9 := Lib.hid (HB8.out.trans (hb9.mono HB8.out.size))
  clear hb9 HX8 HY8 HB8
  go_wp2_with (refine wpList_load_g 25 (.tmp 1) rfl (by rfl) w3.heap.size rfl 25 (U8 H) (.array 32 5) HY9.out und25 rfl HSz.out ?_)
  refine (less_any H H HHl.out HHl.out _).mono ?_
  rintro e wa ⟨rfl, hba⟩
  rw [HL2.out]
  have HBa := Lib.hid (HB9.out.trans (hba.mono HB9.out.size))
  clear hba HY9 HB9
  go_wp2
  go_ret
  exact ⟨rfl, HBa.out⟩
end Go.Proofs.YtcinhbhagiffgaaDoor
