/- The contracts of hash.value and hash.Read: the sum that a text is, or none. Conditions: at most 1000 bytes. -/
import Derived.Test.YtcinhbhagiffgaaDoorText
namespace Go.Proofs.YtcinhbhagiffgaaDoor
open Go.RowKit

def vald (c : Nat) : Nat := if 48 ≤ c ∧ c ≤ 57 then c - 48 else if 97 ≤ c ∧ c ≤ 102 then c - 87 else 0
def isd (c : Nat) : Bool := decide ((48 ≤ c ∧ c ≤ 57) ∨ (97 ≤ c ∧ c ≤ 102))
theorem vald_lt (c : Nat) : vald c < 16 := by
  unfold vald
  split
  · omega
  · split <;> omega
theorem ret2 {a b : Int} {p q : Bool} (h : a = b) (h2 : p = q) : Ending.returned (.tuple #[.int .u8 a, .bool p]) = .returned (.tuple #[.int .u8 b, .bool q]) := by rw [h, h2]

set_option maxHeartbeats 400000 in
theorem value_any (c : Nat) (hc : c < 256) (w : World) :
    Calls Tryd.prog 28 #[.int .u8 (c : Int)] w fun e w' => e = .returned (.tuple #[.int .u8 (vald c : Nat), .bool (isd c)]) ∧ w = w' := by
  have HV := Lib.hid (show vald c = if 48 ≤ c ∧ c ≤ 57 then c - 48 else if 97 ≤ c ∧ c ≤ 102 then c - 87 else 0 from rfl)
  have HI := Lib.hid (show isd c = decide ((48 ≤ c ∧ c ≤ 57) ∨ (97 ≤ c ∧ c ≤ 102)) from rfl)
  by_cases h1 : 48 ≤ c
  · by_cases h2 : c ≤ 57
    · go_enter Tryd.func28, Tryd.ntmps28
      go_wp2
      go_ret2
      refine ⟨ret2 ?_ ?_, rfl⟩
      · rw [HV.out]; simp [h1, h2]; omega
      · rw [HI.out]; simp [h1, h2]
    · by_cases h3 : 97 ≤ c
      · by_cases h4 : c ≤ 102
        · have e : IntKind.u8.wrap ((c : Int) - 97 + 10) = (c : Int) - 87 := by rw [IntKind.wrap_u8]; omega
          go_enter Tryd.func28, Tryd.ntmps28
          go_wp2
          go_ret2
          refine ⟨ret2 ?_ ?_, rfl⟩
          · rw [HV.out]; simp [h1, h2, h3, h4]; omega
          · rw [HI.out]; simp [h3, h4]
        · go_enter Tryd.func28, Tryd.ntmps28
          go_wp2
          go_ret2
          refine ⟨ret2 ?_ ?_, rfl⟩
          · rw [HV.out]; simp [h2, h4]
          · rw [HI.out]; simp [h2, h4]
      · go_enter Tryd.func28, Tryd.ntmps28
        go_wp2
        go_ret2
        refine ⟨ret2 ?_ ?_, rfl⟩
        · rw [HV.out]; simp [h2, h3]
        · rw [HI.out]; simp [h2, h3]
  · have h3 : ¬ 97 ≤ c := by omega
    go_enter Tryd.func28, Tryd.ntmps28
    go_wp2
    go_ret2
    refine ⟨ret2 ?_ ?_, rfl⟩
    · rw [HV.out]; simp [h1, h3]
    · rw [HI.out]; simp [h1, h3]

/-- A string's bytes. -/
def bl (s : ByteArray) : List Nat := s.data.toList.map UInt8.toNat
theorem bl_length (s : ByteArray) : (bl s).length = s.size := by
  show (s.data.toList.map UInt8.toNat).length = s.data.size
  rw [List.length_map, Array.length_toList]
theorem bl_bytes (s : ByteArray) : Sha.Bytes (bl s) := fun x hx => by
  obtain ⟨b, _, rfl⟩ := List.mem_map.1 hx
  exact UInt8.toNat_lt b
theorem index_str {k : IntKind} (s : ByteArray) (n : Nat) (hn : n < s.size) (w : World) : (Instr.index 9 (.string s) (.int k (n : Int))).run Tryd.prog w = .ok (.int .u8 ((bl s).getD n 0 : Nat)) w := by
  have h : s[n]? = some s[n] := getElem?_pos s n hn
  have e : (bl s).getD n 0 = s[n].toNat := by
    rw [List.getD_eq_getElem?_getD, List.getElem?_eq_getElem (by rw [bl_length]; exact hn)]
    simp [bl, ByteArray.getElem_eq_getElem_data]
  rw [e]
  simp [Instr.index, asIntOf, Sem.run_bind, run_underlying und9 w, h]

def hexAt (l : List Nat) (i : Nat) : Nat := vald (l.getD (2 * i) 0) * 16 + vald (l.getD (2 * i + 1) 0)
def unhexTo (l : List Nat) (i : Nat) : List Nat := (List.range i).map (hexAt l) ++ List.replicate (32 - i) 0
def rdOk (l : List Nat) : Bool := l.length == 64 && l.all isd
def rdBytes (l : List Nat) : List Nat := if rdOk l then unhexTo l 32 else List.replicate 32 0
def rdErr (l : List Nat) : Nat := if rdOk l then 0 else 10
theorem unhexTo_length (l : List Nat) (i : Nat) (h : i ≤ 32) : (unhexTo l i).length = 32 := by simp [unhexTo]; omega
theorem unhexTo_set (l : List Nat) (i : Nat) (h : i < 32) : (unhexTo l i).set i (hexAt l i) = unhexTo l (i + 1) := by
  unfold unhexTo
  have hr : List.replicate (32 - i) 0 = 0 :: List.replicate (32 - (i + 1)) 0 := by rw [← List.replicate_succ]; congr 1; omega
  rw [List.set_append_right _ _ (by simp), hr, List.range_succ]
  simp
theorem or_raw (a b : Nat) (ha : a < 16) (hb : b < 16) : bits BinOp.or IntKind.u8 ((a : Int) * 16) (b : Int) = ((a * 16 + b : Nat) : Int) := by
  have o1 := or_low a b 16 4 hb (by decide)
  rw [show (a : Int) * 16 = ((16 * a : Nat) : Int) by omega, u8_or_nat _ _ (by omega) (by omega), o1]
  omega
theorem results_cell_tmp {P : Program} {fn : Func} {p t2 : Tmp} {ty : TypeId} (h : fn.results = #[.cell p ty, .tmp t2]) (tmps : Array Value) (w : World) (g : Nat) (t : TypeId) (cs : Array Value) (fr : Nat × Nat) (d : TypeDesc)
    (hp : tmps.getD p undef = .pointer (some ⟨g, 0, none⟩)) (hg : w.heap[g]? = some (.cells cs t fr))
    (hu : P.underlying ty = some d) (hd : (match d with | .struct _ | .array _ _ => true | _ => false) = true) (hi : (P.info? ty).map (·.size) = some cs.size) :
    (results fn tmps).run P w = .ok (.tuple #[.agg cs, tmps.getD t2 undef]) w := by
  have hp' : tmps[p]?.getD undef = .pointer (some ⟨g, 0, none⟩) := by simpa using hp
  simp [results, h, hp', asAddr, run_loadVar_row w g t ty cs fr d hg hu hd hi]
def ReadRel (w : World) (l : List Nat) (i : Nat) (V : World) : Prop := (∀ j, j < 2 * i → isd (l.getD j 0) = true) ∧ Below w.heap.size w V ∧ Has V w.heap.size 25 (U8 (List.replicate 32 0)) ∧ Has V (w.heap.size + 1) 25 (U8 (unhexTo l i))

set_option maxRecDepth 100000 in
set_option maxHeartbeats 1000000 in
theorem read_any (s : ByteArray) (w : World) (_hs : s.size ≤ 1000) :
    Calls Tryd.prog 16 #[.string s] w fun e w' => e = .returned (.tuple #[.agg (U8 (rdBytes (bl s))).toArray, .int .i64 (rdErr (bl s) : Nat)]) ∧ Below w.heap.size w w' := by
  by_cases h64 : s.size = 64
  · have t1 : ((s.size : Int) != 64) = false := by rw [h64]; decide
    have H64 := Lib.hid h64
    clear h64
    go_enter Tryd.func16, Tryd.ntmps16
    go_wp2
    have h0 : ReadRel w (bl s) 0 ((w.alloc (.cells (U8 (List.replicate 32 0)).toArray 25)).alloc (.cells (U8 (List.replicate 32 0)).toArray 25)) :=
      ⟨fun j hj => by omega, (((Below.refl _ _).alloc (Nat.le_refl _) _).alloc (by simp) _), (Has.new _ _ _).alloc _, Has.new' _ _ _ _ _ rfl (by simp)⟩
    have H0 := Lib.hid h0
    clear h0
    go_loopw [14] (fun i V => ∃ k : Nat, k ≤ 32 ∧ i = .int .i64 (k : Int) ∧ ReadRel w (bl s) k V) (fun i _ => 32 - (intOf i).toNat)
    case atStart => exact ⟨0, by omega, rfl, H0.out⟩
    case round =>
      clear H0 t1
      obtain ⟨k, hk, rfl, hrel⟩ := hrel
      have HR := Lib.hid hrel
      clear hrel
      by_cases hlt : k < 32
      · have b1 := bl_bytes s |>.getD (2 * k)
        have b2 := bl_bytes s |>.getD (2 * k + 1)
        have i1 : ∀ W : World, (Instr.index 9 (.string s) (.int .i64 (2 * (k : Int)))).run Tryd.prog W = .ok (.int .u8 ((bl s).getD (2 * k) 0 : Nat)) W := fun W => by
          have := index_str (k := .i64) s (2 * k) (by have := H64.out; omega) W
          simpa using this
        have i2 : ∀ W : World, (Instr.index 9 (.string s) (.int .i64 (2 * (k : Int) + 1))).run Tryd.prog W = .ok (.int .u8 ((bl s).getD (2 * k + 1) 0 : Nat)) W := fun W => by
          have := index_str (k := .i64) s (2 * k + 1) (by have := H64.out; omega) W
          simpa using this
        have HX := Lib.hid (show hexAt (bl s) k = vald ((bl s).getD (2 * k) 0) * 16 + vald ((bl s).getD (2 * k + 1) 0) from rfl)
        have HD : Hid (rdOk (bl s) = true → isd ((bl s).getD (2 * k) 0) = true ∧ isd ((bl s).getD (2 * k + 1) 0) = true) := fun h => by
          have hall : ∀ j, j < 64 → isd ((bl s).getD j 0) = true := fun j hj => by
            simp only [rdOk, Bool.and_eq_true, List.all_eq_true] at h
            rw [List.getD_eq_getElem?_getD, List.getElem?_eq_getElem (by rw [bl_length, H64.out]; exact hj)]
            exact h.2 _ (List.getElem_mem _)
          exact ⟨hall _ (by omega), hall _ (by omega)⟩
        generalize h2k : (bl s).getD (2 * k) 0 = x at *
        generalize h2k1 : (bl s).getD (2 * k + 1) 0 = y at *
        have HX0 := Lib.hid h2k
        have HX1 := Lib.hid h2k1
        clear h2k h2k1
        have v1 := vald_lt x
        have v2 := vald_lt y
        cases hx : isd x with
        | false =>
          cases hy : isd y with
          | false =>
            have HO : Hid (rdOk (bl s) = false) := by
              cases hr : rdOk (bl s) with
              | false => exact rfl
              | true => have := HD.out hr; simp_all
            go_wp2_with fail
            refine (value_any x b1 _).mono ?_
            rintro e w1 ⟨rfl, rfl⟩
            go_wp2_with fail
            refine (value_any y b2 _).mono ?_
            rintro e w1 ⟨rfl, rfl⟩
            go_wp2_with (refine wpList_store_row rfl 25 (.tmp 2) (.tmp 40) rfl w.heap.size _ rfl rfl 25 _ HR.out.2.2.1 (by rw [size25']; rfl) (by rfl) (by simp [Value.oneCell']) ?_)
            refine bodyPost_ret (v := .tuple #[.agg (U8 (List.replicate 32 0)).toArray, .int .i64 10]) (results_cell_tmp (fn := Tryd.f16) (p := 2) (t2 := 3) (ty := 25) rfl _ _ w.heap.size 25 (U8 (List.replicate 32 0)).toArray (0, 0) (.array 32 5) rfl (setRow_heap wr _ _ _ 25 _ HR.out.2.2.1) und25 rfl (by rw [size25']; rfl)) rfl ⟨?_, below_setRow HR.out.2.1 (Nat.le_refl _) _⟩
            simp [rdBytes, rdErr, HO.out]
          | true =>
            have HO : Hid (rdOk (bl s) = false) := by
              cases hr : rdOk (bl s) with
              | false => exact rfl
              | true => have := HD.out hr; simp_all
            go_wp2_with fail
            refine (value_any x b1 _).mono ?_
            rintro e w1 ⟨rfl, rfl⟩
            go_wp2_with fail
            refine (value_any y b2 _).mono ?_
            rintro e w1 ⟨rfl, rfl⟩
            go_wp2_with (refine wpList_store_row rfl 25 (.tmp 2) (.tmp 40) rfl w.heap.size _ rfl rfl 25 _ HR.out.2.2.1 (by rw [size25']; rfl) (by rfl) (by simp [Value.oneCell']) ?_)
            refine bodyPost_ret (v := .tuple #[.agg (U8 (List.replicate 32 0)).toArray, .int .i64 10]) (results_cell_tmp (fn := Tryd.f16) (p := 2) (t2 := 3) (ty := 25) rfl _ _ w.heap.size 25 (U8 (List.replicate 32 0)).toArray (0, 0) (.array 32 5) rfl (setRow_heap wr _ _ _ 25 _ HR.out.2.2.1) und25 rfl (by rw [size25']; rfl)) rfl ⟨?_, below_setRow HR.out.2.1 (Nat.le_refl _) _⟩
            simp [rdBytes, rdErr, HO.out]
        | true =>
          cases hy : isd y with
          | false =>
            have HO : Hid (rdOk (bl s) = false) := by
              cases hr : rdOk (bl s) with
              | false => exact rfl
              | true => have := HD.out hr; simp_all
            go_wp2_with fail
            refine (value_any x b1 _).mono ?_
            rintro e w1 ⟨rfl, rfl⟩
            go_wp2_with fail
            refine (value_any y b2 _).mono ?_
            rintro e w1 ⟨rfl, rfl⟩
            go_wp2_with (refine wpList_store_row rfl 25 (.tmp 2) (.tmp 40) rfl w.heap.size _ rfl rfl 25 _ HR.out.2.2.1 (by rw [size25']; rfl) (by rfl) (by simp [Value.oneCell']) ?_)
            refine bodyPost_ret (v := .tuple #[.agg (U8 (List.replicate 32 0)).toArray, .int .i64 10]) (results_cell_tmp (fn := Tryd.f16) (p := 2) (t2 := 3) (ty := 25) rfl _ _ w.heap.size 25 (U8 (List.replicate 32 0)).toArray (0, 0) (.array 32 5) rfl (setRow_heap wr _ _ _ 25 _ HR.out.2.2.1) und25 rfl (by rw [size25']; rfl)) rfl ⟨?_, below_setRow HR.out.2.1 (Nat.le_refl _) _⟩
            simp [rdBytes, rdErr, HO.out]
          | true =>
            have hold : wr.cell? ⟨w.heap.size + 1, k, none⟩ = some (.int .u8 ((unhexTo (bl s) k).getD k 0 : Nat)) := by
              rw [HR.out.2.2.2.cell, U8_get (by rw [unhexTo_length _ _ (by omega)]; exact hlt)]
            have hfro := HR.out.2.2.2.open_ k
            go_wp2_with fail
            refine (value_any x b1 _).mono ?_
            rintro e w1 ⟨rfl, rfl⟩
            go_wp2_with fail
            refine (value_any y b2 _).mono ?_
            rintro e w1 ⟨rfl, rfl⟩
            go_wp2
            refine ⟨⟨k + 1, by omega, by go_num, ?_⟩, by simp [intOf]; omega⟩
            refine ⟨fun j hj => ?_, HR.out.2.1.setCell (by simp) _, HR.out.2.2.1.far (by simp) _, ?_⟩
            · by_cases hj2 : j < 2 * k
              · exact HR.out.1 j hj2
              · obtain rfl | rfl : j = 2 * k ∨ j = 2 * k + 1 := by omega
                · rw [HX0.out]; exact hx
                · rw [HX1.out]; exact hy
            · have := HR.out.2.2.2.set_ k (.int .u8 ((hexAt (bl s) k : Nat) : Int))
              rw [U8_set, unhexTo_set _ _ hlt] at this
              rw [or_raw _ _ v1 v2, ← HX.out]
              exact this
      · have HO : Hid (rdOk (bl s) = true) := by
          show (_ && _) = true
          simp only [Bool.and_eq_true, beq_iff_eq, List.all_eq_true]
          refine ⟨by rw [bl_length]; exact H64.out, fun c hc => ?_⟩
          obtain ⟨j, hj, rfl⟩ := List.mem_iff_getElem.1 hc
          have := HR.out.1 j (by rw [bl_length, H64.out] at hj; omega)
          rwa [List.getD_eq_getElem?_getD, List.getElem?_eq_getElem hj] at this
        obtain rfl : k = 32 := by omega
        have HH := Lib.hid HR.out.2.2.2
        have HR0 := Lib.hid HR.out.2.2.1
        have HB := Lib.hid HR.out.2.1
        have Hsz : Hid ((Tryd.prog.info? 25).map (·.size) = some (U8 (unhexTo (bl s) 32)).toArray.size) := by
          show _ = _
          rw [size25', List.size_toArray, U8_length, unhexTo_length _ _ (by omega)]
        clear HR hlt hk
        go_wp2_with (first
          | (refine wpList_load_row rfl 25 (.tmp 4) rfl (w.heap.size + 1) rfl 25 _ (0, 0) (.array 32 5) HH.out und25 rfl Hsz.out ?_)
          | (refine wpList_store_row rfl 25 (.tmp 2) (.tmp 48) rfl w.heap.size _ rfl rfl 25 _ HR0.out Hsz.out (by simp [unhexTo]) (all_oneCell_toArray (U8_one _)) ?_))
        refine bodyPost_ret (v := .tuple #[.agg (U8 (unhexTo (bl s) 32)).toArray, .int .i64 0]) (results_cell_tmp (fn := Tryd.f16) (p := 2) (t2 := 3) (ty := 25) rfl _ _ w.heap.size 25 _ (0, 0) (.array 32 5) rfl (setRow_heap wr _ _ _ 25 _ HR0.out) und25 rfl Hsz.out) rfl ⟨?_, below_setRow HB.out (Nat.le_refl _) _⟩
        simp [rdBytes, rdErr, HO.out]
  · have t1 : ((s.size : Int) != 64) = true := by rw [bne_iff_ne]; omega
    have ho : rdOk (bl s) = false := by simp [rdOk, bl_length, h64]
    have HO := Lib.hid ho
    clear ho h64
    go_enter Tryd.func16, Tryd.ntmps16
    have HZ := Lib.hid (Has.new w 25 (U8 (List.replicate 32 0)))
    go_wp2_with (refine wpList_store_row rfl 25 (.tmp 2) (.tmp 13) rfl w.heap.size _ rfl rfl 25 _ HZ.out (by rw [size25']; rfl) (by rfl) (by simp [Value.oneCell']) ?_)
    refine bodyPost_ret (v := .tuple #[.agg (U8 (List.replicate 32 0)).toArray, .int .i64 10]) (results_cell_tmp (fn := Tryd.f16) (p := 2) (t2 := 3) (ty := 25) rfl _ _ w.heap.size 25 (U8 (List.replicate 32 0)).toArray (0, 0) (.array 32 5) rfl (setRow_heap _ _ _ _ 25 _ HZ.out) und25 rfl (by rw [size25']; rfl)) rfl ⟨?_, below_setRow ((Below.refl _ _).alloc (Nat.le_refl _) _) (Nat.le_refl _) _⟩
    simp [rdBytes, rdErr, HO.out]
end Go.Proofs.YtcinhbhagiffgaaDoor
