/- Layer 12: the document's Put. Conditions: none of our own. -/
import Derived.Test.YtooeahpkhocaeaaDoorCOwn
import Derived.Test.YtooeahpkhocaeaaDoorJ25
namespace Go.Proofs.YtooeahpkhocaeaaDoor
open Go.RowKit
set_option maxRecDepth 100000

theorem S_cat (a b : List Nat) : S a ++ S b = S (a ++ b) := (S_append a b).symm
theorem rnum_a (n : Nat) (w : World) (hn : n < 18446744073709551616) : Ans 28 [.int .u64 (n : Int)] w (fun u w' => u = .string (S (Wire.num n)) ∧ Below w.heap.size w w') :=
  (refNum_any n w hn).mono (by rintro e w' ⟨rfl, h⟩; exact ⟨_, rfl, rfl, h⟩)
theorem zoH : zeroOf Tryd.prog 23 = some (.agg (U8 zero32).toArray) := by kernel_rfl
theorem szU8c : (Tryd.prog.info? 5).map (·.size) = some 1 := by kernel_rfl
theorem undHc : Tryd.prog.underlying 23 = some (.array 32 5) := by kernel_rfl
set_option maxHeartbeats 1000000 in
theorem rputC_c : RPutC := fun c u w hC hr0 => by
  show Ans 13 [u] w _
  obtain ⟨x, rfl, hH, hl, hby⟩ := id hC
  obtain ⟨A, cc, rfl, hc1, hc2, hHo, -⟩ := id hH
  obtain ⟨r1, r2, r3, r4, r5, r6⟩ := (rightC_iff c).1 hr0
  have l1 := Wire.num_len10 c.w.toNat (by omega)
  have l2 := Wire.num_len10 c.st.toNat (by omega)
  have l4 := Wire.num_len10 c.bs.length (by omega)
  have hfl := flatten_len c.bs (fun x hx => (hHo x hx).1)
  refine calls_qx (args := [.agg (cmc c (.slice A c.bs.length cc)).toArray]) 43 Tryd.func13 rfl (by kernel_rfl) (by simp) (fun a hS => ?_)
  have hB := Below.refl w.heap.size w
  have hHb := hH
  refine qx_seq (reg_seq ?_)
  refine seq_op hS (by decide) (runs_boxB (cs := cmc c (.slice A c.bs.length cc)) rfl rfl) (fun v1 w1 a1 hp hS => ?_)
  obtain ⟨rfl, hM1, hB1⟩ := hp
  have hB := hB.trans (hB1.mono hB.size)
  have hH := hHb.kept hB
  refine sI hS (runs_assign rfl) fun _ hS => ?_
  refine nil_ok (qx_seq (?_))
  obtain ⟨pre, hpre⟩ : ∃ p, [67] ++ Wire.num c.w.toNat ++ Wire.num c.st.toNat ++ c.root ++ Wire.num c.bs.length = p := ⟨_, rfl⟩
  have hpl : pre.length ≤ 63 := by rw [← hpre]; simp only [List.length_append, List.length_cons, List.length_nil]; omega
  refine reg_guard (fun w' => Below w1.heap.size w1 w') [.inl (.pointer (some ⟨w.heap.size, 0 + 0, none⟩)), .inl (.int .i64 c.w), .inl (.int .u64 ((c.w.toNat : Nat) : Int)), .inl (.string (S (Wire.num c.w.toNat))), .inl (.string (S ([67] ++ Wire.num c.w.toNat))), .inl (.pointer (some ⟨w.heap.size, 0 + 1, none⟩)), .inl (.int .i64 c.st), .inl (.int .u64 ((c.st.toNat : Nat) : Int)), .inl (.string (S (Wire.num c.st.toNat))), .inl (.string (S ([67] ++ Wire.num c.w.toNat ++ Wire.num c.st.toNat))), .inl (.pointer (some ⟨w.heap.size, 0 + 2, none⟩)), .inl (.slice (some ⟨w.heap.size, 0 + 2, none⟩) 32 32), .inl (.string (S c.root)), .inl (.string (S ([67] ++ Wire.num c.w.toNat ++ Wire.num c.st.toNat ++ c.root))), .inl (.pointer (some ⟨w.heap.size, 0 + 34, none⟩)), .inl (.slice A c.bs.length cc), .inl (.int .i64 ((c.bs.length : Nat) : Int)), .inl (.int .u64 ((c.bs.length : Nat) : Int)), .inl (.string (S (Wire.num c.bs.length))), .inl (.string (S pre)), .inl (.string (S pre))] 21 0 mixed rfl (by kernel_rfl) hS (Below.refl _ _) (fun _ h => h.drew) ?_
  refine hs_is rfl (fun w' hw => runs_fieldK foC_0 rfl) ?_
  refine hs_is rfl (fun w' hw => runs_load rfl pl3 ((hM1.below hw hM1.lt).at rfl)) ?_
  refine hs_is rfl (fun w' hw => runs_convInt (r := ((c.w.toNat : Nat) : Int)) rfl (by decide) undB64 (by simp [IntKind.wrap, IntKind.bits, IntKind.signed]; omega)) ?_
  refine hs_val rfl (fun w' hw hq => (runs_call (args := [.int .u64 ((c.w.toNat : Nat) : Int)]) goes28 rfl (rnum_a (c.w.toNat) w' (by omega))).mono (by rintro u w5 ⟨rfl, hb⟩; exact ⟨rfl, hw.trans (hb.mono hw.size), hb⟩)) ?_
  refine hs_is rfl (fun w' hw => runs_catG rfl rfl (S_cat [67] _) (by simp only [S_size]; show 1 + _ ≤ _; omega)) ?_
  refine hs_is rfl (fun w' hw => runs_fieldK foC_1 rfl) ?_
  refine hs_is rfl (fun w' hw => runs_load rfl pl3 ((hM1.below hw hM1.lt).at rfl)) ?_
  refine hs_is rfl (fun w' hw => runs_convInt (r := ((c.st.toNat : Nat) : Int)) rfl (by decide) undB64 (by simp [IntKind.wrap, IntKind.bits, IntKind.signed]; omega)) ?_
  refine hs_val rfl (fun w' hw hq => (runs_call (args := [.int .u64 ((c.st.toNat : Nat) : Int)]) goes28 rfl (rnum_a (c.st.toNat) w' (by omega))).mono (by rintro u w5 ⟨rfl, hb⟩; exact ⟨rfl, hw.trans (hb.mono hw.size), hb⟩)) ?_
  refine hs_is rfl (fun w' hw => runs_catG rfl rfl (S_cat _ _) (by simp only [S_size, List.length_append, List.length_cons, List.length_nil]; omega)) ?_
  refine hs_is rfl (fun w' hw => runs_fieldK foC_2 rfl) ?_
  refine hs_is rfl (fun w' hw => runs_sliceArrO rfl undHc szU8c) ?_
  refine hs_is rfl (fun w' hw => runs_convBytesR rfl hl (cm_root (hM1.below hw hM1.lt) hl)) ?_
  refine hs_is rfl (fun w' hw => runs_catG rfl rfl (S_cat _ _) (by simp only [S_size, List.length_append, List.length_cons, List.length_nil]; omega)) ?_
  refine hs_is rfl (fun w' hw => runs_fieldK foC_3 rfl) ?_
  refine hs_is rfl (fun w' hw => runs_load rfl pl924 ((hM1.below hw hM1.lt).at (cm_v hl))) ?_
  refine hs_is rfl (fun w' hw => runs_len rfl undHs) ?_
  refine hs_is rfl (fun w' hw => runs_convInt (r := ((c.bs.length : Nat) : Int)) rfl (by decide) undB64 (by simp [IntKind.wrap, IntKind.bits, IntKind.signed]; omega)) ?_
  refine hs_val rfl (fun w' hw hq => (runs_call (args := [.int .u64 ((c.bs.length : Nat) : Int)]) goes28 rfl (rnum_a (c.bs.length) w' (by omega))).mono (by rintro u w5 ⟨rfl, hb⟩; exact ⟨rfl, hw.trans (hb.mono hw.size), hb⟩)) ?_
  refine hs_is rfl (fun w' hw => runs_catG rfl rfl (by rw [S_cat, hpre]) (by simp only [S_size, List.length_append, List.length_cons, List.length_nil]; omega)) ?_
  refine hs_is rfl (fun w' hw => runs_assign rfl) ?_
  refine (fun a3 w3 hS hB3 hq => ?_)
  clear hq
  have hB := hB.trans (hB3.mono hB.size)
  have hM1 := hM1.below hB3 hM1.lt
  have hH := hHb.kept hB
  refine wpAnyH_done (by kernel_rfl) ?_ _
  refine qx_seq (qx_seq (reg_seq ?_))
  refine sI hS (runs_assign rfl) fun _ hS => ?_
  refine nil_ok (?_)
  rw [show S pre = S (pre ++ (c.bs.take 0).flatten) by simp] at hS
  have hBpre0 := hB
  have hB := Below.refl w3.heap.size w3
  have hM1b := hM1
  have hHb := hH
  refine qx_for (fun mm a w' => ∃ (i : Nat), i ≤ c.bs.length ∧ mm = c.bs.length - i ∧ Below w3.heap.size w3 w' ∧ True ∧ Sees 43 [(4, .int .i64 (i : Int)), (3, .string (S (pre ++ (c.bs.take i).flatten))), (1, .pointer (some ⟨w.heap.size, 0, none⟩))] a) c.bs.length ⟨0, by omega, by omega, hB, trivial, hS.only _ ⟨rfl, rfl, rfl, trivial⟩⟩ ?_
  clear hS 
  rintro mm a wl1 ⟨i, hi1, rfl, hBb1, -, hS⟩
  have hH := hHb.kept hBb1
  have hM1 := hM1b.below hBb1 hM1b.lt
  have hB := Below.refl wl1.heap.size wl1
  refine reg_seq ?_
  refine sI hS (runs_move rfl) fun _ hS => ?_
  refine sI hS (runs_fieldK foC_3 rfl) fun _ hS => ?_
  refine sI hS (runs_load rfl pl924 (hM1.at (cm_v hl))) fun _ hS => ?_
  refine sI hS (runs_len rfl undHs) fun _ hS => ?_
  by_cases hlt1 : i < c.bs.length
  · skip
    refine sI hS (lssT rfl rfl (by omega)) fun _ hS => ?_
    refine nil_ok ⟨_, hS.eval rfl, fun h => by simp at h, fun _ => ?_⟩
    have hSn := hS
    obtain ⟨x, hx⟩ : ∃ x, c.bs[i]? = some x := ⟨c.bs[i], by simp [hlt1]⟩
    obtain ⟨b, o, hbe, hbw, hr⟩ := hashes_row hH (by omega)
    cases hbe
    have hrx := hashes_at hr hHo hx
    have hx32 := (hHo x (List.mem_of_getElem? hx)).1
    have hfi : ((c.bs.take i).flatten).length ≤ 32 * 64 := by rw [flatten_len _ (fun y hy => (hHo y (List.mem_of_mem_take hy)).1), List.length_take]; omega
    have hS := hSn
    refine qx_seq (qx_block (qx_seq (reg_seq ?_)))
    refine sI hS (runs_fieldK foC_3 rfl) fun _ hS => ?_
    refine sI hS (runs_load rfl pl924 (hM1.at (cm_v hl))) fun _ hS => ?_
    refine sI hS (runs_move rfl) fun _ hS => ?_
    refine sI hS (runs_indexAddrG (j := i) rfl rfl undHs szHs rfl hlt1) fun _ hS => ?_
    refine sI hS (runs_loadMid rfl hrx Tryd.underlying23 rfl (by rw [infHash, U8_length, hx32])) fun _ hS => ?_
    refine seq_op hS (by decide) (runs_allocB (cs := U8 zero32) zoH rfl) (fun v5 w5 a1 hp hS => ?_)
    obtain ⟨rfl, hM5, hB5⟩ := hp
    have hLhM5 : wl1.heap.size ≤ wl1.heap.size := hB.size
    have hB := hB.trans (hB5.mono hB.size)
    refine seq_none hS (runs_storeB (cs := U8 x) rfl rfl hM5 (by rw [U8_length, U8_length, hx32]; rfl) (List.all_eq_true.2 (U8_one x)) (by rw [infHash, U8_length, hx32])) (fun v7 w7 a1 hp hS => ?_)
    obtain ⟨hM5, hU7⟩ := hp
    have hB := But.new hB hU7 (fun i e => by rw [e]; exact hLhM5) (Nat.le_refl _)
    refine nil_ok (reg_seq ?_)
    refine sI hS (runs_move rfl) fun _ hS => ?_
    refine sI hS (runs_sliceArrO rfl undHc szU8c) fun _ hS => ?_
    refine sI hS (runs_convBytesR rfl hx32 hM5.all) fun _ hS => ?_
    refine sI hS (runs_catG rfl rfl (S_cat _ _) (by simp only [S_size, List.length_append]; omega)) fun _ hS => ?_
    refine sI hS (runs_assign rfl) fun _ hS => ?_
    refine nil_ok (reg_seq ?_)
    refine sI hS (runs_move rfl) fun _ hS => ?_
    refine sI hS (runs_add (r := ((i + 1 : Nat) : Int)) rfl rfl (by simp [IntKind.wrap, IntKind.bits, IntKind.signed]; omega)) fun _ hS => ?_
    refine sI hS (runs_assign rfl) fun _ hS => ?_
    rw [show S ((pre ++ (c.bs.take i).flatten) ++ x) = S (pre ++ (c.bs.take (i + 1)).flatten) by rw [List.take_add_one, hx, Option.toList_some, List.flatten_append, List.flatten_singleton, List.append_assoc]] at hS
    exact nil_ok ⟨_, by omega, i + 1, by omega, rfl, hBb1.trans (hB.mono hBb1.size), trivial, hS.only _ ⟨rfl, rfl, rfl, trivial⟩⟩
  refine sI hS (lssF rfl rfl (by omega)) fun _ hS => ?_
  obtain rfl : i = c.bs.length := by omega
  refine nil_ok ⟨_, hS.eval rfl, fun _ => ?_, fun h => by simp at h⟩
  have hB := hBb1
  rw [List.take_length] at hS
  refine qx_seq (reg_seq ?_)
  refine sI hS (runs_move rfl) fun _ hS => ?_
  refine sI hS (runs_assign rfl) fun _ hS => ?_
  exact nil_ok (qx_ret (ret1 (t := 2) (by kernel_rfl) hS rfl ⟨_, rfl, by rw [← hpre]; simp [bytesC], hBpre0.trans (hB.mono hBpre0.size)⟩))
end Go.Proofs.YtooeahpkhocaeaaDoor
