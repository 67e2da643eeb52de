/- The document's Show, walked. Conditions: none of our own. -/
import Derived.Test.YtdbibjcplakelaaDoorRNorm
import Derived.Test.YtdbibjcplakelaaDoorRDig
namespace Go.Proofs.YtdbibjcplakelaaDoor
open Go.RowKit
set_option maxRecDepth 100000

theorem goes24 : Goes Tryd.prog 24 := goes_of Tryd.func24 (by kernel_rfl) rfl
theorem rdig_int (n : Int) (h0 : 0 ≤ n) (hu : n < 1000000000) (w : World) : Ans 35 [.int .i64 n] w (fun v w' => v = .string ⟨(Lib.decDigits n.toNat).toArray⟩ ∧ Below w.heap.size w w') := by
  obtain ⟨u, rfl⟩ : ∃ u : Nat, n = u := ⟨n.toNat, by omega⟩
  rw [Int.toNat_natCast]
  exact rdig_any u (by omega) w
theorem text_snoc {n : Int} {l : List E} {i : Nat} {x : E} (h : l[i]? = some x) : textOf n (l.take (i + 1)) = textOf n (l.take i) ++ edgeT x := by
  rw [List.take_add_one, h, Option.toList_some]
  unfold textOf
  rw [List.flatMap_append, List.flatMap_singleton, List.append_assoc]
theorem edgeT_is (x : E) : edgeT x = [101, 100, 103, 101, 32] ++ Lib.decDigits x.1.toNat ++ [32] ++ Lib.decDigits x.2.1.toNat ++ [32] ++ Lib.decDigits x.2.2.toNat ++ [10] := by
  simp [edgeT, lineT, joinN, joinC, edgeW]
theorem text_nil (n : Int) : textOf n [] = [103, 114, 97, 112, 104, 32] ++ Lib.decDigits n.toNat ++ [10] := by
  simp [textOf, lineT, joinN, joinC, graphW]
set_option maxHeartbeats 1000000 in
theorem rshow_any (n : Int) (es : List E) (v : Value) (w : World) (hE : Edges w v es) (hc : checkZ n es = 0) : Ans 24 [gv n v] w (fun u w' => u = .string ⟨(textOf n (normL n.toNat es)).toArray⟩ ∧ Below w.heap.size w w') := by
  have hE0 := hE
  obtain ⟨A, c, rfl, hc1, hc2, hA⟩ := id hE
  unfold maxLen at hc2
  obtain ⟨kn, rfl, hkn1, hkn2, hel⟩ := norm_small hc
  refine calls_qx (args := [gv (kn : Int) (.slice A es.length c)]) 44 Tryd.func24 rfl (by kernel_rfl) (by simp) (fun a hS => ?_)
  refine qx_seq (reg_seq ?_)
  refine seq_op hS (by decide) (runs_box rfl) (fun v1 w1 a1 hp1 hS => ?_)
  obtain ⟨rfl, hw1⟩ := hp1
  obtain ⟨hG, hB⟩ : Has w1 w.heap.size 24 [.int .i64 (kn : Int), .slice A es.length c] ∧ Below w.heap.size w w1 := by rw [hw1]; exact new_box w 24 [.int .i64 (kn : Int), .slice A es.length c]
  clear hw1
  have hE := hE0.kept hB
  generalize hgg : w.heap.size = g at *
  refine seq_is hS (by decide) (runs_assign rfl) (fun a1 hS => ?_)
  refine nil_ok (qx_seq (reg_seq ?_))
  refine seq_is hS (by decide) (runs_loadG rfl hG) (fun a1 hS => ?_)
  refine seq_op hS (by decide) (runs_call (args := [gv (kn : Int) (.slice A es.length c)]) goes18 rfl (rnorm_any kn es _ w1 hE hc)) (fun v3 w3 a3 hp3 hS => ?_)
  obtain ⟨hB3, x3, rfl, hE3⟩ := hp3
  obtain ⟨l, hl⟩ : ∃ l, l = normL kn es := ⟨_, rfl⟩
  rw [Int.toNat_natCast, ← hl] at hE3
  have hll : l.length = es.length := by rw [hl]; exact (norm_perm hc).length_eq
  have hsm : ∀ e ∈ l, smallE e := by rw [hl]; exact norm_smallE hc
  obtain ⟨A3, c3, rfl, _, hc3, hA3⟩ := hE3.edges
  unfold maxLen at hc3
  have hg0 := hG.lt
  have hB := hB.trans (hB3.mono (by omega))
  refine seq_op hS (by decide) (runs_alloc24) (fun v4 wa4 a1 hp1 hS => ?_)
  obtain ⟨rfl, hwa4⟩ := hp1
  refine seq_none hS (runs_store24 rfl rfl (by rw [hwa4]; exact Has.new w3 24 [.int .i64 0, .slice none 0 0]) rfl) (fun v4 w4 a1 hp1 hS => ?_)
  obtain ⟨rfl, hwb4⟩ := hp1
  obtain ⟨hM, hB4⟩ : Has w4 w3.heap.size 24 [.int .i64 (kn : Int), .slice A3 l.length c3] ∧ Below w3.heap.size w3 w4 := by rw [hwb4, hwa4]; exact new_row w3 24 [.int .i64 0, .slice none 0 0] [.int .i64 (kn : Int), .slice A3 l.length c3]
  clear hwb4 hwa4
  have hB3s := hB3.size
  have hB := hB.trans (hB4.mono (by omega))
  have hg6 := hM.lt
  have hA4 : 0 < l.length → ∃ b o, A3 = some ⟨b, o, none⟩ ∧ b < w4.heap.size ∧ w4.rangeAt b o (cellsE l) := fun h0 => by
    obtain ⟨b, o, h1, h2, h3⟩ := hA3 h0
    exact ⟨b, o, h1, by have := hB4.size; omega, range_below h3 hB4 h2⟩
  generalize w3.heap.size = g6 at *
  refine nil_ok (qx_seq (reg_seq ?_))
  refine seq_is hS (by decide) (runs_f24 (by decide) rfl) (fun a1 hS => ?_)
  refine seq_is hS (by decide) (runs_loadN rfl hM) (fun a1 hS => ?_)
  refine seq_op hS (by decide) (runs_call (args := [.int .i64 (kn : Int)]) goes35 rfl (rdig_int kn (by omega) (by omega) w4)) (fun v5 w5 a5 hp5 hS => ?_)
  obtain ⟨rfl, hB5⟩ := hp5
  have hdl := dec_len (((kn : Int)).toNat) (by omega)
  have hM := hM.below hB5 hM.lt
  refine seq_is hS (by decide) (runs_catL (a := [103, 114, 97, 112, 104, 32]) rfl rfl (by simp only [List.length_cons, List.length_nil]; omega)) (fun a1 hS => ?_)
  refine seq_is hS (by decide) (runs_catL (b := [10]) rfl rfl (by simp only [List.length_append, List.length_cons, List.length_nil]; omega)) (fun a1 hS => ?_)
  refine seq_is hS (by decide) (runs_assign rfl) (fun a1 hS => ?_)
  rw [← text_nil] at hS
  refine nil_ok (qx_seq (qx_seq (reg_seq ?_)))
  refine seq_is hS (by decide) (runs_assign rfl) (fun a1 hS => ?_)
  refine nil_ok (qx_for (fun m a w' => ∃ i : Nat, i ≤ l.length ∧ m = l.length - i ∧ (textOf (kn : Int) (l.take i)).length ≤ 16 + 35 * i ∧ Below w4.heap.size w4 w' ∧ Has w' g6 24 [.int .i64 (kn : Int), .slice A3 l.length c3] ∧ Sees 44 [(5, .int .i64 (i : Int)), (4, .string ⟨(textOf (kn : Int) (l.take i)).toArray⟩), (3, .pointer (some ⟨g6, 0, none⟩))] a) l.length ⟨0, by omega, by omega, by rw [List.take_zero, text_nil]; simp only [List.length_append, List.length_cons, List.length_nil]; omega, hB5, hM, hS.only _ ⟨rfl, rfl, rfl, trivial⟩⟩ ?_)
  clear hS hM hB5
  rintro m a w' ⟨i, hi, rfl, htl, hB5, hM, hS⟩
  refine reg_seq ?_
  refine seq_is hS (by decide) (runs_move rfl) (fun a1 hS => ?_)
  refine seq_is hS (by decide) (runs_f24 (by decide) rfl) (fun a1 hS => ?_)
  refine seq_is hS (by decide) (runs_loadV rfl hM) (fun a1 hS => ?_)
  refine seq_is hS (by decide) (runs_len rfl und22) (fun a1 hS => ?_)
  by_cases hlt : i < l.length
  · skip
    refine seq_is hS (by decide) (runs_lss (r := true) rfl rfl (by rw [decide_eq_true_eq]; omega)) (fun a1 hS => ?_)
    obtain ⟨b, o, rfl, hb, hr⟩ := hA4 (by omega)
    obtain ⟨x, hx⟩ : ∃ x, l[i]? = some x := ⟨_, List.getElem?_eq_getElem hlt⟩
    have hrx := range_below (edges_at hr hx) hB5 hb
    have hxs := hsm x (List.mem_of_getElem? hx)
    have het := edgeT_len hxs
    unfold smallE at hxs
    have d1 := dec_len x.1.toNat (by omega)
    have d2 := dec_len x.2.1.toNat (by omega)
    have d3 := dec_len x.2.2.toNat (by omega)
    have hsn := text_snoc (n := (kn : Int)) hx
    refine nil_ok ⟨_, hS.eval rfl, fun h => by simp at h, fun _ => ?_⟩
    refine qx_seq (qx_block (qx_seq (reg_seq ?_)))
    refine seq_is hS (by decide) (runs_f24 (by decide) rfl) (fun a1 hS => ?_)
    refine seq_is hS (by decide) (runs_loadV rfl hM) (fun a1 hS => ?_)
    refine seq_is hS (by decide) (runs_move rfl) (fun a1 hS => ?_)
    refine seq_is hS (by decide) (runs_indexAddrG (j := i) rfl rfl und22 siz45 rfl hlt) (fun a1 hS => ?_)
    refine seq_is hS (by decide) (runs_loadE rfl hrx) (fun a1 hS => ?_)
    refine seq_op hS (by decide) (runs_alloc45) (fun v6 wa6 a1 hp1 hS => ?_)
    obtain ⟨rfl, hwa6⟩ := hp1
    refine seq_none hS (runs_store45 rfl rfl (by rw [hwa6]; exact Has.new w' 45 [.int .i64 0, .int .i64 0, .int .i64 0]) rfl) (fun v6 w6 a1 hp1 hS => ?_)
    obtain ⟨rfl, hwb6⟩ := hp1
    obtain ⟨hX, hB6⟩ : Has w6 w'.heap.size 45 (encE x) ∧ Below w'.heap.size w' w6 := by rw [hwb6, hwa6]; exact new_row w' 45 [.int .i64 0, .int .i64 0, .int .i64 0] (encE x)
    clear hwb6 hwa6
    have hM := hM.below hB6 hM.lt
    have hB50 := hB5.size
    have hB5 := hB5.trans (hB6.mono (by omega))
    have hxl := hX.lt
    have hml := hM.lt
    generalize w'.heap.size = ge at *
    have hS := hS.only [(6, .pointer (some ⟨ge, 0, none⟩)), (5, .int .i64 (i : Int)), (4, .string ⟨(textOf (kn : Int) (l.take i)).toArray⟩), (3, .pointer (some ⟨g6, 0, none⟩))] ⟨rfl, rfl, rfl, rfl, trivial⟩
    generalize htx : textOf (kn : Int) (l.take i) = tx at *
    refine nil_ok ?_
    refine reg_guard (fun w7 => Below w6.heap.size w6 w7) [.inl (.string ⟨(tx).toArray⟩), .inl (.pointer (some ⟨ge, 0 + 0, none⟩)), .inl (.int .i64 x.1), .inl (.string ⟨(Lib.decDigits x.1.toNat).toArray⟩), .inl (.string ⟨([101, 100, 103, 101, 32] ++ Lib.decDigits x.1.toNat).toArray⟩), .inl (.string ⟨([101, 100, 103, 101, 32] ++ Lib.decDigits x.1.toNat ++ [32]).toArray⟩), .inl (.pointer (some ⟨ge, 0 + 1, none⟩)), .inl (.int .i64 x.2.1), .inl (.string ⟨(Lib.decDigits x.2.1.toNat).toArray⟩), .inl (.string ⟨([101, 100, 103, 101, 32] ++ Lib.decDigits x.1.toNat ++ [32] ++ Lib.decDigits x.2.1.toNat).toArray⟩), .inl (.string ⟨([101, 100, 103, 101, 32] ++ Lib.decDigits x.1.toNat ++ [32] ++ Lib.decDigits x.2.1.toNat ++ [32]).toArray⟩), .inl (.pointer (some ⟨ge, 0 + 2, none⟩)), .inl (.int .i64 x.2.2), .inl (.string ⟨(Lib.decDigits x.2.2.toNat).toArray⟩), .inl (.string ⟨([101, 100, 103, 101, 32] ++ Lib.decDigits x.1.toNat ++ [32] ++ Lib.decDigits x.2.1.toNat ++ [32] ++ Lib.decDigits x.2.2.toNat).toArray⟩), .inl (.string ⟨([101, 100, 103, 101, 32] ++ Lib.decDigits x.1.toNat ++ [32] ++ Lib.decDigits x.2.1.toNat ++ [32] ++ Lib.decDigits x.2.2.toNat ++ [10]).toArray⟩), .inl (.string ⟨(tx ++ ([101, 100, 103, 101, 32] ++ Lib.decDigits x.1.toNat ++ [32] ++ Lib.decDigits x.2.1.toNat ++ [32] ++ Lib.decDigits x.2.2.toNat ++ [10])).toArray⟩)] 17 1 mixed rfl (by kernel_rfl) hS (Below.refl _ _) (fun _ h => h.drew) ?_
    refine hs_is rfl (fun w' hw => runs_move rfl) ?_
    refine hs_is rfl (fun w' hw => runs_f45 (by decide) rfl) ?_
    refine hs_is rfl (fun w' hw => runs_load0 rfl (hX.below hw hxl)) ?_
    refine hs_val rfl (fun w' hw hq => (runs_call (args := [.int .i64 x.1]) goes35 rfl (rdig_int x.1 (by omega) (by omega) w')).mono (by rintro v w5 ⟨rfl, h1⟩; exact ⟨rfl, hw.trans (h1.mono hw.size), h1⟩)) ?_
    refine hs_is rfl (fun w' hw => runs_catL (a := [101, 100, 103, 101, 32]) rfl rfl (by simp only [List.length_cons, List.length_nil]; omega)) ?_
    refine hs_is rfl (fun w' hw => runs_catL (b := [32]) rfl rfl (by simp only [List.length_append, List.length_cons, List.length_nil]; omega)) ?_
    refine hs_is rfl (fun w' hw => runs_f45 (by decide) rfl) ?_
    refine hs_is rfl (fun w' hw => runs_load1 rfl (hX.below hw hxl)) ?_
    refine hs_val rfl (fun w' hw hq => (runs_call (args := [.int .i64 x.2.1]) goes35 rfl (rdig_int x.2.1 (by omega) (by omega) w')).mono (by rintro v w5 ⟨rfl, h1⟩; exact ⟨rfl, hw.trans (h1.mono hw.size), h1⟩)) ?_
    refine hs_is rfl (fun w' hw => runs_catL rfl rfl (by simp only [List.length_append, List.length_cons, List.length_nil]; omega)) ?_
    refine hs_is rfl (fun w' hw => runs_catL (b := [32]) rfl rfl (by simp only [List.length_append, List.length_cons, List.length_nil]; omega)) ?_
    refine hs_is rfl (fun w' hw => runs_f45 (by decide) rfl) ?_
    refine hs_is rfl (fun w' hw => runs_load2 rfl (hX.below hw hxl)) ?_
    refine hs_val rfl (fun w' hw hq => (runs_call (args := [.int .i64 x.2.2]) goes35 rfl (rdig_int x.2.2 (by omega) (by omega) w')).mono (by rintro v w5 ⟨rfl, h1⟩; exact ⟨rfl, hw.trans (h1.mono hw.size), h1⟩)) ?_
    refine hs_is rfl (fun w' hw => runs_catL rfl rfl (by simp only [List.length_append, List.length_cons, List.length_nil]; omega)) ?_
    refine hs_is rfl (fun w' hw => runs_catL (b := [10]) rfl rfl (by simp only [List.length_append, List.length_cons, List.length_nil]; omega)) ?_
    refine hs_is rfl (fun w' hw => runs_catL rfl rfl (by simp only [List.length_append, List.length_cons, List.length_nil]; omega)) ?_
    refine (fun a8 w8 hS8 hB8 _ => ?_)
    refine tail_op 17 (by kernel_rfl) rfl hS8 (by decide) (runs_assign rfl) (fun v9 w9 a9 hp9 hS9 => ⟨trivial, ?_⟩)
    obtain ⟨rfl, rfl⟩ := hp9
    refine wpAnyH_done (by kernel_rfl) ?_ _
    rw [← edgeT_is, ← hsn] at hS9
    have hM := hM.below hB8 hml
    have hB5 := hB5.trans (hB8.mono (by have := hB6.size; omega))
    have hS := hS9
    refine reg_seq ?_
    refine seq_is hS (by decide) (runs_move rfl) (fun a1 hS => ?_)
    refine seq_is hS (by decide) (runs_add (r := ((i + 1 : Nat) : Int)) rfl rfl (by simp [IntKind.wrap, IntKind.bits, IntKind.signed]; omega)) (fun a1 hS => ?_)
    refine seq_is hS (by decide) (runs_assign rfl) (fun a1 hS => ?_)
    exact nil_ok ⟨_, by omega, i + 1, by omega, rfl, by rw [hsn, List.length_append]; omega, hB5, hM, hS.only _ ⟨rfl, rfl, rfl, trivial⟩⟩
  · skip
    refine seq_is hS (by decide) (runs_lss (r := false) rfl rfl (by rw [decide_eq_false_iff_not]; omega)) (fun a1 hS => ?_)
    obtain rfl : i = l.length := by omega
    rw [List.take_length] at hS
    refine nil_ok ⟨_, hS.eval rfl, fun _ => ?_, fun h => by simp at h⟩
    refine qx_seq (reg_seq ?_)
    refine seq_is hS (by decide) (runs_move rfl) (fun a1 hS => ?_)
    refine seq_is hS (by decide) (runs_assign rfl) (fun a1 hS => ?_)
    exact nil_ok (qx_ret (ret1 (t := 2) (by kernel_rfl) hS rfl ⟨_, rfl, by rw [Int.toNat_natCast, ← hl], hB.trans (hB5.mono (by have := hB.size; omega))⟩))
end Go.Proofs.YtdbibjcplakelaaDoor
