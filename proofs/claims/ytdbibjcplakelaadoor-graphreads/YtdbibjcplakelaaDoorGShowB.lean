/- Layer 5: Show. Conditions: none of our own. -/
import Derived.Test.YtdbibjcplakelaaDoorGShow
namespace Go.Proofs.YtdbibjcplakelaaDoor
open Go.RowKit
set_option maxRecDepth 100000

theorem inf52 : (Tryd.prog.info? 52).map (fun i => (i.zero, i.size, i.bytes)) = some (some (.agg #[.pointer none, .slice none 0 0]), 2, 32) := by kernel_rfl
def showL (n : Int) (es : List E) : Bs := if checkZ n es = 0 then textOf n (normL n.toNat es) else []
theorem edgeT_len {e : E} (h : smallE e) : (edgeT e).length ≤ 35 := by
  have := joinN_len (ls := [e.1.toNat, e.2.1.toNat, e.2.2.toNat]) (by unfold smallE at h; simp; omega)
  unfold edgeT lineT
  simp only [List.length_append, List.length_cons, List.length_nil] at this ⊢
  have h2 : edgeW.length = 4 := rfl
  omega
theorem edgesT_len : ∀ {l : List E}, (∀ e ∈ l, smallE e) → (l.flatMap edgeT).length ≤ l.length * 35
  | [], _ => by simp
  | e :: l, h => by
    have h1 := edgeT_len (h e (by simp))
    have h2 := edgesT_len (l := l) (fun x hx => h x (by simp [hx]))
    rw [List.flatMap_cons, List.length_append, List.length_cons]
    omega
theorem norm_smallE {n : Nat} {es : List E} (h : checkZ n es = 0) : ∀ e ∈ normL n es, smallE e := fun e he => by
  have h1 := ((formed_iff n es).1 (check_zero h).1)
  have h2 := (okE_iff n e).1 (h1.2.2.2 e ((norm_perm h).mem_iff.1 he))
  unfold smallE; omega
theorem ints3 {e : E} (h : smallE e) : [Value.int .i64 e.1, Value.int .i64 e.2.1, Value.int .i64 e.2.2] = ints [e.1.toNat, e.2.1.toNat, e.2.2.toNat] := by
  unfold smallE at h
  simp only [ints, List.map_cons, List.map_nil]
  rw [Int.toNat_of_nonneg (by omega), Int.toNat_of_nonneg (by omega), Int.toNat_of_nonneg (by omega)]
set_option maxHeartbeats 1000000 in
theorem show_any (n : Int) (es : List E) (v : Value) (w : World) (hE : Edges w v es) (hk : Kept w) : Ans 22 [gv n v] w (fun u w' => Below w.heap.size w w' ∧ u = .tuple #[.string ⟨(showL n es).toArray⟩, .int .i64 (checkZ n es)]) := by
  have hE0 := hE
  obtain ⟨A, c, rfl, h1, h2, hA⟩ := hE
  obtain ⟨i2, hi2, hz2, hs2, hb2⟩ := info_parts inf2
  obtain ⟨i52, hi52, hz52, _, _⟩ := info_parts inf52
  refine calls_qx (args := [gv n (.slice A es.length c)]) 37 Tryd.func22 rfl (by kernel_rfl) (by simp) (fun a hS => ?_)
  refine qx_seq (reg_seq ?_)
  refine seq_op hS (by decide) (runs_box rfl) (fun v1 w1 a1 hp1 hS => ?_)
  obtain ⟨rfl, hw1⟩ := hp1
  obtain ⟨hG, hB1⟩ : Has w1 w.heap.size 24 [.int .i64 n, .slice A es.length c] ∧ Below w.heap.size w w1 := by rw [hw1]; exact new_box w 24 [.int .i64 n, .slice A es.length c]
  clear hw1
  have hE := hE0.kept hB1
  refine seq_is hS (by decide) (runs_assign rfl) (fun a1 hS => ?_)
  refine seq_is hS (by decide) (runs_assign rfl) (fun a1 hS => ?_)
  refine nil_ok (qx_seq (reg_seq ?_))
  refine seq_is hS (by decide) (runs_loadG rfl hG) (fun a1 hS => ?_)
  refine seq_op hS (by decide) (runs_call (args := [gv n (.slice A es.length c)]) goes12 rfl (norm_any n es _ w1 hE)) (fun v2 w2 a2 hp2 hS => ?_)
  obtain ⟨hB2, k, x, l, rfl, hl, hyes, hno⟩ := hp2
  obtain ⟨A2, c2, rfl, _, _, _⟩ := id hl
  have hgl := hG.lt
  have hG := hG.below hB2 hG.lt
  have hB := hB1.trans (hB2.mono hB1.size)
  refine seq_is hS (by decide) (runs_move rfl) (fun a1 hS => ?_)
  refine seq_is hS (by decide) (runs_extract rfl rfl) (fun a1 hS => ?_)
  refine seq_is hS (by decide) (runs_extract rfl rfl) (fun a1 hS => ?_)
  refine seq_none hS (runs_store24 rfl rfl hG rfl) (fun v3 w3 a3 hp3 hS => ?_)
  obtain ⟨rfl, hw3⟩ := hp3
  have hG3 : Has w3 w.heap.size 24 [.int .i64 k, .slice A2 l.length c2] := by rw [hw3]; exact has_setRow hG
  have hl3 : EdgesB w1.heap.size w3 (.slice A2 l.length c2) l := by rw [hw3]; exact hl.setRow hgl _
  have hB3 : Below w.heap.size w w3 := by rw [hw3]; exact below_rowB hB (Nat.le_refl _) _
  clear hw3 hG hl
  have hk3 := hk.on hB3
  refine seq_is hS (by decide) (runs_assign rfl) (fun a1 hS => ?_)
  refine nil_ok (qx_seq (qx_seq (reg_seq ?_)))
  refine seq_is hS (by decide) (runs_move rfl) (fun a1 hS => ?_)
  by_cases hc : checkZ n es = 0
  · skip
    refine seq_is hS (by decide) (runs_neq (r := false) rfl rfl (by simp [hc])) (fun a1 hS => ?_)
    obtain ⟨rfl, hle⟩ := hyes hc
    obtain ⟨kn, rfl, hkn1, hkn2, hkn3⟩ := norm_small hc
    rw [Int.toNat_natCast] at hle
    have hsm : ∀ e ∈ l, smallE e := by rw [hle]; exact norm_smallE hc
    have hll : l.length = es.length := by rw [hle]; exact norm_length hc
    refine nil_ok (wp_cond_false (hS.eval rfl) (wp_skip (qx_seq (reg_seq ?_))))
    refine seq_op hS (by decide) (runs_alloc hi52 hz52) (fun v4 w4 a4 hp4 hS => ?_)
    obtain ⟨rfl, hw4⟩ := hp4
    have hbl : Bld w3.heap.size w3.heap.size [] w4 := .inl ⟨Nat.le_refl _, .slice none 0 0, by rw [hw4]; exact heap_alloc_new _ _, World.ownsRowF_nil _ _ _ _, by simp [Value.ownBlock]⟩
    have hB4 : Below w3.heap.size w3 w4 := by rw [hw4]; exact (Below.refl _ _).alloc (Nat.le_refl _) _
    clear hw4
    have hG := hG3.below hB4 hG3.lt
    have hBe : w3.heap.size ≤ w4.heap.size := hB4.size
    refine nil_ok (qx_seq (reg_seq ?_))
    refine seq_is hS (by decide) (runs_f24 (by decide) rfl) (fun a1 hS => ?_)
    refine seq_is hS (by decide) (runs_loadN rfl hG) (fun a1 hS => ?_)
    refine seq_op hS (by decide) (runs_buildSlice (pv := [(0, .int .i64 (kn : Int))]) rfl und69 hi2 hz2 hs2 (by omega) (by omega) (cells := #[.int .i64 (kn : Int)]) (by kernel_rfl)) (fun v5 w5 a5 hp5 hS => ?_)
    obtain ⟨rfl, hw5⟩ := hp5
    obtain ⟨hX, hB5⟩ : Has w5 w4.heap.size 2 (ints [kn]) ∧ Below w4.heap.size w4 w5 := by rw [hw5]; exact new_box w4 2 _
    clear hw5
    have hbl := bld_kept hbl hB5
    have hB5 := hB4.trans (hB5.mono hBe)
    refine seq_op hS (by decide) (runs_call (args := [.pointer (some ⟨w3.heap.size, 0, none⟩), .string ⟨#[103, 114, 97, 112, 104]⟩, .slice (some ⟨w4.heap.size, 0, none⟩) 1 1]) goes32 rfl (wline_any _ _ [] ⟨#[103, 114, 97, 112, 104]⟩ [kn] _ w5 (hk3.below hB5 hk3.pos) hk3.pos hB5.size hbl hX (by simp) (by decide) (by simp) (by simp; omega))) (fun v6 w6 a6 hp6 hS => ?_)
    obtain ⟨hB6, hbl⟩ := hp6
    have hB6 := hB5.trans hB6
    have hG := hG3.below hB6 hG3.lt
    refine nil_ok (qx_seq (qx_seq (reg_seq ?_)))
    refine seq_is hS (by decide) (runs_f24 (by decide) rfl) (fun a1 hS => ?_)
    refine seq_is hS (by decide) (runs_loadV rfl hG) (fun a1 hS => ?_)
    refine seq_is hS (by decide) (runs_len rfl und22) (fun a1 hS => ?_)
    refine seq_is hS (by decide) (runs_move rfl) (fun a1 hS => ?_)
    refine nil_ok (qx_range (fun m a w' => ∃ i : Nat, i ≤ l.length ∧ m = l.length - i ∧ Below w3.heap.size w3 w' ∧ Bld w3.heap.size w3.heap.size (lineT graphW [kn] ++ (l.take i).flatMap edgeT) w' ∧ Sees 37 [(23, .int .i64 (i : Int)), (22, .int .i64 ((l.length : Nat) : Int)), (21, .slice A2 l.length c2), (5, .pointer (some ⟨w3.heap.size, 0, none⟩))] a) l.length ⟨0, by omega, by omega, hB6, by rw [List.take_zero, List.flatMap_nil, List.append_nil]; exact hbl, hS.only _ ⟨rfl, rfl, rfl, rfl, trivial⟩⟩ ?_)
    rintro m a w' ⟨i, hi, rfl, hB7, hbl, hS⟩
    have hlen := edgesT_len (l := l.take i) (fun x hx => hsm x (List.mem_of_mem_take hx))
    have hil : (l.take i).length = i := by simp; omega
    rw [hil] at hlen
    have hgn := joinN_len (ls := [kn]) (by simp; omega)
    have hlen2 : (lineT graphW [kn] ++ (l.take i).flatMap edgeT).length ≤ 100 + i * 35 := by
      simp only [lineT, List.length_append, List.length_cons, List.length_nil] at hgn ⊢
      have : graphW.length = 5 := rfl
      omega
    refine reg_seq ?_
    by_cases hlt : i < l.length
    · skip
      obtain ⟨_, _, e4, _, hcm, hA4⟩ := id hl3
      simp only [Value.slice.injEq, true_and] at e4
      obtain ⟨rfl, rfl⟩ := e4
      obtain ⟨b, o, rfl, _, hbb, hr⟩ := hA4 (by omega)
      obtain ⟨e, he⟩ : ∃ e, l[i]? = some e := ⟨_, List.getElem?_eq_getElem hlt⟩
      have hre := range_below (edges_at hr he) hB7 hbb
      have hse := hsm e (List.mem_of_getElem? he)
      unfold maxLen at hcm
      refine seq_is hS (by decide) (runs_lss (r := true) rfl rfl (by rw [decide_eq_true_eq]; omega)) (fun a1 hS => ?_)
      refine nil_ok ⟨_, hS.eval rfl, fun h => by simp at h, fun _ => ?_⟩
      refine qx_seq (qx_block (qx_seq (reg_seq ?_)))
      refine seq_is hS (by decide) (runs_indexAddrG (j := i) rfl rfl und22 siz45 rfl hlt) (fun a1 hS => ?_)
      refine seq_is hS (by decide) (runs_loadE rfl hre) (fun a1 hS => ?_)
      refine seq_op hS (by decide) (runs_alloc45) (fun v2 wa2 a1 hp1 hS => ?_)
      obtain ⟨rfl, hwa2⟩ := hp1
      refine seq_none hS (runs_store45 rfl rfl (by rw [hwa2]; exact Has.new w' 45 [.int .i64 0, .int .i64 0, .int .i64 0]) rfl) (fun v2 w8 a1 hp1 hS => ?_)
      obtain ⟨rfl, hwb2⟩ := hp1
      obtain ⟨hE8, hB8⟩ : Has w8 w'.heap.size 45 (encE e) ∧ Below w'.heap.size w' w8 := by rw [hwb2, hwa2]; exact new_row w' 45 [.int .i64 0, .int .i64 0, .int .i64 0] (encE e)
      clear hwb2 hwa2
      have hbl := bld_kept hbl hB8
      have hB8 : Below w3.heap.size w3 w8 := hB7.trans (hB8.mono hB7.size)
      refine nil_ok (reg_seq ?_)
      refine seq_is hS (by decide) (runs_f45 (by decide) rfl) (fun a1 hS => ?_)
      refine seq_is hS (by decide) (runs_load0 rfl hE8) (fun a1 hS => ?_)
      refine seq_is hS (by decide) (runs_f45 (by decide) rfl) (fun a1 hS => ?_)
      refine seq_is hS (by decide) (runs_load1 rfl hE8) (fun a1 hS => ?_)
      refine seq_is hS (by decide) (runs_f45 (by decide) rfl) (fun a1 hS => ?_)
      refine seq_is hS (by decide) (runs_load2 rfl hE8) (fun a1 hS => ?_)
      refine seq_op hS (by decide) (runs_buildSlice (pv := [(0, .int .i64 e.1), (1, .int .i64 e.2.1), (2, .int .i64 e.2.2)]) rfl und69 hi2 hz2 hs2 (by omega) (by omega) (cells := #[.int .i64 e.1, .int .i64 e.2.1, .int .i64 e.2.2]) (by kernel_rfl)) (fun v9 w9 a9 hp9 hS => ?_)
      obtain ⟨rfl, hw9⟩ := hp9
      obtain ⟨hX9, hB9⟩ : Has w9 w8.heap.size 2 (ints [e.1.toNat, e.2.1.toNat, e.2.2.toNat]) ∧ Below w8.heap.size w8 w9 := by rw [hw9, ← ints3 hse]; exact new_box w8 2 [.int .i64 e.1, .int .i64 e.2.1, .int .i64 e.2.2]
      clear hw9
      have hbl := bld_kept hbl hB9
      have hB9 := hB8.trans (hB9.mono hB8.size)
      refine seq_op hS (by decide) (runs_call (args := [.pointer (some ⟨w3.heap.size, 0, none⟩), .string ⟨#[101, 100, 103, 101]⟩, .slice (some ⟨w8.heap.size, 0, none⟩) 3 3]) goes32 rfl (wline_any _ _ _ ⟨#[101, 100, 103, 101]⟩ [e.1.toNat, e.2.1.toNat, e.2.2.toNat] _ w9 (hk3.below hB9 hk3.pos) hk3.pos hB9.size hbl hX9 (by omega) (by decide) (by simp) (by unfold smallE at hse; simp; omega))) (fun v10 w10 a10 hp10 hS => ?_)
      obtain ⟨hB10, hbl⟩ := hp10
      have hB10 := hB9.trans hB10
      refine nil_ok (reg_seq ?_)
      refine seq_is hS (by decide) (runs_add (r := ((i + 1 : Nat) : Int)) rfl rfl (by simp [IntKind.wrap, IntKind.bits, IntKind.signed]; omega)) (fun a1 hS => ?_)
      refine seq_is hS (by decide) (runs_move rfl) (fun a1 hS => ?_)
      refine nil_ok ⟨_, by omega, i + 1, by omega, rfl, hB10, ?_, hS.only _ ⟨rfl, rfl, rfl, rfl, trivial⟩⟩
      rw [List.take_add_one, he, Option.toList_some, List.flatMap_append, List.flatMap_cons, List.flatMap_nil, List.append_nil, ← List.append_assoc]
      exact hbl
    · skip
      refine seq_is hS (by decide) (runs_lss (r := false) rfl rfl (by rw [decide_eq_false_iff_not]; omega)) (fun a1 hS => ?_)
      rw [List.take_of_length_le (by omega)] at hbl
      refine nil_ok ⟨_, hS.eval rfl, fun _ => ?_, fun h => by simp at h⟩
      refine qx_seq (reg_seq ?_)
      refine seq_op hS (by decide) (runs_call (args := [.pointer (some ⟨w3.heap.size, 0, none⟩)]) (Post := fun v w11 => v = .string ⟨(textOf kn l).toArray⟩ ∧ Below w3.heap.size w' w11) goes33 rfl ((Builder_String_any_k _ _ _ w' hbl hB7.size).mono (by rintro e w11 ⟨rfl, _, h5, _⟩; exact ⟨_, rfl, rfl, h5⟩))) (fun v11 w11 a11 hp11 hS => ?_)
      obtain ⟨rfl, hB11⟩ := hp11
      have hB11 := hB7.trans hB11
      refine seq_is hS (by decide) (runs_assign rfl) (fun a1 hS => ?_)
      refine seq_is hS (by decide) (runs_assign rfl) (fun a1 hS => ?_)
      exact nil_ok (qx_ret (ret2 (t := 2) (u := 3) (by kernel_rfl) hS rfl rfl ⟨_, rfl, hB3.trans (hB11.mono hB3.size), by rw [showL, if_pos hc, hc, Int.toNat_natCast, ← hle]⟩))
  · skip
    refine seq_is hS (by decide) (runs_neq (r := true) rfl rfl (by simp [hc])) (fun a1 hS => ?_)
    refine nil_ok (wp_cond_true (hS.eval rfl) (qx_seq (reg_seq ?_)))
    refine seq_is hS (by decide) (runs_move rfl) (fun a1 hS => ?_)
    refine seq_is hS (by decide) (runs_assign rfl) (fun a1 hS => ?_)
    refine seq_is hS (by decide) (runs_assign rfl) (fun a1 hS => ?_)
    exact nil_ok (qx_ret (ret2 (t := 2) (u := 3) (by kernel_rfl) hS rfl rfl ⟨_, rfl, hB3, by rw [showL, if_neg hc]; rfl⟩))
end Go.Proofs.YtdbibjcplakelaaDoor
