/- Layer 12: the program's Put. Conditions: none but those of the contract. -/
import Derived.Test.YtooeahpkhocaeaaDoorCMay
import Derived.Test.YtooeahpkhocaeaaDoorCRow
namespace Go.Proofs.YtooeahpkhocaeaaDoor
open Go.RowKit
set_option maxRecDepth 100000

theorem wr_hash {B b : Nat} {w : World} {l h : List Nat} (hh : h.length = 32) (hW : Wr B w b l) (hl : l.length ≤ 100000) : Ans 21 [.pointer (some ⟨b, 0, none⟩), .agg (U8 h).toArray] w (fun _ w' => Wr B w' b (l ++ h) ∧ Below B w w') := by
  obtain ⟨h1, h2, v, h3, h4⟩ := hW
  exact (outHash_any b h v l w hh h3 hl).mono (by rintro e w' ⟨rfl, k⟩; exact ⟨_, rfl, Wr.wrote h1 h2 h3 h4 k⟩)
theorem Wr.butH {B b g : Nat} {w w' : World} {l : List Nat} {T : TypeId} {old : List Value} (h : Wr B w b l) (hU : But (fun i => i = g) w w') (ho : Has w g T old) (h1 : T ≠ 73) (h2 : T ≠ 5) : Wr B w' b l := by
  obtain ⟨k1, k2, v, ⟨k3, k4⟩, k5⟩ := h
  exact ⟨k1, Nat.le_trans k2 hU.size, v, ⟨k3.but hU (has_ne k3 ho (Ne.symm h1)), owns_but k4 hU (fun i o hi e => by subst e; exact has_ne hi ho (Ne.symm h2) rfl)⟩, k5⟩
/-- A number of 64 bits that is taken for one without a sign. -/
def u64 (x : Int) : Nat := (x % 18446744073709551616).toNat
theorem may_right {c : Cm} (h : FitsC c) : mayC (u64 c.w) (u64 c.st) c.bs.length = rightC c := by
  obtain ⟨⟨h1, h2⟩, h3, h4⟩ := h
  have e1 : decide (u64 c.w ≤ 63) = (decide (0 ≤ c.w) && decide (c.w < 64)) := by
    rw [← Bool.decide_and]
    refine decide_eq_decide.2 ?_
    unfold u64
    constructor <;> intro _ <;> omega
  have e2 : decide (u64 c.st ≤ 63) = (decide (0 ≤ c.st) && decide (c.st < 64)) := by
    rw [← Bool.decide_and]
    refine decide_eq_decide.2 ?_
    unfold u64
    constructor <;> intro _ <;> omega
  unfold mayC inB rightC
  rw [e1, e2]
  simp only [Nat.zero_le, decide_true, Bool.true_and, Bool.and_assoc]
theorem zoH : zeroOf Tryd.prog 23 = some (.agg (U8 zero32).toArray) := by kernel_rfl
set_option maxHeartbeats 1000000 in
theorem cput_c : CPutC := fun c u w hC hn hF => by
  show Ans 9 [u] w _
  obtain ⟨x, rfl, hH, hl, hby⟩ := id hC
  obtain ⟨A, cc, rfl, hc1, hc2, hHo, -⟩ := id hH
  obtain ⟨f1, f2⟩ := id hF
  refine calls_qx (args := [.agg (cmc c (.slice A c.bs.length cc)).toArray]) 55 Tryd.func9 rfl (by kernel_rfl) (by simp) (fun a hS => ?_)
  have hB := Below.refl w.heap.size w
  have hHb := hH
  refine qx_seq (reg_seq ?_)
  refine seq_op hS (by decide) (runs_boxB (cs := cmc c (.slice A c.bs.length cc)) rfl rfl) (fun v1 w1 a1 hp hS => ?_)
  obtain ⟨rfl, hM1, hB1⟩ := hp
  have hB := hB.trans (hB1.mono hB.size)
  have hH := hHb.kept hB
  refine sI hS (runs_assign rfl) fun _ hS => ?_
  refine sI hS (runs_assign rfl) fun _ hS => ?_
  refine nil_ok (qx_seq (qx_seq (reg_seq ?_)))
  refine sI hS (runs_fieldK foC_0 rfl) fun _ hS => ?_
  refine sI hS (runs_load rfl pl3 (hM1.at rfl)) fun _ hS => ?_
  refine sI hS (runs_convInt (r := ((u64 c.w : Nat) : Int)) rfl (by decide) undB64 (by simp [IntKind.wrap, IntKind.bits, IntKind.signed, u64]; omega)) fun _ hS => ?_
  refine sI hS (runs_fieldK foC_1 rfl) fun _ hS => ?_
  refine sI hS (runs_load rfl pl3 (hM1.at rfl)) fun _ hS => ?_
  refine sI hS (runs_convInt (r := ((u64 c.st : Nat) : Int)) rfl (by decide) undB64 (by simp [IntKind.wrap, IntKind.bits, IntKind.signed, u64]; omega)) fun _ hS => ?_
  refine sI hS (runs_fieldK foC_3 rfl) fun _ hS => ?_
  refine sI hS (runs_load rfl pl924 (hM1.at (cm_v hl))) fun _ hS => ?_
  refine sI hS (runs_len rfl undHs) fun _ hS => ?_
  refine sI hS (runs_convInt (r := ((c.bs.length : Nat) : Int)) rfl (by decide) undB64 (by simp [IntKind.wrap, IntKind.bits, IntKind.signed]; omega)) fun _ hS => ?_
  refine seq_op hS (by decide) (runs_call (args := [.int .u64 ((u64 c.w : Nat) : Int), .int .u64 ((u64 c.st : Nat) : Int), .int .u64 ((c.bs.length : Nat) : Int)]) goes18 rfl (may_any _ _ _ w1)) (fun v3 w3 a1 hp hS => ?_)
  obtain ⟨rfl, hB3⟩ := hp
  rw [may_right hF] at hS
  have hB := hB.trans (hB3.mono hB.size)
  have hM1 := hM1.below hB3 hM1.lt
  have hH := hHb.kept hB
  by_cases hr : rightC c = true
  · skip
    rw [hr] at hS
    refine sI hS (runs_not (b := true) rfl) fun _ hS => ?_
    refine nil_ok (wp_cond_false (hS.eval rfl) (wp_skip (qx_seq (?_))))
    obtain ⟨r1, r2, r3, r4, r5, r6⟩ := (rightC_iff c).1 hr
    have l1 := Wire.num_len10 c.w.toNat (by omega)
    have l2 := Wire.num_len10 c.st.toNat (by omega)
    have l4 := Wire.num_len10 c.bs.length (by omega)
    have hfl := flatten_len c.bs (fun x hx => (hHo x hx).1)
    have h67 : Wire.num 67 = [67] := Wire.num_lt (by omega)
    have hBpre0 := hB
    have hB := Below.refl w3.heap.size w3
    have hM1b := hM1
    have hHb := hH
    refine reg_seq ?_
    refine seq_op hS (by decide) (runs_call (args := []) goes19 rfl (wr_new w3)) (fun v5 w5 a1 hp hS => ?_)
    obtain ⟨rfl, hW, hK5⟩ := hp
    have hB := hB.trans hK5
    have hM1 := hM1b.below hB hM1b.lt
    have hH := hHb.kept hB
    refine sI hS (runs_assign rfl) fun _ hS => ?_
    refine nil_ok (qx_seq (reg_seq ?_))
    refine sI hS (runs_move rfl) fun _ hS => ?_
    refine seq_op hS (by decide) (runs_call (args := [.pointer (some ⟨w3.heap.size, 0, none⟩), .int .u64 ((67 : Nat) : Int)]) goes20 rfl (wr_num (n := 67) hW (by omega) (by simp))) (fun v6 w6 a1 hp hS => ?_)
    obtain ⟨hW, hK6⟩ := hp
    have hB := hB.trans hK6
    have hM1 := hM1b.below hB hM1b.lt
    have hH := hHb.kept hB
    refine nil_ok (qx_seq (reg_seq ?_))
    refine sI hS (runs_move rfl) fun _ hS => ?_
    refine sI hS (runs_fieldK foC_0 rfl) fun _ hS => ?_
    refine sI hS (runs_load rfl pl3 (hM1.at rfl)) fun _ hS => ?_
    refine sI hS (runs_convInt (r := ((c.w.toNat : Nat) : Int)) rfl (by decide) undB64 (by simp [IntKind.wrap, IntKind.bits, IntKind.signed]; omega)) fun _ hS => ?_
    refine seq_op hS (by decide) (runs_call (args := [.pointer (some ⟨w3.heap.size, 0, none⟩), .int .u64 ((c.w.toNat : Nat) : Int)]) goes20 rfl (wr_num hW (by omega) (by simp only [List.length_append, List.length_nil, h67, List.length_cons]; omega))) (fun v7 w7 a1 hp hS => ?_)
    obtain ⟨hW, hK7⟩ := hp
    have hB := hB.trans hK7
    have hM1 := hM1b.below hB hM1b.lt
    have hH := hHb.kept hB
    refine nil_ok (qx_seq (reg_seq ?_))
    refine sI hS (runs_move rfl) fun _ hS => ?_
    refine sI hS (runs_fieldK foC_1 rfl) fun _ hS => ?_
    refine sI hS (runs_load rfl pl3 (hM1.at rfl)) fun _ hS => ?_
    refine sI hS (runs_convInt (r := ((c.st.toNat : Nat) : Int)) rfl (by decide) undB64 (by simp [IntKind.wrap, IntKind.bits, IntKind.signed]; omega)) fun _ hS => ?_
    refine seq_op hS (by decide) (runs_call (args := [.pointer (some ⟨w3.heap.size, 0, none⟩), .int .u64 ((c.st.toNat : Nat) : Int)]) goes20 rfl (wr_num hW (by omega) (by simp only [List.length_append, List.length_nil, h67, List.length_cons]; omega))) (fun v8 w8 a1 hp hS => ?_)
    obtain ⟨hW, hK8⟩ := hp
    have hB := hB.trans hK8
    have hM1 := hM1b.below hB hM1b.lt
    have hH := hHb.kept hB
    refine nil_ok (qx_seq (reg_seq ?_))
    refine sI hS (runs_move rfl) fun _ hS => ?_
    refine sI hS (runs_fieldK foC_2 rfl) fun _ hS => ?_
    refine sI hS (runs_loadMid rfl (cm_root hM1 hl) Tryd.underlying23 rfl (by rw [infHash, U8_length, hl])) fun _ hS => ?_
    refine seq_op hS (by decide) (runs_call (args := [.pointer (some ⟨w3.heap.size, 0, none⟩), .agg (U8 c.root).toArray]) goes21 rfl (wr_hash hl hW (by simp only [List.length_append, List.length_nil, h67, List.length_cons]; omega))) (fun v9 w9 a1 hp hS => ?_)
    obtain ⟨hW, hK9⟩ := hp
    have hB := hB.trans hK9
    have hM1 := hM1b.below hB hM1b.lt
    have hH := hHb.kept hB
    refine nil_ok (qx_seq (reg_seq ?_))
    refine sI hS (runs_move rfl) fun _ hS => ?_
    refine sI hS (runs_fieldK foC_3 rfl) fun _ hS => ?_
    refine sI hS (runs_load rfl pl924 (hM1.at (cm_v hl))) fun _ hS => ?_
    refine sI hS (runs_len rfl undHs) fun _ hS => ?_
    refine sI hS (runs_convInt (r := ((c.bs.length : Nat) : Int)) rfl (by decide) undB64 (by simp [IntKind.wrap, IntKind.bits, IntKind.signed]; omega)) fun _ hS => ?_
    refine seq_op hS (by decide) (runs_call (args := [.pointer (some ⟨w3.heap.size, 0, none⟩), .int .u64 ((c.bs.length : Nat) : Int)]) goes20 rfl (wr_num hW (by omega) (by simp only [List.length_append, List.length_nil, h67, List.length_cons]; omega))) (fun v10 w10 a1 hp hS => ?_)
    obtain ⟨hW, hK10⟩ := hp
    have hB := hB.trans hK10
    have hM1 := hM1b.below hB hM1b.lt
    have hH := hHb.kept hB
    refine nil_ok (qx_seq (qx_seq (?_)))
    obtain ⟨pre, hpre⟩ : ∃ p, [] ++ Wire.num 67 ++ Wire.num c.w.toNat ++ Wire.num c.st.toNat ++ c.root ++ Wire.num c.bs.length = p := ⟨_, rfl⟩
    have hpl : pre.length ≤ 63 := by rw [← hpre]; simp only [List.length_append, List.length_cons, List.length_nil, h67]; omega
    rw [hpre] at hW
    refine reg_seq ?_
    refine sI hS (runs_fieldK foC_3 rfl) fun _ hS => ?_
    refine sI hS (runs_load rfl pl924 (hM1.at (cm_v hl))) fun _ hS => ?_
    refine sI hS (runs_len rfl undHs) fun _ hS => ?_
    refine sI hS (runs_move rfl) fun _ hS => ?_
    refine nil_ok (?_)
    rw [show pre = pre ++ (c.bs.take 0).flatten by simp] at hW
    refine qx_range (fun mm a w' => ∃ (i : Nat), i ≤ c.bs.length ∧ mm = c.bs.length - i ∧ Below w3.heap.size w3 w' ∧ Wr w3.heap.size w' (w3.heap.size) (pre ++ (c.bs.take i).flatten) ∧ Sees 55 [(45, .int .i64 (i : Int)), (44, .int .i64 ((c.bs.length : Nat) : Int)), (43, .slice A c.bs.length cc), (4, .pointer (some ⟨w3.heap.size, 0, none⟩))] a) c.bs.length ⟨0, by omega, by omega, hB, hW, hS.only _ ⟨rfl, rfl, rfl, rfl, trivial⟩⟩ ?_
    clear hS 
    rintro mm a wl1 ⟨i, hi1, rfl, hBb1, hW, hS⟩
    have hBsz1 := hBb1.size
    have hH := hHb.kept hBb1
    have hB := Below.refl wl1.heap.size wl1
    refine reg_seq ?_
    by_cases hlt1 : i < c.bs.length
    · skip
      refine sI hS (lssT rfl rfl (by omega)) fun _ hS => ?_
      refine nil_ok ⟨_, hS.eval rfl, fun h => by simp at h, fun _ => ?_⟩
      have hSn := hS
      have hWn := hW
      obtain ⟨x, hx⟩ : ∃ x, c.bs[i]? = some x := ⟨c.bs[i], by simp [hlt1]⟩
      obtain ⟨b, o, hbe, hbw, hr_⟩ := hashes_row hH (by omega)
      cases hbe
      have hrx := hashes_at hr_ hHo hx
      have hx32 := (hHo x (List.mem_of_getElem? hx)).1
      have hfi : ((c.bs.take i).flatten).length ≤ 32 * 64 := by rw [flatten_len _ (fun y hy => (hHo y (List.mem_of_mem_take hy)).1), List.length_take]; omega
      have hS := hSn
      have hW := hWn
      refine qx_seq (qx_block (qx_seq (reg_seq ?_)))
      refine sI hS (runs_indexAddrG (j := i) rfl rfl undHs szHs rfl hlt1) fun _ hS => ?_
      refine sI hS (runs_loadMid rfl hrx Tryd.underlying23 rfl (by rw [infHash, U8_length, hx32])) fun _ hS => ?_
      refine seq_op hS (by decide) (runs_allocB (cs := U8 zero32) zoH rfl) (fun v11 w11 a1 hp hS => ?_)
      obtain ⟨rfl, hM11, hB11⟩ := hp
      have hW := hW.below hB11
      have hLhM11 : wl1.heap.size ≤ wl1.heap.size := hB.size
      have hB := hB.trans (hB11.mono hB.size)
      refine seq_none hS (runs_storeB (cs := U8 x) rfl rfl hM11 (by rw [U8_length, U8_length, hx32]; rfl) (List.all_eq_true.2 (U8_one x)) (by rw [infHash, U8_length, hx32])) (fun v13 w13 a1 hp hS => ?_)
      have hQ13 := hM11
      obtain ⟨hM11, hU13⟩ := hp
      have hB := But.new hB hU13 (fun i e => by rw [e]; exact hLhM11) (Nat.le_refl _)
      have hW := hW.butH hU13 hQ13 (by decide) (by decide)
      refine nil_ok (reg_seq ?_)
      refine sI hS (runs_move rfl) fun _ hS => ?_
      refine sI hS (runs_loadRow rfl hM11 Tryd.underlying23 rfl (by rw [infHash, U8_length, hx32])) fun _ hS => ?_
      refine seq_op hS (by decide) (runs_call (args := [.pointer (some ⟨w3.heap.size, 0, none⟩), .agg (U8 x).toArray]) goes21 rfl (wr_hash hx32 hW (by simp only [List.length_append]; omega))) (fun v15 w15 a1 hp hS => ?_)
      obtain ⟨hW, hK15⟩ := hp
      have hB := (hBb1.trans (hB.mono hBsz1)).trans hK15
      refine nil_ok (reg_seq ?_)
      refine sI hS (runs_add (r := ((i + 1 : Nat) : Int)) rfl rfl (by simp [IntKind.wrap, IntKind.bits, IntKind.signed]; omega)) fun _ hS => ?_
      refine sI hS (runs_move rfl) fun _ hS => ?_
      exact nil_ok ⟨_, by omega, i + 1, by omega, rfl, hB, by rw [List.take_add_one, hx, Option.toList_some, List.flatten_append, List.flatten_singleton, ← List.append_assoc]; exact hW, hS.only _ ⟨rfl, rfl, rfl, rfl, trivial⟩⟩
    refine sI hS (lssF rfl rfl (by omega)) fun _ hS => ?_
    obtain rfl : i = c.bs.length := by omega
    refine nil_ok ⟨_, hS.eval rfl, fun _ => ?_, fun h => by simp at h⟩
    have hB := hBb1
    rw [List.take_length] at hW
    refine qx_seq (reg_seq ?_)
    refine sI hS (runs_move rfl) fun _ hS => ?_
    refine sI hS (runs_call (args := [.pointer (some ⟨w3.heap.size, 0, none⟩)]) goes22 rfl (wr_done hW)) fun _ hS => ?_
    refine sI hS (runs_assign rfl) fun _ hS => ?_
    refine sI hS (runs_assign rfl) fun _ hS => ?_
    have hfin : S (pre ++ c.bs.flatten) = putC c := by
      unfold putC; rw [if_pos hr, ← hpre]; simp [bytesC, h67]
    exact nil_ok (qx_ret (ret2 (t := 2) (u := 3) (by kernel_rfl) hS rfl rfl ⟨_, rfl, by rw [chkC_ok hr, hfin], hBpre0.trans (hB.mono hBpre0.size)⟩))
  · skip
    rw [Bool.eq_false_iff.2 hr] at hS
    refine sI hS (runs_not (b := false) rfl) fun _ hS => ?_
    refine nil_ok (wp_cond_true (hS.eval rfl) (qx_seq (reg_seq ?_)))
    refine sI hS (runs_assign rfl) fun _ hS => ?_
    refine sI hS (runs_assign rfl) fun _ hS => ?_
    exact nil_ok (qx_ret (ret2 (t := 2) (u := 3) (by kernel_rfl) hS rfl rfl ⟨_, rfl, by rw [chkC_bad hr]; unfold putC; rw [if_neg hr]; rfl, hB⟩))
end Go.Proofs.YtooeahpkhocaeaaDoor
