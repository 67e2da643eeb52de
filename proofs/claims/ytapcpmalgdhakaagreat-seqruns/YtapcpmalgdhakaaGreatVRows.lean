/- Layer 9: Values and Start. Conditions: none of our own. -/
import Derived.Test.YtapcpmalgdhakaaGreatVSmall
import Derived.Test.YtapcpmalgdhakaaGreatNAll
namespace Go.Proofs.YtapcpmalgdhakaaGreat
open Go.RowKit
set_option maxRecDepth 100000

theorem values_snoc {l : List Vx} {i : Nat} {x : Vx} (h : l[i]? = some x) : valuesL (l.take (i + 1)) = valuesL (l.take i) ++ [x.val] := by
  unfold valuesL; rw [List.take_add_one, h, Option.toList_some, List.map_append]; rfl
theorem valuesL_length (l : List Vx) : (valuesL l).length = l.length := by simp [valuesL]
theorem start_snoc (n : Int) (k : Nat) (src : Int) {i : Nat} (h : i < n.toNat) : (startL n k src).take (i + 1) = (startL n k src).take i ++ [⟨(i : Int), firstV k src i, true, false, 0⟩] := by
  rw [List.take_add_one, start_get h]; rfl
set_option maxHeartbeats 1000000 in
theorem values_any (l : List Vx) (v : Value) (w : World) (hV : Verts w v l) (hl : l.length ≤ 100000) : Ans 14 [v] w (fun u w' => w'.ownsRow w.heap.size 2 1 u (valuesL l).length (cellsI (valuesL l)) ∧ Below w.heap.size w w') := by
  obtain ⟨A, c, rfl, hc1, hc2, hA⟩ := hV
  have hV : Verts w (.slice A l.length c) l := ⟨A, c, rfl, hc1, hc2, hA⟩
  have hcm := hc2
  unfold maxLen at hcm
  refine calls_qx (args := [.slice A l.length c]) 19 Tryz.func14 rfl (by kernel_rfl) (by simp) (fun a hS => ?_)
  have hB := Below.refl w.heap.size w
  have hVb := hV
  refine qx_seq (reg_seq ?_)
  refine sI hS (runs_assign rfl) fun _ hS => ?_
  refine nil_ok (qx_seq (reg_seq ?_))
  refine sI hS (runs_assign rfl) fun _ hS => ?_
  refine nil_ok (qx_seq (qx_seq (reg_seq ?_)))
  refine sI hS (runs_move rfl) fun _ hS => ?_
  refine sI hS (runs_len rfl undVx) fun _ hS => ?_
  refine sI hS (runs_move rfl) fun _ hS => ?_
  refine nil_ok (?_)
  refine qx_range (fun mm a w' => ∃ (i : Nat) (ov : Value), i ≤ l.length ∧ mm = l.length - i ∧ Below w.heap.size w w' ∧ w'.ownsRow w.heap.size 2 1 ov (valuesL (l.take i)).length (cellsI (valuesL (l.take i))) ∧ Sees 19 [(8, .int .i64 (i : Int)), (7, .int .i64 ((l.length : Nat) : Int)), (6, .slice A l.length c), (3, ov), (0, .slice A l.length c)] a) l.length ⟨0, _, by omega, by omega, hB, ⟨rfl, .inl ⟨rfl, rfl⟩⟩, hS.only _ ⟨rfl, rfl, rfl, rfl, rfl, trivial⟩⟩ ?_
  clear hS 
  rintro mm a wl1 ⟨i, ov, hi1, rfl, hBb1, hown, hS⟩
  have hBsz1 := hBb1.size
  have hV := hVb.kept hBb1
  have hB := Below.refl wl1.heap.size wl1
  refine reg_seq ?_
  by_cases hlt1 : i < l.length
  · skip
    refine sI hS (lssT rfl rfl (by omega)) fun _ hS => ?_
    refine nil_ok ⟨_, hS.eval rfl, fun h => by simp at h, fun _ => ?_⟩
    obtain ⟨x, hx⟩ : ∃ x, l[i]? = some x := ⟨l[i], by simp [hlt1]⟩
    obtain ⟨b, o, rfl, hbw, hr⟩ := verts_row hV (by omega)
    have hrx := verts_at hr hx
    refine qx_seq (qx_block (qx_seq (reg_seq ?_)))
    refine sI hS (runs_indexAddrG (j := i) rfl rfl undVx sz28 rfl hlt1) fun _ hS => ?_
    refine sI hS (runs_loadVx rfl hrx) fun _ hS => ?_
    refine seq_op hS (by decide) (runs_allocB (cs := [.int .i64 0, .int .i64 0, .bool false, .bool false, .int .i64 0]) zo28 rfl) (fun v1 w1 a1 hp hS => ?_)
    obtain ⟨rfl, hM1, hB1⟩ := hp
    have hLhM1 : wl1.heap.size ≤ wl1.heap.size := hB.size
    have hB := hB.trans (hB1.mono hB.size)
    refine seq_none hS (runs_storeB (cs := vc x) rfl rfl hM1 rfl rfl sz28) (fun v3 w3 a1 hp hS => ?_)
    obtain ⟨hM1, hU3⟩ := hp
    have hB := But.new hB hU3 (fun i e => by rw [e]; exact hLhM1) (Nat.le_refl _)
    refine nil_ok (reg_seq ?_)
    refine sI hS (runs_move rfl) fun _ hS => ?_
    refine sI hS (runs_fieldK fo28_1 rfl) fun _ hS => ?_
    refine sI hS (runs_load rfl pl2 (hM1.at rfl)) fun _ hS => ?_
    refine seq_op hS (by decide) (runs_oneN (e := x.val) rfl) (fun v5 w5 a1 hp hS => ?_)
    obtain ⟨g2, rfl, hX, hB5⟩ := hp
    have hB := hB.trans (hB5.mono hB.size)
    refine seq_op hS (by decide) (push_ownI (B := w.heap.size) (acc := (valuesL (l.take i))) (e := x.val) rfl (owns_kept hown hB) rfl hX (by rw [valuesL_length]; have := List.length_take_le i l; omega) (Nat.le_trans hBsz1 hB.size)) (fun v7 w7 a1 hp hS => ?_)
    obtain ⟨_, hown3, _, hB7⟩ := hp
    refine sI hS (runs_assign rfl) fun _ hS => ?_
    refine nil_ok (reg_seq ?_)
    refine sI hS (runs_add (r := ((i + 1 : Nat) : Int)) rfl rfl (by simp [IntKind.wrap, IntKind.bits, IntKind.signed]; omega)) fun _ hS => ?_
    refine sI hS (runs_move rfl) fun _ hS => ?_
    exact nil_ok ⟨_, by omega, i + 1, v7, by omega, rfl, hBb1.trans ((hB.mono hBb1.size).trans hB7), by rw [values_snoc hx, List.length_append]; exact hown3, hS.only _ ⟨rfl, rfl, rfl, rfl, rfl, trivial⟩⟩
  refine sI hS (lssF rfl rfl (by omega)) fun _ hS => ?_
  obtain rfl : i = l.length := by omega
  refine nil_ok ⟨_, hS.eval rfl, fun _ => ?_, fun h => by simp at h⟩
  have hB := hBb1
  rw [List.take_length] at hown
  refine qx_seq (reg_seq ?_)
  refine sI hS (runs_move rfl) fun _ hS => ?_
  refine sI hS (runs_assign rfl) fun _ hS => ?_
  exact nil_ok (qx_ret (ret1 (t := 2) (by kernel_rfl) hS rfl ⟨_, rfl, hown, hB⟩))
set_option maxHeartbeats 1000000 in
theorem start_any (n : Int) (es : List E) (v : Value) (tg : ByteArray) (src steps : Int) (w : World) (hE : Edges w v es) : Ans 16 [gv n v, jv tg src steps] w (fun u w' => Below w.heap.size w w' ∧ ∃ x, u = .tuple #[x, .int .i64 (if jobB n es (kindL tg.data.toList) src steps = true then 0 else 70)] ∧ (jobB n es (kindL tg.data.toList) src steps = true → w'.ownsRow w.heap.size 50 5 x (startL n (kindL tg.data.toList) src).length (cellsV (startL n (kindL tg.data.toList) src))) ∧ (jobB n es (kindL tg.data.toList) src steps = false → x = .slice none 0 0)) := by
  refine calls_qx (args := [gv n v, .agg (jc tg src steps).toArray]) 25 Tryz.func16 rfl (by kernel_rfl) (by simp) (fun a hS => ?_)
  have hB := Below.refl w.heap.size w
  have hEb := hE
  refine qx_seq (reg_seq ?_)
  refine seq_op hS (by decide) (runs_boxB (cs := [.int .i64 n, v]) rfl rfl) (fun v1 w1 a1 hp hS => ?_)
  obtain ⟨rfl, hM1, hB1⟩ := hp
  have hB := hB.trans (hB1.mono hB.size)
  have hE := hEb.kept hB
  refine seq_op hS (by decide) (runs_boxB (cs := jc tg src steps) rfl rfl) (fun v3 w3 a1 hp hS => ?_)
  obtain ⟨rfl, hM3, hB3⟩ := hp
  have hB := hB.trans (hB3.mono hB.size)
  have hM1 := hM1.below hB3 hM1.lt
  have hE := hEb.kept hB
  refine sI hS (runs_assign rfl) fun _ hS => ?_
  refine sI hS (runs_assign rfl) fun _ hS => ?_
  refine nil_ok (qx_seq (qx_seq (?_)))
  by_cases hj : jobB n es (kindL tg.data.toList) src steps = true
  · skip
    refine reg_seq ?_
    refine sI hS (runs_loadRow rfl hM1 Tryz.underlying24 rfl (by rw [sz24]; rfl)) fun _ hS => ?_
    refine sI hS (runs_loadRow rfl hM3 Tryz.underlying26 rfl (by rw [sz26]; rfl)) fun _ hS => ?_
    refine seq_op hS (by decide) (runs_call (args := [gv n v, .agg (jc tg src steps).toArray]) goes21 rfl (pcheck_any n es _ tg src steps w3 hE)) (fun v5 w5 a1 hp hS => ?_)
    obtain ⟨rfl, hB5⟩ := hp
    rw [if_pos hj] at hS
    have hB := hB.trans (hB5.mono hB.size)
    have hM1 := hM1.below hB5 hM1.lt
    have hM3 := hM3.below hB5 hM3.lt
    have hE := hEb.kept hB
    refine sI hS (runs_neq (r := false) rfl rfl rfl) fun _ hS => ?_
    refine nil_ok (wp_cond_false (hS.eval rfl) (wp_skip (qx_seq (reg_seq ?_))))
    refine sI hS (runs_assign rfl) fun _ hS => ?_
    refine nil_ok (qx_seq (qx_seq (?_)))
    obtain ⟨hn1, hn2⟩ := job_n hj
    obtain ⟨N, rfl⟩ : ∃ N : Nat, n = N := ⟨n.toNat, by omega⟩
    have hk0 := (job_iff.1 hj).2.1
    have hNt : ((N : Int)).toNat = N := Int.toNat_natCast N
    have hBpre0 := hB
    have hB := Below.refl w5.heap.size w5
    have hM1b := hM1
    have hM3b := hM3
    have hEb := hE
    refine reg_seq ?_
    refine sI hS (runs_fieldK fo24_0 rfl) fun _ hS => ?_
    refine sI hS (runs_load rfl pl3 (hM1.at rfl)) fun _ hS => ?_
    refine sI hS (runs_move rfl) fun _ hS => ?_
    refine nil_ok (?_)
    refine qx_range (fun mm a w' => ∃ (i : Nat) (ov : Value), i ≤ N ∧ mm = N - i ∧ Below w5.heap.size w5 w' ∧ w'.ownsRow w5.heap.size 50 5 ov ((startL (N : Int) (kindL tg.data.toList) src).take i).length (cellsV ((startL (N : Int) (kindL tg.data.toList) src).take i)) ∧ Sees 25 [(14, .int .i64 (i : Int)), (13, .int .i64 (N : Int)), (6, ov), (3, .pointer (some ⟨w1.heap.size, 0, none⟩)), (2, .pointer (some ⟨w.heap.size, 0, none⟩))] a) N ⟨0, _, by omega, by omega, hB, ⟨rfl, .inl ⟨rfl, rfl⟩⟩, hS.only _ ⟨rfl, rfl, rfl, rfl, rfl, trivial⟩⟩ ?_
    clear hS 
    rintro mm a wl1 ⟨i, ov, hi1, rfl, hBb1, hown, hS⟩
    have hBsz1 := hBb1.size
    have hE := hEb.kept hBb1
    have hM1 := hM1b.below hBb1 hM1b.lt
    have hM3 := hM3b.below hBb1 hM3b.lt
    have hB := Below.refl wl1.heap.size wl1
    have hM1b1 := hM1
    have hM3b1 := hM3
    have hEb1 := hE
    refine reg_seq ?_
    by_cases hlt1 : i < N
    · skip
      refine sI hS (lssT rfl rfl (by omega)) fun _ hS => ?_
      refine nil_ok ⟨_, hS.eval rfl, fun h => by simp at h, fun _ => ?_⟩
      refine qx_seq (qx_block (qx_seq (reg_seq ?_)))
      refine sI hS (runs_move rfl) fun _ hS => ?_
      refine sI hS (runs_assign rfl) fun _ hS => ?_
      refine nil_ok (reg_seq ?_)
      refine sI hS (runs_move rfl) fun _ hS => ?_
      refine sI hS (runs_loadRow rfl hM3 Tryz.underlying26 rfl (by rw [sz26]; rfl)) fun _ hS => ?_
      refine sI hS (runs_move rfl) fun _ hS => ?_
      refine seq_op hS (by decide) (runs_call (args := [.agg (jc tg src steps).toArray, .int .i64 (i : Int)]) goes35 rfl (first_any tg src steps (i : Int) (by omega) (by omega) wl1)) (fun v7 w7 a1 hp hS => ?_)
      rw [if_neg hk0] at hp
      obtain ⟨rfl, hB7⟩ := hp
      have hB := hB.trans (hB7.mono hB.size)
      have hM1 := hM1b1.below hB hM1b1.lt
      have hM3 := hM3b1.below hB hM3b1.lt
      have hE := hEb1.kept hB
      refine seq_op hS (by decide) (runs_oneV (e := (⟨(i : Int), firstV (kindL tg.data.toList) src i, true, false, 0⟩ : Vx)) rfl) (fun v9 w9 a1 hp hS => ?_)
      obtain ⟨g2, rfl, hX, hB9⟩ := hp
      have hB := hB.trans (hB9.mono hB.size)
      have hM1 := hM1b1.below hB hM1b1.lt
      have hM3 := hM3b1.below hB hM3b1.lt
      have hE := hEb1.kept hB
      refine seq_op hS (by decide) (push_ownV  (acc := ((startL (N : Int) (kindL tg.data.toList) src).take i)) (e := (⟨(i : Int), firstV (kindL tg.data.toList) src i, true, false, 0⟩ : Vx)) rfl (owns_kept hown hB) rfl hX (by have := List.length_take_le i (startL (N : Int) (kindL tg.data.toList) src); omega) (Nat.le_trans hBsz1 hB.size)) (fun v11 w11 a1 hp hS => ?_)
      obtain ⟨_, hown3, _, hB11⟩ := hp
      refine sI hS (runs_assign rfl) fun _ hS => ?_
      refine nil_ok (reg_seq ?_)
      refine sI hS (runs_add (r := ((i + 1 : Nat) : Int)) rfl rfl (by simp [IntKind.wrap, IntKind.bits, IntKind.signed]; omega)) fun _ hS => ?_
      refine sI hS (runs_move rfl) fun _ hS => ?_
      exact nil_ok ⟨_, by omega, i + 1, v11, by omega, rfl, hBb1.trans ((hB.mono hBb1.size).trans hB11), by rw [start_snoc _ _ _ (by omega), List.length_append]; exact hown3, hS.only _ ⟨rfl, rfl, rfl, rfl, rfl, trivial⟩⟩
    refine sI hS (lssF rfl rfl (by omega)) fun _ hS => ?_
    obtain rfl : i = N := by omega
    refine nil_ok ⟨_, hS.eval rfl, fun _ => ?_, fun h => by simp at h⟩
    have hB := hBb1
    rw [List.take_of_length_le (by rw [start_length]; omega)] at hown
    refine qx_seq (reg_seq ?_)
    refine sI hS (runs_move rfl) fun _ hS => ?_
    refine sI hS (runs_assign rfl) fun _ hS => ?_
    refine sI hS (runs_assign rfl) fun _ hS => ?_
    exact nil_ok (qx_ret (ret2 (t := 4) (u := 5) (by kernel_rfl) hS rfl rfl ⟨_, rfl, hBpre0.trans (hB.mono hBpre0.size), _, by rw [if_pos hj], (fun _ => owns_mono hown hBpre0.size), (fun h => absurd (hj.symm.trans h) (by simp))⟩))
  · skip
    refine reg_seq ?_
    refine sI hS (runs_loadRow rfl hM1 Tryz.underlying24 rfl (by rw [sz24]; rfl)) fun _ hS => ?_
    refine sI hS (runs_loadRow rfl hM3 Tryz.underlying26 rfl (by rw [sz26]; rfl)) fun _ hS => ?_
    refine seq_op hS (by decide) (runs_call (args := [gv n v, .agg (jc tg src steps).toArray]) goes21 rfl (pcheck_any n es _ tg src steps w3 hE)) (fun v12 w12 a1 hp hS => ?_)
    obtain ⟨rfl, hB12⟩ := hp
    rw [if_neg hj] at hS
    have hB := hB.trans (hB12.mono hB.size)
    refine sI hS (runs_neq (r := true) rfl rfl rfl) fun _ hS => ?_
    refine nil_ok (wp_cond_true (hS.eval rfl) (qx_seq (reg_seq ?_)))
    refine sI hS (runs_assign rfl) fun _ hS => ?_
    refine sI hS (runs_assign rfl) fun _ hS => ?_
    exact nil_ok (qx_ret (ret2 (t := 4) (u := 5) (by kernel_rfl) hS rfl rfl ⟨_, rfl, hB, _, by rw [if_neg hj], (fun h => absurd h hj), fun _ => rfl⟩))
end Go.Proofs.YtapcpmalgdhakaaGreat
