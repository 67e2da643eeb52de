/- Layer 10: Check and Put. Conditions: none of our own. -/
import Derived.Test.YtooeahpkhocaeaaDoorJ23
namespace Go.Proofs.YtooeahpkhocaeaaDoor
open Go.RowKit
set_option maxRecDepth 100000

theorem goes46 : Goes Tryd.prog 46 := goes_of Tryd.func46 (by kernel_rfl) rfl
theorem goes53 : Goes Tryd.prog 53 := goes_of Tryd.func53 (by kernel_rfl) rfl
theorem goes55 : Goes Tryd.prog 55 := goes_of Tryd.func55 (by kernel_rfl) rfl
theorem goes61 : Goes Tryd.prog 61 := goes_of Tryd.func61 (by kernel_rfl) rfl
set_option maxHeartbeats 1000000 in
theorem sgreat_any (x : Int) (w : World) : Ans 61 [.int .i64 x] w (Is (.bool (great x)) w) := by
  refine calls_qx (args := [.int .i64 x]) 9 Tryd.func61 rfl (by kernel_rfl) (by simp) (fun a hS => ?_)
  refine qx_seq (reg_seq ?_)
  refine sI hS (runs_assign rfl) fun _ hS => ?_
  refine nil_ok (qx_seq (reg_seq ?_))
  refine sI hS (runs_move rfl) fun _ hS => ?_
  by_cases g1 : x < -1125899906842624
  · skip
    refine sI hS (lssT rfl rfl (by omega)) fun _ hS => ?_
    refine sI hS (runs_move rfl) fun _ hS => ?_
    refine sN hS fun _ hS => ?_
    refine sN hS fun _ hS => ?_
    refine sI hS (runs_pick rfl rfl) fun _ hS => ?_
    refine sI hS (runs_assign rfl) fun _ hS => ?_
    exact nil_ok (qx_ret (ret1 (t := 2) (by kernel_rfl) hS rfl ⟨_, rfl, by unfold great; first | (simp; done) | (simp; omega), rfl⟩))
  refine sI hS (lssF rfl rfl (by omega)) fun _ hS => ?_
  refine sI hS (runs_move rfl) fun _ hS => ?_
  refine sY hS (runs_move rfl) fun _ hS => ?_
  by_cases g2 : 1125899906842624 < x
  · skip
    refine sY hS (gtrT rfl rfl (by omega)) fun _ hS => ?_
    refine sI hS (runs_pick rfl rfl) fun _ hS => ?_
    refine sI hS (runs_assign rfl) fun _ hS => ?_
    exact nil_ok (qx_ret (ret1 (t := 2) (by kernel_rfl) hS rfl ⟨_, rfl, by unfold great; first | (simp; done) | (simp; omega), rfl⟩))
  refine sY hS (gtrF rfl rfl (by omega)) fun _ hS => ?_
  refine sI hS (runs_pick rfl rfl) fun _ hS => ?_
  refine sI hS (runs_assign rfl) fun _ hS => ?_
  exact nil_ok (qx_ret (ret1 (t := 2) (by kernel_rfl) hS rfl ⟨_, rfl, by unfold great; first | (simp; done) | (simp; omega), rfl⟩))
theorem sgreat_is {x : Int} (w : World) {b : Bool} (h : great x = b) : Ans 61 [.int .i64 x] w (Is (.bool b) w) := h ▸ sgreat_any x w
set_option maxHeartbeats 1000000 in
theorem scheck_any (x : Vx) (w : World) : Ans 53 [vv x] w (fun u w' => u = .int .i64 (if rightX x then 0 else 100) ∧ Below w.heap.size w w') := by
  refine calls_qx (args := [.agg (vc x).toArray]) 31 Tryd.func53 rfl (by kernel_rfl) (by simp) (fun a hS => ?_)
  have hB := Below.refl w.heap.size w
  refine qx_seq (reg_seq ?_)
  refine seq_op hS (by decide) (runs_boxB (cs := vc x) rfl rfl) (fun v1 w1 a1 hp hS => ?_)
  obtain ⟨rfl, hM1, hB1⟩ := hp
  have hB := hB.trans (hB1.mono hB.size)
  refine sI hS (runs_assign rfl) fun _ hS => ?_
  refine nil_ok (qx_seq (qx_seq (reg_seq ?_)))
  refine sI hS (runs_fieldK fo28_0 rfl) fun _ hS => ?_
  refine sI hS (runs_load rfl pl3 (hM1.at rfl)) fun _ hS => ?_
  by_cases h1 : x.id < 0
  · skip
    refine sI hS (lssT rfl rfl (by omega)) fun _ hS => ?_
    refine sI hS (runs_move rfl) fun _ hS => ?_
    refine sN hS fun _ hS => ?_
    refine sN hS fun _ hS => ?_
    refine sN hS fun _ hS => ?_
    refine sI hS (runs_pick rfl rfl) fun _ hS => ?_
    refine sI hS (runs_move rfl) fun _ hS => ?_
    refine sN hS fun _ hS => ?_
    refine sN hS fun _ hS => ?_
    refine sN hS fun _ hS => ?_
    refine sI hS (runs_pick rfl rfl) fun _ hS => ?_
    refine sI hS (runs_move rfl) fun _ hS => ?_
    refine sN hS fun _ hS => ?_
    refine sN hS fun _ hS => ?_
    refine sN hS fun _ hS => ?_
    refine sI hS (runs_pick rfl rfl) fun _ hS => ?_
    refine sI hS (runs_move rfl) fun _ hS => ?_
    refine sN hS fun _ hS => ?_
    refine sN hS fun _ hS => ?_
    refine sN hS fun _ hS => ?_
    refine sN hS fun _ hS => ?_
    refine sU hS fun _ hS => ?_
    refine sU hS fun _ hS => ?_
    refine sU hS fun _ hS => ?_
    refine sN hS fun _ hS => ?_
    refine sI hS (runs_pick rfl rfl) fun _ hS => ?_
    refine nil_ok (wp_cond_true (hS.eval rfl) (qx_seq (reg_seq ?_)))
    refine sI hS (runs_assign rfl) fun _ hS => ?_
    have hfin : rightX x = false := by unfold rightX; first | (simp; done) | (simp_all; done) | (simp_all; omega)
    exact nil_ok (qx_ret (ret1 (t := 2) (by kernel_rfl) hS rfl ⟨_, rfl, by rw [hfin]; rfl, hB⟩))
  refine sI hS (lssF rfl rfl (by omega)) fun _ hS => ?_
  refine sI hS (runs_move rfl) fun _ hS => ?_
  refine sY hS (runs_fieldK fo28_0 rfl) fun _ hS => ?_
  refine sY hS (runs_load rfl pl3 (hM1.at rfl)) fun _ hS => ?_
  by_cases h2 : 64 ≤ x.id
  · skip
    refine sY hS (geqT rfl rfl (by omega)) fun _ hS => ?_
    refine sI hS (runs_pick rfl rfl) fun _ hS => ?_
    refine sI hS (runs_move rfl) fun _ hS => ?_
    refine sN hS fun _ hS => ?_
    refine sN hS fun _ hS => ?_
    refine sN hS fun _ hS => ?_
    refine sI hS (runs_pick rfl rfl) fun _ hS => ?_
    refine sI hS (runs_move rfl) fun _ hS => ?_
    refine sN hS fun _ hS => ?_
    refine sN hS fun _ hS => ?_
    refine sN hS fun _ hS => ?_
    refine sI hS (runs_pick rfl rfl) fun _ hS => ?_
    refine sI hS (runs_move rfl) fun _ hS => ?_
    refine sN hS fun _ hS => ?_
    refine sN hS fun _ hS => ?_
    refine sN hS fun _ hS => ?_
    refine sN hS fun _ hS => ?_
    refine sU hS fun _ hS => ?_
    refine sU hS fun _ hS => ?_
    refine sU hS fun _ hS => ?_
    refine sN hS fun _ hS => ?_
    refine sI hS (runs_pick rfl rfl) fun _ hS => ?_
    refine nil_ok (wp_cond_true (hS.eval rfl) (qx_seq (reg_seq ?_)))
    refine sI hS (runs_assign rfl) fun _ hS => ?_
    have hfin : rightX x = false := by unfold rightX; first | (simp; done) | (simp_all; done) | (simp_all; omega)
    exact nil_ok (qx_ret (ret1 (t := 2) (by kernel_rfl) hS rfl ⟨_, rfl, by rw [hfin]; rfl, hB⟩))
  refine sY hS (geqF rfl rfl (by omega)) fun _ hS => ?_
  refine sI hS (runs_pick rfl rfl) fun _ hS => ?_
  refine sI hS (runs_move rfl) fun _ hS => ?_
  refine sY hS (runs_fieldK fo28_1 rfl) fun _ hS => ?_
  refine sY hS (runs_load rfl pl2 (hM1.at rfl)) fun _ hS => ?_
  by_cases h3 : great x.val = true
  · skip
    refine sY hS (runs_call (args := [.int .i64 x.val]) goes61 rfl (sgreat_is w1 h3)) fun _ hS => ?_
    refine sI hS (runs_pick rfl rfl) fun _ hS => ?_
    refine sI hS (runs_move rfl) fun _ hS => ?_
    refine sN hS fun _ hS => ?_
    refine sN hS fun _ hS => ?_
    refine sN hS fun _ hS => ?_
    refine sI hS (runs_pick rfl rfl) fun _ hS => ?_
    refine sI hS (runs_move rfl) fun _ hS => ?_
    refine sN hS fun _ hS => ?_
    refine sN hS fun _ hS => ?_
    refine sN hS fun _ hS => ?_
    refine sN hS fun _ hS => ?_
    refine sU hS fun _ hS => ?_
    refine sU hS fun _ hS => ?_
    refine sU hS fun _ hS => ?_
    refine sN hS fun _ hS => ?_
    refine sI hS (runs_pick rfl rfl) fun _ hS => ?_
    refine nil_ok (wp_cond_true (hS.eval rfl) (qx_seq (reg_seq ?_)))
    refine sI hS (runs_assign rfl) fun _ hS => ?_
    have hfin : rightX x = false := by unfold rightX; first | (simp [h3]; done) | (simp_all [great_zero]; done) | (simp_all [great_zero]; omega)
    exact nil_ok (qx_ret (ret1 (t := 2) (by kernel_rfl) hS rfl ⟨_, rfl, by rw [hfin]; rfl, hB⟩))
  refine sY hS (runs_call (args := [.int .i64 x.val]) goes61 rfl (sgreat_is w1 (Bool.eq_false_iff.2 h3))) fun _ hS => ?_
  refine sI hS (runs_pick rfl rfl) fun _ hS => ?_
  refine sI hS (runs_move rfl) fun _ hS => ?_
  refine sY hS (runs_fieldK fo28_4 rfl) fun _ hS => ?_
  refine sY hS (runs_load rfl pl2 (hM1.at rfl)) fun _ hS => ?_
  by_cases h4 : great x.inn = true
  · skip
    refine sY hS (runs_call (args := [.int .i64 x.inn]) goes61 rfl (sgreat_is w1 h4)) fun _ hS => ?_
    refine sI hS (runs_pick rfl rfl) fun _ hS => ?_
    refine sI hS (runs_move rfl) fun _ hS => ?_
    refine sN hS fun _ hS => ?_
    refine sN hS fun _ hS => ?_
    refine sN hS fun _ hS => ?_
    refine sN hS fun _ hS => ?_
    refine sU hS fun _ hS => ?_
    refine sU hS fun _ hS => ?_
    refine sU hS fun _ hS => ?_
    refine sN hS fun _ hS => ?_
    refine sI hS (runs_pick rfl rfl) fun _ hS => ?_
    refine nil_ok (wp_cond_true (hS.eval rfl) (qx_seq (reg_seq ?_)))
    refine sI hS (runs_assign rfl) fun _ hS => ?_
    have hfin : rightX x = false := by unfold rightX; first | (simp [h3, h4]; done) | (simp_all [great_zero]; done) | (simp_all [great_zero]; omega)
    exact nil_ok (qx_ret (ret1 (t := 2) (by kernel_rfl) hS rfl ⟨_, rfl, by rw [hfin]; rfl, hB⟩))
  refine sY hS (runs_call (args := [.int .i64 x.inn]) goes61 rfl (sgreat_is w1 (Bool.eq_false_iff.2 h4))) fun _ hS => ?_
  refine sI hS (runs_pick rfl rfl) fun _ hS => ?_
  refine sI hS (runs_move rfl) fun _ hS => ?_
  refine sY hS (runs_fieldK fo28_3 rfl) fun _ hS => ?_
  refine sY hS (runs_load rfl pl4 (hM1.at rfl)) fun _ hS => ?_
  by_cases h5 : x.has = true
  · skip
    rw [h5] at hS
    refine sY hS (runs_not (b := true) rfl) fun _ hS => ?_
    refine sY hS (runs_move rfl) fun _ hS => ?_
    refine sN hS fun _ hS => ?_
    refine sN hS fun _ hS => ?_
    refine sN hS fun _ hS => ?_
    refine sY hS (runs_pick rfl rfl) fun _ hS => ?_
    refine sI hS (runs_pick rfl rfl) fun _ hS => ?_
    refine nil_ok (wp_cond_false (hS.eval rfl) (wp_skip (qx_seq (reg_seq ?_))))
    refine sI hS (runs_assign rfl) fun _ hS => ?_
    have hfin : rightX x = true := by unfold rightX; first | (simp [h3, h4, h5]; done) | (simp_all; done) | (simp_all [great_zero]; omega)
    exact nil_ok (qx_ret (ret1 (t := 2) (by kernel_rfl) hS rfl ⟨_, rfl, by rw [hfin]; rfl, hB⟩))
  · skip
    rw [Bool.eq_false_iff.2 h5] at hS
    refine sY hS (runs_not (b := false) rfl) fun _ hS => ?_
    refine sY hS (runs_move rfl) fun _ hS => ?_
    refine sY hS (runs_fieldK fo28_4 rfl) fun _ hS => ?_
    refine sY hS (runs_load rfl pl2 (hM1.at rfl)) fun _ hS => ?_
    by_cases h6 : x.inn ≠ 0
    · skip
      refine sY hS (runs_neq (r := true) rfl rfl (by simpa using h6)) fun _ hS => ?_
      refine sY hS (runs_pick rfl rfl) fun _ hS => ?_
      refine sI hS (runs_pick rfl rfl) fun _ hS => ?_
      refine nil_ok (wp_cond_true (hS.eval rfl) (qx_seq (reg_seq ?_)))
      refine sI hS (runs_assign rfl) fun _ hS => ?_
      have hfin : rightX x = false := by unfold rightX; first | (simp [h3, h4, h5, h6]; done) | (simp_all [great_zero]; done) | (simp_all [great_zero]; omega)
      exact nil_ok (qx_ret (ret1 (t := 2) (by kernel_rfl) hS rfl ⟨_, rfl, by rw [hfin]; rfl, hB⟩))
    refine sY hS (runs_neq (r := false) rfl rfl (by simpa using h6)) fun _ hS => ?_
    refine sY hS (runs_pick rfl rfl) fun _ hS => ?_
    refine sI hS (runs_pick rfl rfl) fun _ hS => ?_
    refine nil_ok (wp_cond_false (hS.eval rfl) (wp_skip (qx_seq (reg_seq ?_))))
    refine sI hS (runs_assign rfl) fun _ hS => ?_
    have hfin : rightX x = true := by unfold rightX; first | (simp [h3, h4, h5]; done) | (simp_all [great_zero]; done) | (simp_all [great_zero]; omega)
    exact nil_ok (qx_ret (ret1 (t := 2) (by kernel_rfl) hS rfl ⟨_, rfl, by rw [hfin]; rfl, hB⟩))
set_option maxHeartbeats 1000000 in
theorem sbit_any (b : Bool) (w : World) : Ans 55 [.bool b] w (Is (.int .u64 ((bitN b : Nat) : Int)) w) := by
  refine calls_qx (args := [.bool b]) 4 Tryd.func55 rfl (by kernel_rfl) (by simp) (fun a hS => ?_)
  refine qx_seq (reg_seq ?_)
  refine sI hS (runs_assign rfl) fun _ hS => ?_
  refine nil_ok (qx_seq (qx_seq (reg_seq ?_)))
  refine sI hS (runs_move rfl) fun _ hS => ?_
  refine nil_ok (?_)
  by_cases hb : b = true
  · skip
    rw [hb] at hS
    refine wp_cond_true (hS.eval rfl) (qx_seq (reg_seq ?_))
    refine sI hS (runs_assign rfl) fun _ hS => ?_
    exact nil_ok (qx_ret (ret1 (t := 2) (by kernel_rfl) hS rfl ⟨_, rfl, by simp [bitN, hb], rfl⟩))
  · skip
    rw [Bool.eq_false_iff.2 hb] at hS
    refine wp_cond_false (hS.eval rfl) (wp_skip (qx_seq (reg_seq ?_)))
    refine sI hS (runs_assign rfl) fun _ hS => ?_
    exact nil_ok (qx_ret (ret1 (t := 2) (by kernel_rfl) hS rfl ⟨_, rfl, by simp [bitN, hb], rfl⟩))
theorem num_bit (b : Bool) : (Wire.num (bitN b)).length = 1 := (Wire.num_one _).2 (bitN_lt b)
theorem bytesX_app (x : Vx) : [] ++ Wire.num x.id.toNat ++ Wire.num (Wire.fold x.val) ++ Wire.num (bitN x.act) ++ Wire.num (bitN x.has) ++ Wire.num (Wire.fold x.inn) = bytesX x := by
  rw [bytesX, Wire.num_lt (bitN_lt x.act), Wire.num_lt (bitN_lt x.has), List.nil_append]
set_option maxHeartbeats 1000000 in
theorem sput_any (x : Vx) (w : World) : Ans 46 [vv x] w (fun u w' => u = .string (putX x) ∧ Below w.heap.size w w') := by
  refine calls_qx (args := [.agg (vc x).toArray]) 33 Tryd.func46 rfl (by kernel_rfl) (by simp) (fun a hS => ?_)
  have hB := Below.refl w.heap.size w
  refine qx_seq (reg_seq ?_)
  refine seq_op hS (by decide) (runs_boxB (cs := vc x) rfl rfl) (fun v1 w1 a1 hp hS => ?_)
  obtain ⟨rfl, hM1, hB1⟩ := hp
  have hB := hB.trans (hB1.mono hB.size)
  refine sI hS (runs_assign rfl) fun _ hS => ?_
  refine nil_ok (qx_seq (qx_seq (reg_seq ?_)))
  refine sI hS (runs_loadRow rfl hM1 Tryd.underlying88 rfl (by rw [sz28]; rfl)) fun _ hS => ?_
  refine seq_op hS (by decide) (runs_call (args := [.agg (vc x).toArray]) goes53 rfl (scheck_any x w1)) (fun v3 w3 a1 hp hS => ?_)
  obtain ⟨rfl, hB3⟩ := hp
  have hB := hB.trans (hB3.mono hB.size)
  have hM1 := hM1.below hB3 hM1.lt
  by_cases hr : ¬ rightX x = true
  · skip
    refine sI hS (runs_neq (r := true) rfl rfl (by rw [if_neg hr]; rfl)) fun _ hS => ?_
    refine nil_ok (wp_cond_true (hS.eval rfl) (qx_seq (reg_seq ?_)))
    refine sI hS (runs_assign rfl) fun _ hS => ?_
    exact nil_ok (qx_ret (ret1 (t := 2) (by kernel_rfl) hS rfl ⟨_, rfl, by unfold putX; rw [if_neg hr]; rfl, hB⟩))
  refine sI hS (runs_neq (r := false) rfl rfl (by rw [if_pos (Classical.not_not.1 hr)]; rfl)) fun _ hS => ?_
  refine nil_ok (wp_cond_false (hS.eval rfl) (wp_skip (qx_seq (?_))))
  replace hr := Classical.not_not.1 hr
  obtain ⟨g1, g2, g3, g4, g5⟩ := right_parts hr
  have hid : x.id = ((x.id.toNat : Nat) : Int) := by omega
  have n1 : x.id.toNat < 18446744073709551616 := by omega
  have q1 := great_no g3
  have q2 := great_no g4
  have hlb := (bytesX_size hr).2
  simp only [bytesX, List.length_append, List.length_cons, List.length_nil] at hlb
  have hBpre0 := hB
  have hB := Below.refl w3.heap.size w3
  have hM1b := hM1
  refine reg_seq ?_
  refine seq_op hS (by decide) (runs_call (args := []) goes19 rfl (wr_new w3)) (fun v5 w5 a1 hp hS => ?_)
  obtain ⟨rfl, hW, hK5⟩ := hp
  have hB := hB.trans hK5
  have hM1 := hM1b.below hB hM1b.lt
  refine sI hS (runs_assign rfl) fun _ hS => ?_
  refine nil_ok (qx_seq (reg_seq ?_))
  refine sI hS (runs_move rfl) fun _ hS => ?_
  refine sI hS (runs_fieldK fo28_0 rfl) fun _ hS => ?_
  refine sI hS (runs_load rfl pl3 (hM1.at rfl)) fun _ hS => ?_
  refine sI hS (runs_to64 (a := x.id.toNat) (by rw [← hid]; rfl) (by decide) n1) fun _ hS => ?_
  refine seq_op hS (by decide) (runs_call (args := [.pointer (some ⟨w3.heap.size, 0, none⟩), .int .u64 ((x.id.toNat : Nat) : Int)]) goes20 rfl (wr_num hW n1 (by simp))) (fun v6 w6 a1 hp hS => ?_)
  obtain ⟨hW, hK6⟩ := hp
  have hB := hB.trans hK6
  have hM1 := hM1b.below hB hM1b.lt
  refine nil_ok (qx_seq (reg_seq ?_))
  refine sI hS (runs_move rfl) fun _ hS => ?_
  refine sI hS (runs_fieldK fo28_1 rfl) fun _ hS => ?_
  refine sI hS (runs_load rfl pl2 (hM1.at rfl)) fun _ hS => ?_
  refine seq_op hS (by decide) (runs_call (args := [.pointer (some ⟨w3.heap.size, 0, none⟩), .int .i64 x.val]) goes54 rfl (wr_int hW (by omega) (by omega) (by simp only [List.length_append, List.length_nil]; omega))) (fun v7 w7 a1 hp hS => ?_)
  obtain ⟨hW, hK7⟩ := hp
  have hB := hB.trans hK7
  have hM1 := hM1b.below hB hM1b.lt
  refine nil_ok (qx_seq (reg_seq ?_))
  refine sI hS (runs_move rfl) fun _ hS => ?_
  refine sI hS (runs_fieldK fo28_2 rfl) fun _ hS => ?_
  refine sI hS (runs_load rfl pl4 (hM1.at rfl)) fun _ hS => ?_
  refine sI hS (runs_call (args := [.bool x.act]) goes55 rfl (sbit_any x.act w7)) fun _ hS => ?_
  refine seq_op hS (by decide) (runs_call (args := [.pointer (some ⟨w3.heap.size, 0, none⟩), .int .u64 ((bitN x.act : Nat) : Int)]) goes20 rfl (wr_num hW (Nat.lt_trans (bitN_lt x.act) (by omega)) (by simp only [List.length_append, List.length_nil]; omega))) (fun v8 w8 a1 hp hS => ?_)
  obtain ⟨hW, hK8⟩ := hp
  have hB := hB.trans hK8
  have hM1 := hM1b.below hB hM1b.lt
  refine nil_ok (qx_seq (reg_seq ?_))
  refine sI hS (runs_move rfl) fun _ hS => ?_
  refine sI hS (runs_fieldK fo28_3 rfl) fun _ hS => ?_
  refine sI hS (runs_load rfl pl4 (hM1.at rfl)) fun _ hS => ?_
  refine sI hS (runs_call (args := [.bool x.has]) goes55 rfl (sbit_any x.has w8)) fun _ hS => ?_
  refine seq_op hS (by decide) (runs_call (args := [.pointer (some ⟨w3.heap.size, 0, none⟩), .int .u64 ((bitN x.has : Nat) : Int)]) goes20 rfl (wr_num hW (Nat.lt_trans (bitN_lt x.has) (by omega)) (by simp only [List.length_append, List.length_nil, num_bit]; omega))) (fun v9 w9 a1 hp hS => ?_)
  obtain ⟨hW, hK9⟩ := hp
  have hB := hB.trans hK9
  have hM1 := hM1b.below hB hM1b.lt
  refine nil_ok (qx_seq (reg_seq ?_))
  refine sI hS (runs_move rfl) fun _ hS => ?_
  refine sI hS (runs_fieldK fo28_4 rfl) fun _ hS => ?_
  refine sI hS (runs_load rfl pl2 (hM1.at rfl)) fun _ hS => ?_
  refine seq_op hS (by decide) (runs_call (args := [.pointer (some ⟨w3.heap.size, 0, none⟩), .int .i64 x.inn]) goes54 rfl (wr_int hW (by omega) (by omega) (by simp only [List.length_append, List.length_nil, num_bit]; omega))) (fun v10 w10 a1 hp hS => ?_)
  obtain ⟨hW, hK10⟩ := hp
  have hB := hB.trans hK10
  refine nil_ok (qx_seq (reg_seq ?_))
  refine sI hS (runs_move rfl) fun _ hS => ?_
  refine sI hS (runs_call (args := [.pointer (some ⟨w3.heap.size, 0, none⟩)]) goes22 rfl ((wr_done hW).mono (by rintro e w3 ⟨u, rfl, rfl, rfl⟩; exact ⟨_, rfl, by rw [bytesX_app], rfl⟩))) fun _ hS => ?_
  refine sI hS (runs_assign rfl) fun _ hS => ?_
  exact nil_ok (qx_ret (ret1 (t := 2) (by kernel_rfl) hS rfl ⟨_, rfl, by unfold putX; rw [if_pos hr], hBpre0.trans (hB.mono hBpre0.size)⟩))
end Go.Proofs.YtooeahpkhocaeaaDoor
/- Layer 10: Rows and Root. Conditions: at most 100000 vertices. -/
namespace Go.Proofs.YtooeahpkhocaeaaDoor
open Go.RowKit
set_option maxRecDepth 100000

theorem goes41 : Goes Tryd.prog 41 := goes_of Tryd.func41 (by kernel_rfl) rfl
def rowS (l : List Vx) : List Value := (l.map putX).map Value.string
theorem rowS_snoc {l : List Vx} {i : Nat} {x : Vx} (h : l[i]? = some x) : rowS (l.take (i + 1)) = rowS (l.take i) ++ [.string (putX x)] := by
  unfold rowS; rw [List.take_add_one, h, Option.toList_some, List.map_append, List.map_append]; rfl
theorem verts_row {w : World} {A : Option Addr} {c : Nat} {l : List Vx} (h : Verts w (.slice A l.length c) l) (h0 : 0 < l.length) : ∃ b o, A = some ⟨b, o, none⟩ ∧ b < w.heap.size ∧ w.rangeAt b o (cellsV l) := by
  obtain ⟨A', c', e, _, _, hA⟩ := h
  simp only [Value.slice.injEq, true_and] at e
  obtain ⟨rfl, rfl⟩ := e
  exact hA h0
set_option maxHeartbeats 1000000 in
theorem srows_any (l : List Vx) (v : Value) (w : World) (hV : Verts w v l) (hl : l.length ≤ 10000) : Ans 41 [v] w (fun u w' => Strs w' u (l.map putX) ∧ Below w.heap.size w w') := by
  obtain ⟨A, c, rfl, hc1, hc2, hA⟩ := hV
  have hV : Verts w (.slice A l.length c) l := ⟨A, c, rfl, hc1, hc2, hA⟩
  have hcm := hc2
  unfold maxLen at hcm
  refine calls_qx (args := [.slice A l.length c]) 19 Tryd.func41 rfl (by kernel_rfl) (by simp) (fun a hS => ?_)
  have hB := Below.refl w.heap.size w
  have hVb := hV
  refine qx_seq (reg_seq ?_)
  refine sI hS (runs_assign rfl) fun _ hS => ?_
  refine nil_ok (qx_seq (reg_seq ?_))
  refine sI hS (runs_assign rfl) fun _ hS => ?_
  refine nil_ok (qx_seq (qx_seq (reg_seq ?_)))
  refine sI hS (runs_move rfl) fun _ hS => ?_
  refine sI hS (runs_len rfl undVx) fun _ hS => ?_
  refine sI hS (runs_move rfl) fun _ hS => ?_
  refine nil_ok (?_)
  refine qx_range (fun mm a w' => ∃ (i : Nat) (ov : Value), i ≤ l.length ∧ mm = l.length - i ∧ Below w.heap.size w w' ∧ w'.ownsRow w.heap.size 9 1 ov i (rowS (l.take i)) ∧ (i = 0 → ov = .slice none 0 0) ∧ Sees 19 [(8, .int .i64 (i : Int)), (7, .int .i64 ((l.length : Nat) : Int)), (6, .slice A l.length c), (3, ov), (0, .slice A l.length c)] a) l.length ⟨0, _, by omega, by omega, hB, ⟨rfl, .inl ⟨rfl, rfl⟩⟩, (fun _ => rfl), hS.only _ ⟨rfl, rfl, rfl, rfl, rfl, trivial⟩⟩ ?_
  clear hS 
  rintro mm a wl1 ⟨i, ov, hi1, rfl, hBb1, hown, hz, hS⟩
  have hBsz1 := hBb1.size
  have hV := hVb.kept hBb1
  have hB := Below.refl wl1.heap.size wl1
  refine reg_seq ?_
  by_cases hlt1 : i < l.length
  · skip
    refine sI hS (lssT rfl rfl (by omega)) fun _ hS => ?_
    refine nil_ok ⟨_, hS.eval rfl, fun h => by simp at h, fun _ => ?_⟩
    obtain ⟨x, hx⟩ : ∃ x, l[i]? = some x := ⟨l[i], by simp [hlt1]⟩
    obtain ⟨b, o, rfl, hbw, hr⟩ := verts_row hV (by omega)
    have hrx := verts_at hr hx
    refine qx_seq (qx_block (qx_seq (reg_seq ?_)))
    refine sI hS (runs_indexAddrG (j := i) rfl rfl undVx sz28 rfl hlt1) fun _ hS => ?_
    refine sI hS (runs_loadVx rfl hrx) fun _ hS => ?_
    refine seq_op hS (by decide) (runs_allocB (cs := [.int .i64 0, .int .i64 0, .bool false, .bool false, .int .i64 0]) zo28 rfl) (fun v1 w1 a1 hp hS => ?_)
    obtain ⟨rfl, hM1, hB1⟩ := hp
    have hLhM1 : wl1.heap.size ≤ wl1.heap.size := hB.size
    have hB := hB.trans (hB1.mono hB.size)
    refine seq_none hS (runs_storeB (cs := vc x) rfl rfl hM1 rfl rfl sz28) (fun v3 w3 a1 hp hS => ?_)
    obtain ⟨hM1, hU3⟩ := hp
    have hB := But.new hB hU3 (fun i e => by rw [e]; exact hLhM1) (Nat.le_refl _)
    refine nil_ok (reg_seq ?_)
    refine sI hS (runs_move rfl) fun _ hS => ?_
    refine sI hS (runs_loadRow rfl hM1 Tryd.underlying88 rfl (by rw [sz28]; rfl)) fun _ hS => ?_
    refine seq_op hS (by decide) (runs_call (args := [.agg (vc x).toArray]) goes46 rfl (sput_any x w3)) (fun v5 w5 a1 hp hS => ?_)
    obtain ⟨rfl, hB5⟩ := hp
    have hB := hB.trans (hB5.mono hB.size)
    refine seq_op hS (by decide) (runs_oneSt (s := putX x) rfl) (fun v7 w7 a1 hp hS => ?_)
    obtain ⟨g2, rfl, hX, hB7⟩ := hp
    have hB := hB.trans (hB7.mono hB.size)
    refine seq_op hS (by decide) (push_ownS (B := w.heap.size) rfl (owns_kept hown hB) rfl hX (by omega) (Nat.le_trans hBsz1 hB.size) ((Nat.eq_zero_or_pos i).elim (fun h => .inr (fun g m c e => by rw [hz h] at e; cases e)) .inl)) (fun v9 w9 a1 hp hS => ?_)
    obtain ⟨hown3, hB9⟩ := hp
    refine sI hS (runs_assign rfl) fun _ hS => ?_
    refine nil_ok (reg_seq ?_)
    refine sI hS (runs_add (r := ((i + 1 : Nat) : Int)) rfl rfl (by simp [IntKind.wrap, IntKind.bits, IntKind.signed]; omega)) fun _ hS => ?_
    refine sI hS (runs_move rfl) fun _ hS => ?_
    exact nil_ok ⟨_, by omega, i + 1, v9, by omega, rfl, hBb1.trans ((hB.mono hBb1.size).trans hB9), by rw [rowS_snoc hx]; exact hown3, (fun h => by omega), hS.only _ ⟨rfl, rfl, rfl, rfl, rfl, trivial⟩⟩
  refine sI hS (lssF rfl rfl (by omega)) fun _ hS => ?_
  obtain rfl : i = l.length := by omega
  refine nil_ok ⟨_, hS.eval rfl, fun _ => ?_, fun h => by simp at h⟩
  have hB := hBb1
  rw [List.take_length] at hown
  refine qx_seq (reg_seq ?_)
  refine sI hS (runs_move rfl) fun _ hS => ?_
  refine sI hS (runs_assign rfl) fun _ hS => ?_
  exact nil_ok (qx_ret (ret1 (t := 2) (by kernel_rfl) hS rfl ⟨_, rfl, strs_ownR hown (by simp), hB⟩))
end Go.Proofs.YtooeahpkhocaeaaDoor
/- The document's own top and root, and Leaf, Node, Top, Root. Conditions: at most 20 leaves of 200 bytes. -/
namespace Go.Proofs.YtooeahpkhocaeaaDoor
open Go.RowKit
set_option maxRecDepth 100000

theorem root_len (n : Nat) (t : List Nat) : (Tree.root n t).length = 32 := Sha.Holds.sumText
end Go.Proofs.YtooeahpkhocaeaaDoor
