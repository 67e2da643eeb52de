/- Layer 10: Check and Put. Conditions: none of our own. -/
import Derived.Test.YtbcmglggplmkfaaDoorJM
import Derived.Test.YtbcmglggplmkfaaDoorYMath
namespace Go.Proofs.YtbcmglggplmkfaaDoor
open Go.RowKit
set_option maxRecDepth 100000

theorem goes9 : Goes Tryd.prog 9 := goes_of Tryd.func9 (by kernel_rfl) rfl
theorem goes13 : Goes Tryd.prog 13 := goes_of Tryd.func13 (by kernel_rfl) rfl
theorem goes25 : Goes Tryd.prog 25 := goes_of Tryd.func25 (by kernel_rfl) rfl
theorem goes32 : Goes Tryd.prog 32 := goes_of Tryd.func32 (by kernel_rfl) rfl
set_option maxHeartbeats 1000000 in
theorem sgreat_any (x : Int) (w : World) : Ans 32 [.int .i64 x] w (Is (.bool (great x)) w) := by
  refine calls_qx (args := [.int .i64 x]) 9 Tryd.func32 rfl (by kernel_rfl) (by simp) (fun a hS => ?_)
  refine qx_seq (reg_seq ?_)
  refine sI hS (runs_assign rfl) fun _ hS => ?_
  refine nil_ok (qx_seq (reg_seq ?_))
  refine sI hS (runs_move rfl) fun _ hS => ?_
  by_cases g1 : x < -1125899906842624
  · skip
    refine sI hS (lssT rfl rfl (by omega)) fun _ hS => ?_
    refine sI hS (runs_move rfl) fun _ hS => ?_
    refine sN hS fun _ hS => ?_
    refine sN hS fun _ hS => ?_
    refine sI hS (runs_pick rfl rfl) fun _ hS => ?_
    refine sI hS (runs_assign rfl) fun _ hS => ?_
    exact nil_ok (qx_ret (ret1 (t := 2) (by kernel_rfl) hS rfl ⟨_, rfl, by unfold great; first | (simp; done) | (simp; omega), rfl⟩))
  refine sI hS (lssF rfl rfl (by omega)) fun _ hS => ?_
  refine sI hS (runs_move rfl) fun _ hS => ?_
  refine sY hS (runs_move rfl) fun _ hS => ?_
  by_cases g2 : 1125899906842624 < x
  · skip
    refine sY hS (gtrT rfl rfl (by omega)) fun _ hS => ?_
    refine sI hS (runs_pick rfl rfl) fun _ hS => ?_
    refine sI hS (runs_assign rfl) fun _ hS => ?_
    exact nil_ok (qx_ret (ret1 (t := 2) (by kernel_rfl) hS rfl ⟨_, rfl, by unfold great; first | (simp; done) | (simp; omega), rfl⟩))
  refine sY hS (gtrF rfl rfl (by omega)) fun _ hS => ?_
  refine sI hS (runs_pick rfl rfl) fun _ hS => ?_
  refine sI hS (runs_assign rfl) fun _ hS => ?_
  exact nil_ok (qx_ret (ret1 (t := 2) (by kernel_rfl) hS rfl ⟨_, rfl, by unfold great; first | (simp; done) | (simp; omega), rfl⟩))
theorem sgreat_is {x : Int} (w : World) {b : Bool} (h : great x = b) : Ans 32 [.int .i64 x] w (Is (.bool b) w) := h ▸ sgreat_any x w
set_option maxHeartbeats 1000000 in
theorem scheck_any (x : Vx) (w : World) : Ans 13 [vv x] w (fun u w' => u = .int .i64 (if rightX x then 0 else 100) ∧ Below w.heap.size w w') := by
  refine calls_qx (args := [.agg (vc x).toArray]) 31 Tryd.func13 rfl (by kernel_rfl) (by simp) (fun a hS => ?_)
  have hB := Below.refl w.heap.size w
  refine qx_seq (reg_seq ?_)
  refine seq_op hS (by decide) (runs_boxB (cs := vc x) rfl rfl) (fun v1 w1 a1 hp hS => ?_)
  obtain ⟨rfl, hM1, hB1⟩ := hp
  have hB := hB.trans (hB1.mono hB.size)
  refine sI hS (runs_assign rfl) fun _ hS => ?_
  refine nil_ok (qx_seq (qx_seq (reg_seq ?_)))
  refine sI hS (runs_fieldK fo28_0 rfl) fun _ hS => ?_
  refine sI hS (runs_load rfl pl3 (hM1.at rfl)) fun _ hS => ?_
  by_cases h1 : x.id < 0
  · skip
    refine sI hS (lssT rfl rfl (by omega)) fun _ hS => ?_
    refine sI hS (runs_move rfl) fun _ hS => ?_
    refine sN hS fun _ hS => ?_
    refine sN hS fun _ hS => ?_
    refine sN hS fun _ hS => ?_
    refine sI hS (runs_pick rfl rfl) fun _ hS => ?_
    refine sI hS (runs_move rfl) fun _ hS => ?_
    refine sN hS fun _ hS => ?_
    refine sN hS fun _ hS => ?_
    refine sN hS fun _ hS => ?_
    refine sI hS (runs_pick rfl rfl) fun _ hS => ?_
    refine sI hS (runs_move rfl) fun _ hS => ?_
    refine sN hS fun _ hS => ?_
    refine sN hS fun _ hS => ?_
    refine sN hS fun _ hS => ?_
    refine sI hS (runs_pick rfl rfl) fun _ hS => ?_
    refine sI hS (runs_move rfl) fun _ hS => ?_
    refine sN hS fun _ hS => ?_
    refine sN hS fun _ hS => ?_
    refine sN hS fun _ hS => ?_
    refine sN hS fun _ hS => ?_
    refine sU hS fun _ hS => ?_
    refine sU hS fun _ hS => ?_
    refine sU hS fun _ hS => ?_
    refine sN hS fun _ hS => ?_
    refine sI hS (runs_pick rfl rfl) fun _ hS => ?_
    refine nil_ok (wp_cond_true (hS.eval rfl) (qx_seq (reg_seq ?_)))
    refine sI hS (runs_assign rfl) fun _ hS => ?_
    have hfin : rightX x = false := by unfold rightX; first | (simp; done) | (simp_all; done) | (simp_all; omega)
    exact nil_ok (qx_ret (ret1 (t := 2) (by kernel_rfl) hS rfl ⟨_, rfl, by rw [hfin]; rfl, hB⟩))
  refine sI hS (lssF rfl rfl (by omega)) fun _ hS => ?_
  refine sI hS (runs_move rfl) fun _ hS => ?_
  refine sY hS (runs_fieldK fo28_0 rfl) fun _ hS => ?_
  refine sY hS (runs_load rfl pl3 (hM1.at rfl)) fun _ hS => ?_
  by_cases h2 : 64 ≤ x.id
  · skip
    refine sY hS (geqT rfl rfl (by omega)) fun _ hS => ?_
    refine sI hS (runs_pick rfl rfl) fun _ hS => ?_
    refine sI hS (runs_move rfl) fun _ hS => ?_
    refine sN hS fun _ hS => ?_
    refine sN hS fun _ hS => ?_
    refine sN hS fun _ hS => ?_
    refine sI hS (runs_pick rfl rfl) fun _ hS => ?_
    refine sI hS (runs_move rfl) fun _ hS => ?_
    refine sN hS fun _ hS => ?_
    refine sN hS fun _ hS => ?_
    refine sN hS fun _ hS => ?_
    refine sI hS (runs_pick rfl rfl) fun _ hS => ?_
    refine sI hS (runs_move rfl) fun _ hS => ?_
    refine sN hS fun _ hS => ?_
    refine sN hS fun _ hS => ?_
    refine sN hS fun _ hS => ?_
    refine sN hS fun _ hS => ?_
    refine sU hS fun _ hS => ?_
    refine sU hS fun _ hS => ?_
    refine sU hS fun _ hS => ?_
    refine sN hS fun _ hS => ?_
    refine sI hS (runs_pick rfl rfl) fun _ hS => ?_
    refine nil_ok (wp_cond_true (hS.eval rfl) (qx_seq (reg_seq ?_)))
    refine sI hS (runs_assign rfl) fun _ hS => ?_
    have hfin : rightX x = false := by unfold rightX; first | (simp; done) | (simp_all; done) | (simp_all; omega)
    exact nil_ok (qx_ret (ret1 (t := 2) (by kernel_rfl) hS rfl ⟨_, rfl, by rw [hfin]; rfl, hB⟩))
  refine sY hS (geqF rfl rfl (by omega)) fun _ hS => ?_
  refine sI hS (runs_pick rfl rfl) fun _ hS => ?_
  refine sI hS (runs_move rfl) fun _ hS => ?_
  refine sY hS (runs_fieldK fo28_1 rfl) fun _ hS => ?_
  refine sY hS (runs_load rfl pl2 (hM1.at rfl)) fun _ hS => ?_
  by_cases h3 : great x.val = true
  · skip
    refine sY hS (runs_call (args := [.int .i64 x.val]) goes32 rfl (sgreat_is w1 h3)) fun _ hS => ?_
    refine sI hS (runs_pick rfl rfl) fun _ hS => ?_
    refine sI hS (runs_move rfl) fun _ hS => ?_
    refine sN hS fun _ hS => ?_
    refine sN hS fun _ hS => ?_
    refine sN hS fun _ hS => ?_
    refine sI hS (runs_pick rfl rfl) fun _ hS => ?_
    refine sI hS (runs_move rfl) fun _ hS => ?_
    refine sN hS fun _ hS => ?_
    refine sN hS fun _ hS => ?_
    refine sN hS fun _ hS => ?_
    refine sN hS fun _ hS => ?_
    refine sU hS fun _ hS => ?_
    refine sU hS fun _ hS => ?_
    refine sU hS fun _ hS => ?_
    refine sN hS fun _ hS => ?_
    refine sI hS (runs_pick rfl rfl) fun _ hS => ?_
    refine nil_ok (wp_cond_true (hS.eval rfl) (qx_seq (reg_seq ?_)))
    refine sI hS (runs_assign rfl) fun _ hS => ?_
    have hfin : rightX x = false := by unfold rightX; first | (simp [h3]; done) | (simp_all [great_zero]; done) | (simp_all [great_zero]; omega)
    exact nil_ok (qx_ret (ret1 (t := 2) (by kernel_rfl) hS rfl ⟨_, rfl, by rw [hfin]; rfl, hB⟩))
  refine sY hS (runs_call (args := [.int .i64 x.val]) goes32 rfl (sgreat_is w1 (Bool.eq_false_iff.2 h3))) fun _ hS => ?_
  refine sI hS (runs_pick rfl rfl) fun _ hS => ?_
  refine sI hS (runs_move rfl) fun _ hS => ?_
  refine sY hS (runs_fieldK fo28_4 rfl) fun _ hS => ?_
  refine sY hS (runs_load rfl pl2 (hM1.at rfl)) fun _ hS => ?_
  by_cases h4 : great x.inn = true
  · skip
    refine sY hS (runs_call (args := [.int .i64 x.inn]) goes32 rfl (sgreat_is w1 h4)) fun _ hS => ?_
    refine sI hS (runs_pick rfl rfl) fun _ hS => ?_
    refine sI hS (runs_move rfl) fun _ hS => ?_
    refine sN hS fun _ hS => ?_
    refine sN hS fun _ hS => ?_
    refine sN hS fun _ hS => ?_
    refine sN hS fun _ hS => ?_
    refine sU hS fun _ hS => ?_
    refine sU hS fun _ hS => ?_
    refine sU hS fun _ hS => ?_
    refine sN hS fun _ hS => ?_
    refine sI hS (runs_pick rfl rfl) fun _ hS => ?_
    refine nil_ok (wp_cond_true (hS.eval rfl) (qx_seq (reg_seq ?_)))
    refine sI hS (runs_assign rfl) fun _ hS => ?_
    have hfin : rightX x = false := by unfold rightX; first | (simp [h3, h4]; done) | (simp_all [great_zero]; done) | (simp_all [great_zero]; omega)
    exact nil_ok (qx_ret (ret1 (t := 2) (by kernel_rfl) hS rfl ⟨_, rfl, by rw [hfin]; rfl, hB⟩))
  refine sY hS (runs_call (args := [.int .i64 x.inn]) goes32 rfl (sgreat_is w1 (Bool.eq_false_iff.2 h4))) fun _ hS => ?_
  refine sI hS (runs_pick rfl rfl) fun _ hS => ?_
  refine sI hS (runs_move rfl) fun _ hS => ?_
  refine sY hS (runs_fieldK fo28_3 rfl) fun _ hS => ?_
  refine sY hS (runs_load rfl pl4 (hM1.at rfl)) fun _ hS => ?_
  by_cases h5 : x.has = true
  · skip
    rw [h5] at hS
    refine sY hS (runs_not (b := true) rfl) fun _ hS => ?_
    refine sY hS (runs_move rfl) fun _ hS => ?_
    refine sN hS fun _ hS => ?_
    refine sN hS fun _ hS => ?_
    refine sN hS fun _ hS => ?_
    refine sY hS (runs_pick rfl rfl) fun _ hS => ?_
    refine sI hS (runs_pick rfl rfl) fun _ hS => ?_
    refine nil_ok (wp_cond_false (hS.eval rfl) (wp_skip (qx_seq (reg_seq ?_))))
    refine sI hS (runs_assign rfl) fun _ hS => ?_
    have hfin : rightX x = true := by unfold rightX; first | (simp [h3, h4, h5]; done) | (simp_all; done) | (simp_all [great_zero]; omega)
    exact nil_ok (qx_ret (ret1 (t := 2) (by kernel_rfl) hS rfl ⟨_, rfl, by rw [hfin]; rfl, hB⟩))
  · skip
    rw [Bool.eq_false_iff.2 h5] at hS
    refine sY hS (runs_not (b := false) rfl) fun _ hS => ?_
    refine sY hS (runs_move rfl) fun _ hS => ?_
    refine sY hS (runs_fieldK fo28_4 rfl) fun _ hS => ?_
    refine sY hS (runs_load rfl pl2 (hM1.at rfl)) fun _ hS => ?_
    by_cases h6 : x.inn ≠ 0
    · skip
      refine sY hS (runs_neq (r := true) rfl rfl (by simpa using h6)) fun _ hS => ?_
      refine sY hS (runs_pick rfl rfl) fun _ hS => ?_
      refine sI hS (runs_pick rfl rfl) fun _ hS => ?_
      refine nil_ok (wp_cond_true (hS.eval rfl) (qx_seq (reg_seq ?_)))
      refine sI hS (runs_assign rfl) fun _ hS => ?_
      have hfin : rightX x = false := by unfold rightX; first | (simp [h3, h4, h5, h6]; done) | (simp_all [great_zero]; done) | (simp_all [great_zero]; omega)
      exact nil_ok (qx_ret (ret1 (t := 2) (by kernel_rfl) hS rfl ⟨_, rfl, by rw [hfin]; rfl, hB⟩))
    refine sY hS (runs_neq (r := false) rfl rfl (by simpa using h6)) fun _ hS => ?_
    refine sY hS (runs_pick rfl rfl) fun _ hS => ?_
    refine sI hS (runs_pick rfl rfl) fun _ hS => ?_
    refine nil_ok (wp_cond_false (hS.eval rfl) (wp_skip (qx_seq (reg_seq ?_))))
    refine sI hS (runs_assign rfl) fun _ hS => ?_
    have hfin : rightX x = true := by unfold rightX; first | (simp [h3, h4, h5]; done) | (simp_all [great_zero]; done) | (simp_all [great_zero]; omega)
    exact nil_ok (qx_ret (ret1 (t := 2) (by kernel_rfl) hS rfl ⟨_, rfl, by rw [hfin]; rfl, hB⟩))
set_option maxHeartbeats 1000000 in
theorem sbit_any (b : Bool) (w : World) : Ans 25 [.bool b] w (Is (.int .u64 ((bitN b : Nat) : Int)) w) := by
  refine calls_qx (args := [.bool b]) 4 Tryd.func25 rfl (by kernel_rfl) (by simp) (fun a hS => ?_)
  refine qx_seq (reg_seq ?_)
  refine sI hS (runs_assign rfl) fun _ hS => ?_
  refine nil_ok (qx_seq (qx_seq (reg_seq ?_)))
  refine sI hS (runs_move rfl) fun _ hS => ?_
  refine nil_ok (?_)
  by_cases hb : b = true
  · skip
    rw [hb] at hS
    refine wp_cond_true (hS.eval rfl) (qx_seq (reg_seq ?_))
    refine sI hS (runs_assign rfl) fun _ hS => ?_
    exact nil_ok (qx_ret (ret1 (t := 2) (by kernel_rfl) hS rfl ⟨_, rfl, by simp [bitN, hb], rfl⟩))
  · skip
    rw [Bool.eq_false_iff.2 hb] at hS
    refine wp_cond_false (hS.eval rfl) (wp_skip (qx_seq (reg_seq ?_)))
    refine sI hS (runs_assign rfl) fun _ hS => ?_
    exact nil_ok (qx_ret (ret1 (t := 2) (by kernel_rfl) hS rfl ⟨_, rfl, by simp [bitN, hb], rfl⟩))
theorem num_bit (b : Bool) : (Wire.num (bitN b)).length = 1 := (Wire.num_one _).2 (bitN_lt b)
theorem bytesX_app (x : Vx) : [] ++ Wire.num x.id.toNat ++ Wire.num (Wire.fold x.val) ++ Wire.num (bitN x.act) ++ Wire.num (bitN x.has) ++ Wire.num (Wire.fold x.inn) = bytesX x := by
  rw [bytesX, Wire.num_lt (bitN_lt x.act), Wire.num_lt (bitN_lt x.has), List.nil_append]
set_option maxHeartbeats 1000000 in
theorem sput_any (x : Vx) (w : World) : Ans 9 [vv x] w (fun u w' => u = .string (putX x) ∧ Below w.heap.size w w') := by
  refine calls_qx (args := [.agg (vc x).toArray]) 33 Tryd.func9 rfl (by kernel_rfl) (by simp) (fun a hS => ?_)
  have hB := Below.refl w.heap.size w
  refine qx_seq (reg_seq ?_)
  refine seq_op hS (by decide) (runs_boxB (cs := vc x) rfl rfl) (fun v1 w1 a1 hp hS => ?_)
  obtain ⟨rfl, hM1, hB1⟩ := hp
  have hB := hB.trans (hB1.mono hB.size)
  refine sI hS (runs_assign rfl) fun _ hS => ?_
  refine nil_ok (qx_seq (qx_seq (reg_seq ?_)))
  refine sI hS (runs_loadRow rfl hM1 Tryd.underlying23 rfl (by rw [sz28]; rfl)) fun _ hS => ?_
  refine seq_op hS (by decide) (runs_call (args := [.agg (vc x).toArray]) goes13 rfl (scheck_any x w1)) (fun v3 w3 a1 hp hS => ?_)
  obtain ⟨rfl, hB3⟩ := hp
  have hB := hB.trans (hB3.mono hB.size)
  have hM1 := hM1.below hB3 hM1.lt
  by_cases hr : ¬ rightX x = true
  · skip
    refine sI hS (runs_neq (r := true) rfl rfl (by rw [if_neg hr]; rfl)) fun _ hS => ?_
    refine nil_ok (wp_cond_true (hS.eval rfl) (qx_seq (reg_seq ?_)))
    refine sI hS (runs_assign rfl) fun _ hS => ?_
    exact nil_ok (qx_ret (ret1 (t := 2) (by kernel_rfl) hS rfl ⟨_, rfl, by unfold putX; rw [if_neg hr]; rfl, hB⟩))
  refine sI hS (runs_neq (r := false) rfl rfl (by rw [if_pos (Classical.not_not.1 hr)]; rfl)) fun _ hS => ?_
  refine nil_ok (wp_cond_false (hS.eval rfl) (wp_skip (qx_seq (?_))))
  replace hr := Classical.not_not.1 hr
  obtain ⟨g1, g2, g3, g4, g5⟩ := right_parts hr
  have hid : x.id = ((x.id.toNat : Nat) : Int) := by omega
  have n1 : x.id.toNat < 18446744073709551616 := by omega
  have q1 := great_no g3
  have q2 := great_no g4
  have hlb := (bytesX_size hr).2
  simp only [bytesX, List.length_append, List.length_cons, List.length_nil] at hlb
  have hBpre0 := hB
  have hB := Below.refl w3.heap.size w3
  have hM1b := hM1
  refine reg_seq ?_
  refine seq_op hS (by decide) (runs_call (args := []) goes22 rfl (wr_new w3)) (fun v5 w5 a1 hp hS => ?_)
  obtain ⟨rfl, hW, hK5⟩ := hp
  have hB := hB.trans hK5
  have hM1 := hM1b.below hB hM1b.lt
  refine sI hS (runs_assign rfl) fun _ hS => ?_
  refine nil_ok (qx_seq (reg_seq ?_))
  refine sI hS (runs_move rfl) fun _ hS => ?_
  refine sI hS (runs_fieldK fo28_0 rfl) fun _ hS => ?_
  refine sI hS (runs_load rfl pl3 (hM1.at rfl)) fun _ hS => ?_
  refine sI hS (runs_to64 (a := x.id.toNat) (by rw [← hid]; rfl) (by decide) n1) fun _ hS => ?_
  refine seq_op hS (by decide) (runs_call (args := [.pointer (some ⟨w3.heap.size, 0, none⟩), .int .u64 ((x.id.toNat : Nat) : Int)]) goes23 rfl (wr_num hW n1 (by simp))) (fun v6 w6 a1 hp hS => ?_)
  obtain ⟨hW, hK6⟩ := hp
  have hB := hB.trans hK6
  have hM1 := hM1b.below hB hM1b.lt
  refine nil_ok (qx_seq (reg_seq ?_))
  refine sI hS (runs_move rfl) fun _ hS => ?_
  refine sI hS (runs_fieldK fo28_1 rfl) fun _ hS => ?_
  refine sI hS (runs_load rfl pl2 (hM1.at rfl)) fun _ hS => ?_
  refine seq_op hS (by decide) (runs_call (args := [.pointer (some ⟨w3.heap.size, 0, none⟩), .int .i64 x.val]) goes24 rfl (wr_int hW (by omega) (by omega) (by simp only [List.length_append, List.length_nil]; omega))) (fun v7 w7 a1 hp hS => ?_)
  obtain ⟨hW, hK7⟩ := hp
  have hB := hB.trans hK7
  have hM1 := hM1b.below hB hM1b.lt
  refine nil_ok (qx_seq (reg_seq ?_))
  refine sI hS (runs_move rfl) fun _ hS => ?_
  refine sI hS (runs_fieldK fo28_2 rfl) fun _ hS => ?_
  refine sI hS (runs_load rfl pl4 (hM1.at rfl)) fun _ hS => ?_
  refine sI hS (runs_call (args := [.bool x.act]) goes25 rfl (sbit_any x.act w7)) fun _ hS => ?_
  refine seq_op hS (by decide) (runs_call (args := [.pointer (some ⟨w3.heap.size, 0, none⟩), .int .u64 ((bitN x.act : Nat) : Int)]) goes23 rfl (wr_num hW (Nat.lt_trans (bitN_lt x.act) (by omega)) (by simp only [List.length_append, List.length_nil]; omega))) (fun v8 w8 a1 hp hS => ?_)
  obtain ⟨hW, hK8⟩ := hp
  have hB := hB.trans hK8
  have hM1 := hM1b.below hB hM1b.lt
  refine nil_ok (qx_seq (reg_seq ?_))
  refine sI hS (runs_move rfl) fun _ hS => ?_
  refine sI hS (runs_fieldK fo28_3 rfl) fun _ hS => ?_
  refine sI hS (runs_load rfl pl4 (hM1.at rfl)) fun _ hS => ?_
  refine sI hS (runs_call (args := [.bool x.has]) goes25 rfl (sbit_any x.has w8)) fun _ hS => ?_
  refine seq_op hS (by decide) (runs_call (args := [.pointer (some ⟨w3.heap.size, 0, none⟩), .int .u64 ((bitN x.has : Nat) : Int)]) goes23 rfl (wr_num hW (Nat.lt_trans (bitN_lt x.has) (by omega)) (by simp only [List.length_append, List.length_nil, num_bit]; omega))) (fun v9 w9 a1 hp hS => ?_)
  obtain ⟨hW, hK9⟩ := hp
  have hB := hB.trans hK9
  have hM1 := hM1b.below hB hM1b.lt
  refine nil_ok (qx_seq (reg_seq ?_))
  refine sI hS (runs_move rfl) fun _ hS => ?_
  refine sI hS (runs_fieldK fo28_4 rfl) fun _ hS => ?_
  refine sI hS (runs_load rfl pl2 (hM1.at rfl)) fun _ hS => ?_
  refine seq_op hS (by decide) (runs_call (args := [.pointer (some ⟨w3.heap.size, 0, none⟩), .int .i64 x.inn]) goes24 rfl (wr_int hW (by omega) (by omega) (by simp only [List.length_append, List.length_nil, num_bit]; omega))) (fun v10 w10 a1 hp hS => ?_)
  obtain ⟨hW, hK10⟩ := hp
  have hB := hB.trans hK10
  refine nil_ok (qx_seq (reg_seq ?_))
  refine sI hS (runs_move rfl) fun _ hS => ?_
  refine sI hS (runs_call (args := [.pointer (some ⟨w3.heap.size, 0, none⟩)]) goes26 rfl ((wr_done hW).mono (by rintro e w3 ⟨u, rfl, rfl, rfl⟩; exact ⟨_, rfl, by rw [bytesX_app], rfl⟩))) fun _ hS => ?_
  refine sI hS (runs_assign rfl) fun _ hS => ?_
  exact nil_ok (qx_ret (ret1 (t := 2) (by kernel_rfl) hS rfl ⟨_, rfl, by unfold putX; rw [if_pos hr], hBpre0.trans (hB.mono hBpre0.size)⟩))
end Go.Proofs.YtbcmglggplmkfaaDoor
