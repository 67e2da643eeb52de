/- Layer 5: the example of the chapter. Conditions: none of our own. -/
import Derived.Test.YtdbibjcplakelaaDoorGReadC
namespace Go.Proofs.YtdbibjcplakelaaDoor
open Go.RowKit
set_option maxRecDepth 100000

theorem goes10 : Goes Tryd.prog 10 := goes_of Tryd.func10 (by kernel_rfl) rfl
def exText : ByteArray := ⟨#[103, 114, 97, 112, 104, 32, 50, 10, 101, 100, 103, 101, 32, 48, 32, 49, 32, 53, 10]⟩
theorem ex_read : rdT exText.data.toList = .inr (2, [(0, 1, 5)]) := by kernel_rfl
theorem ex_check : checkZ 2 [(0, 1, 5)] = 0 := by decide
theorem ex_norm : normL (2 : Int).toNat [(0, 1, 5)] = [(0, 1, 5)] := by decide
theorem ex_show : showL 2 [(0, 1, 5)] = exText.data.toList := by
  rw [showL, if_pos ex_check, ex_norm]; exact (text_read ex_read).1.symm
set_option maxHeartbeats 1000000 in
theorem awake_any (w : World) (hk : Kept w) : Ans 10 [] w (fun u w' => u = .bool true ∧ Below w.heap.size w w') := by
  refine calls_qx (args := []) 66 Tryd.func10 rfl (by kernel_rfl) (by simp) (fun a hS => ?_)
  refine qx_seq (reg_seq ?_)
  refine seq_is hS (by decide) (runs_assign rfl) (fun a1 hS => ?_)
  refine nil_ok (qx_seq (reg_seq ?_))
  refine seq_op hS (by decide) (runs_call (args := [.string exText]) goes23 rfl (read_any exText (by decide) w hk)) (fun v1 w1 a1 hp1 hS => ?_)
  obtain ⟨hB1, k, x, l, at_, e, rfl, hE, hrd⟩ := hp1
  rw [ReadIs, ex_read] at hrd
  obtain ⟨rfl, rfl, hyes, _⟩ := hrd
  obtain ⟨rfl, rfl⟩ := hyes ex_check
  simp only [ex_check] at hS
  rw [ex_norm] at hE
  obtain ⟨A, c, rfl, _, _, hA⟩ := id hE
  obtain ⟨b, o, rfl, _, hb, hr⟩ := hA (by simp)
  have hE := hE.edges
  have hk1 := hk.on hB1
  refine seq_is hS (by decide) (runs_move rfl) (fun a1 hS => ?_)
  refine seq_is hS (by decide) (runs_extract rfl rfl) (fun a1 hS => ?_)
  refine seq_is hS (by decide) (runs_extract rfl rfl) (fun a1 hS => ?_)
  refine seq_is hS (by decide) (runs_extract rfl rfl) (fun a1 hS => ?_)
  refine seq_op hS (by decide) (runs_alloc24) (fun v3 w3 a3 hp3 hS => ?_)
  obtain ⟨rfl, hw3⟩ := hp3
  refine seq_none hS (runs_store24 rfl rfl (by rw [hw3]; exact Has.new w1 24 [.int .i64 0, .slice none 0 0]) rfl) (fun v4 w4 a4 hp4 hS => ?_)
  obtain ⟨rfl, hw4⟩ := hp4
  obtain ⟨hG, hB4⟩ : Has w4 w1.heap.size 24 [.int .i64 2, .slice (some ⟨b, o, none⟩) 1 c] ∧ Below w1.heap.size w1 w4 := by rw [hw4, hw3]; exact new_row w1 24 [.int .i64 0, .slice none 0 0] [.int .i64 2, .slice (some ⟨b, o, none⟩) 1 c]
  clear hw4 hw3
  have hE := hE.kept hB4
  have hk4 := hk1.on hB4
  have hr := range_below hr hB4 hb
  have hB := hB1.trans (hB4.mono hB1.size)
  generalize w1.heap.size = g at *
  refine seq_is hS (by decide) (runs_assign rfl) (fun a1 hS => ?_)
  refine seq_is hS (by decide) (runs_assign rfl) (fun a1 hS => ?_)
  refine nil_ok (qx_seq (reg_seq ?_))
  refine seq_is hS (by decide) (runs_loadG rfl hG) (fun a1 hS => ?_)
  refine seq_op hS (by decide) (runs_call (args := [gv 2 (.slice (some ⟨b, o, none⟩) 1 c)]) goes22 rfl (show_any 2 [(0, 1, 5)] _ w4 hE hk4)) (fun v5 w5 a5 hp5 hS => ?_)
  obtain ⟨hB5, rfl⟩ := hp5
  rw [ex_show, ex_check] at hS
  have hG := hG.below hB5 hG.lt
  have hE := hE.kept hB5
  have hr0 : w5.rangeAt b (o + 0 * 3) (encE (0, 1, 5)) := by
    have hE' := hE
    obtain ⟨_, _, e6, _, _, h6⟩ := hE'
    simp only [Value.slice.injEq] at e6
    obtain ⟨b6, o6, e7, _, h7⟩ := h6 (by simp)
    rw [← e6.1] at e7
    simp only [Option.some.injEq, Addr.mk.injEq] at e7
    rw [e7.1, e7.2.1]
    exact edges_at h7 rfl
  have hB := hB.trans (hB5.mono hB.size)
  refine seq_is hS (by decide) (runs_move rfl) (fun a1 hS => ?_)
  refine seq_is hS (by decide) (runs_extract rfl rfl) (fun a1 hS => ?_)
  refine seq_is hS (by decide) (runs_extract rfl rfl) (fun a1 hS => ?_)
  refine seq_is hS (by decide) (runs_assign rfl) (fun a1 hS => ?_)
  refine seq_is hS (by decide) (runs_assign rfl) (fun a1 hS => ?_)
  refine nil_ok (qx_seq (reg_seq ?_))
  refine seq_is hS (by decide) (runs_move rfl) (fun a1 hS => ?_)
  refine seq_is hS (by decide) (runs_eql (r := true) rfl rfl rfl) (fun a1 hS => ?_)
  refine seq_is hS (by decide) (runs_move rfl) (fun a1 hS => ?_)
  refine seq_yis hS (by decide) rfl (by decide) rfl (runs_move rfl) (fun a1 hS => ?_)
  refine seq_yis hS (by decide) rfl (by decide) rfl (runs_eql (r := true) rfl rfl rfl) (fun a1 hS => ?_)
  refine seq_is hS (by decide) (runs_pick rfl rfl) (fun a1 hS => ?_)
  refine seq_is hS (by decide) (runs_move rfl) (fun a1 hS => ?_)
  refine seq_yis hS (by decide) rfl (by decide) rfl (runs_f24 (by decide) rfl) (fun a1 hS => ?_)
  refine seq_yis hS (by decide) rfl (by decide) rfl (runs_loadN rfl hG) (fun a1 hS => ?_)
  refine seq_yis hS (by decide) rfl (by decide) rfl (runs_eql (r := true) rfl rfl rfl) (fun a1 hS => ?_)
  refine seq_is hS (by decide) (runs_pick rfl rfl) (fun a1 hS => ?_)
  refine seq_is hS (by decide) (runs_move rfl) (fun a1 hS => ?_)
  refine seq_yis hS (by decide) rfl (by decide) rfl (runs_f24 (by decide) rfl) (fun a1 hS => ?_)
  refine seq_yis hS (by decide) rfl (by decide) rfl (runs_loadV rfl hG) (fun a1 hS => ?_)
  refine seq_yis hS (by decide) rfl (by decide) rfl (runs_len rfl und22) (fun a1 hS => ?_)
  refine seq_yis hS (by decide) rfl (by decide) rfl (runs_eql (r := true) rfl rfl rfl) (fun a1 hS => ?_)
  refine seq_is hS (by decide) (runs_pick rfl rfl) (fun a1 hS => ?_)
  refine seq_is hS (by decide) (runs_move rfl) (fun a1 hS => ?_)
  refine seq_yis hS (by decide) rfl (by decide) rfl (runs_f24 (by decide) rfl) (fun a1 hS => ?_)
  refine seq_yis hS (by decide) rfl (by decide) rfl (runs_loadV rfl hG) (fun a1 hS => ?_)
  refine seq_yis hS (by decide) rfl (by decide) rfl (runs_indexAddrG (j := 0) rfl rfl und22 siz45 rfl (by omega)) (fun a1 hS => ?_)
  refine seq_yis hS (by decide) rfl (by decide) rfl (runs_loadE rfl hr0) (fun a1 hS => ?_)
  refine seq_yis hS (by decide) rfl (by decide) rfl (runs_build45b rfl rfl) (fun a1 hS => ?_)
  refine seq_yis hS (by decide) rfl (by decide) rfl (runs_eqE (a := (0, 1, 5)) (b := (0, 1, 5)) (r := true) rfl rfl (by simp)) (fun a1 hS => ?_)
  refine seq_is hS (by decide) (runs_pick rfl rfl) (fun a1 hS => ?_)
  refine seq_is hS (by decide) (runs_move rfl) (fun a1 hS => ?_)
  refine seq_yis hS (by decide) rfl (by decide) rfl (runs_move rfl) (fun a1 hS => ?_)
  refine seq_yis hS (by decide) rfl (by decide) rfl (runs_eqStr (a := exText) (b := exText) (r := true) rfl rfl (by simp)) (fun a1 hS => ?_)
  refine seq_is hS (by decide) (runs_pick rfl rfl) (fun a1 hS => ?_)
  refine seq_is hS (by decide) (runs_move rfl) (fun a1 hS => ?_)
  refine seq_yis hS (by decide) rfl (by decide) rfl (runs_move rfl) (fun a1 hS => ?_)
  refine seq_yis hS (by decide) rfl (by decide) rfl (runs_eql (r := true) rfl rfl rfl) (fun a1 hS => ?_)
  refine seq_is hS (by decide) (runs_pick rfl rfl) (fun a1 hS => ?_)
  refine seq_is hS (by decide) (runs_move rfl) (fun a1 hS => ?_)
  refine seq_yis hS (by decide) rfl (by decide) rfl (runs_loadG rfl hG) (fun a1 hS => ?_)
  refine seq_yes hS (by decide) rfl (by decide) rfl (runs_call (args := [gv 2 (.slice (some ⟨b, o, none⟩) 1 c)]) goes14 rfl (check_any 2 [(0, 1, 5)] _ w5 hE)) (fun v6 w6 a6 hp6 hS => ?_)
  obtain ⟨rfl, hB6⟩ := hp6
  rw [ex_check] at hS
  have hG := hG.below hB6 hG.lt
  have hE := hE.kept hB6
  have hB := hB.trans (hB6.mono hB.size)
  refine seq_yis hS (by decide) rfl (by decide) rfl (runs_eql (r := true) rfl rfl rfl) (fun a1 hS => ?_)
  refine seq_is hS (by decide) (runs_pick rfl rfl) (fun a1 hS => ?_)
  refine seq_is hS (by decide) (runs_move rfl) (fun a1 hS => ?_)
  refine seq_yis hS (by decide) rfl (by decide) rfl (runs_loadG rfl hG) (fun a1 hS => ?_)
  refine seq_yes hS (by decide) rfl (by decide) rfl (runs_call (args := [gv 2 (.slice (some ⟨b, o, none⟩) 1 c), .int .i64 0]) goes16 rfl (out_any 2 0 [(0, 1, 5)] _ w6 hE)) (fun v7 w7 a7 hp7 hS => ?_)
  obtain ⟨hB7, hE7⟩ := hp7
  rw [if_pos ex_check, ex_norm] at hE7
  obtain ⟨A7, c7, rfl, _⟩ := hE7
  have hG := hG.below hB7 hG.lt
  have hE := hE.kept hB7
  have hB := hB.trans (hB7.mono hB.size)
  refine seq_yis hS (by decide) rfl (by decide) rfl (runs_len rfl und22) (fun a1 hS => ?_)
  refine seq_yis hS (by decide) rfl (by decide) rfl (runs_eql (r := true) rfl rfl rfl) (fun a1 hS => ?_)
  refine seq_is hS (by decide) (runs_pick rfl rfl) (fun a1 hS => ?_)
  refine seq_is hS (by decide) (runs_move rfl) (fun a1 hS => ?_)
  refine seq_yis hS (by decide) rfl (by decide) rfl (runs_loadG rfl hG) (fun a1 hS => ?_)
  refine seq_yes hS (by decide) rfl (by decide) rfl (runs_call (args := [gv 2 (.slice (some ⟨b, o, none⟩) 1 c), .int .i64 0]) goes17 rfl (in_any 2 0 [(0, 1, 5)] _ w7 hE)) (fun v8 w8 a8 hp8 hS => ?_)
  obtain ⟨hB8, hE8⟩ := hp8
  rw [if_pos ex_check, ex_norm] at hE8
  obtain ⟨A8, c8, rfl, _⟩ := hE8
  have hB := hB.trans (hB8.mono hB.size)
  refine seq_yis hS (by decide) rfl (by decide) rfl (runs_len rfl und22) (fun a1 hS => ?_)
  refine seq_yis hS (by decide) rfl (by decide) rfl (runs_eql (r := true) rfl rfl rfl) (fun a1 hS => ?_)
  refine seq_is hS (by decide) (runs_pick rfl rfl) (fun a1 hS => ?_)
  refine seq_is hS (by decide) (runs_assign rfl) (fun a1 hS => ?_)
  exact nil_ok (qx_ret (ret1 (t := 0) (by kernel_rfl) hS rfl ⟨_, rfl, rfl, hB⟩))
end Go.Proofs.YtdbibjcplakelaaDoor
