/- modillionlaw08.FoldChecks, walked. Conditions: none of our own. -/
import Derived.Test.YthenbmalnmaofaaFAwake
import Derived.Test.YthenbmalnmaofaaFRChk
namespace Go.Proofs.Ythenbmalnmaofaa
open Go.RowKit
set_option maxRecDepth 100000

set_option maxHeartbeats 1000000 in
theorem checks_any (n : Int) (es : List E) (vg : Value) (l : List E) (v : Value) (w : World) (hG : Edges w vg es) (hE : Edges w v l) : Ans 4 [gv n vg, v] w (fun u w' => u = .bool true ∧ Below w.heap.size w w') := by
  obtain ⟨Ag, cg, rfl, hg1, hg2, hgA⟩ := hG
  have hG : Edges w (.slice Ag es.length cg) es := ⟨Ag, cg, rfl, hg1, hg2, hgA⟩
  obtain ⟨A, c, rfl, h1, h2, hA⟩ := hE
  have hE : Edges w (.slice A l.length c) l := ⟨A, c, rfl, h1, h2, hA⟩
  refine calls_qx (args := [gv n (.slice Ag es.length cg), .slice A l.length c]) 37 Try.func4 rfl (by kernel_rfl) (by simp) (fun a hS => ?_)
  have hB := Below.refl w.heap.size w
  have hEb := hE
  have hGb := hG
  refine qx_seq (reg_seq ?_)
  refine seq_op hS (by decide) (runs_boxB (cs := [.int .i64 n, .slice Ag es.length cg]) rfl rfl) (fun v1 w1 a1 hp hS => ?_)
  obtain ⟨rfl, hM1, hB1⟩ := hp
  have hB := hB.trans (hB1.mono hB.size)
  have hE := hEb.kept hB
  have hG := hGb.kept hB
  refine sI hS (runs_assign rfl) fun _ hS => ?_
  refine nil_ok (qx_seq (qx_seq (reg_seq ?_)))
  refine sI hS (runs_move rfl) fun _ hS => ?_
  refine seq_op hS (by decide) (runs_call (args := [.slice A l.length c]) goes9 rfl (awakes_any _ w1)) (fun v3 w3 a1 hp hS => ?_)
  obtain ⟨rfl, hB3⟩ := hp
  have hB := hB.trans (hB3.mono hB.size)
  have hM1 := hM1.below hB3 hM1.lt
  have hE := hEb.kept hB
  have hG := hGb.kept hB
  refine sI hS (runs_not (b := true) rfl) fun _ hS => ?_
  refine sI hS (runs_move rfl) fun _ hS => ?_
  refine sY hS (runs_move rfl) fun _ hS => ?_
  refine sY hS (runs_len rfl und32) fun _ hS => ?_
  by_cases h40 : ((l.length : Nat) : Int) > 40
  · skip
    refine sY hS (gtrT rfl rfl (by omega)) fun _ hS => ?_
    refine sI hS (runs_pick rfl rfl) fun _ hS => ?_
    refine sI hS (runs_move rfl) fun _ hS => ?_
    refine sN hS fun _ hS => ?_
    refine sN hS fun _ hS => ?_
    refine sN hS fun _ hS => ?_
    refine sN hS fun _ hS => ?_
    refine sI hS (runs_pick rfl rfl) fun _ hS => ?_
    refine nil_ok (wp_cond_true (hS.eval rfl) (qx_seq (reg_seq ?_)))
    refine sI hS (runs_move rfl) fun _ hS => ?_
    refine seq_op hS (by decide) (runs_call (args := [.slice A l.length c]) goes9 rfl (awakes_any _ w3)) (fun v5 w5 a1 hp hS => ?_)
    obtain ⟨rfl, hB5⟩ := hp
    have hB := hB.trans (hB5.mono hB.size)
    have hM1 := hM1.below hB5 hM1.lt
    have hE := hEb.kept hB
    have hG := hGb.kept hB
    refine sI hS (runs_assign rfl) fun _ hS => ?_
    exact nil_ok (qx_ret (ret1 (t := 4) (by kernel_rfl) hS rfl ⟨_, rfl, rfl, hB⟩))
  refine sY hS (gtrF rfl rfl (by omega)) fun _ hS => ?_
  refine sI hS (runs_pick rfl rfl) fun _ hS => ?_
  refine sI hS (runs_move rfl) fun _ hS => ?_
  refine sY hS (runs_fieldK fo30_1 rfl) fun _ hS => ?_
  refine sY hS (runs_load rfl pl28 (hM1.at rfl)) fun _ hS => ?_
  refine sY hS (runs_len rfl und22) fun _ hS => ?_
  by_cases h100 : ((es.length : Nat) : Int) > 100
  · skip
    refine sY hS (gtrT rfl rfl (by omega)) fun _ hS => ?_
    refine sI hS (runs_pick rfl rfl) fun _ hS => ?_
    refine nil_ok (wp_cond_true (hS.eval rfl) (qx_seq (reg_seq ?_)))
    refine sI hS (runs_move rfl) fun _ hS => ?_
    refine seq_op hS (by decide) (runs_call (args := [.slice A l.length c]) goes9 rfl (awakes_any _ w3)) (fun v7 w7 a1 hp hS => ?_)
    obtain ⟨rfl, hB7⟩ := hp
    have hB := hB.trans (hB7.mono hB.size)
    have hM1 := hM1.below hB7 hM1.lt
    have hE := hEb.kept hB
    have hG := hGb.kept hB
    refine sI hS (runs_assign rfl) fun _ hS => ?_
    exact nil_ok (qx_ret (ret1 (t := 4) (by kernel_rfl) hS rfl ⟨_, rfl, rfl, hB⟩))
  refine sY hS (gtrF rfl rfl (by omega)) fun _ hS => ?_
  refine sI hS (runs_pick rfl rfl) fun _ hS => ?_
  refine nil_ok (wp_cond_false (hS.eval rfl) (wp_skip (qx_seq (reg_seq ?_))))
  refine sI hS (runs_assign rfl) fun _ hS => ?_
  refine nil_ok (qx_seq (qx_seq (reg_seq ?_)))
  refine sI hS (runs_loadRow rfl hM1 Try.underlying30 rfl (by rw [sz30]; rfl)) fun _ hS => ?_
  refine sI hS (runs_move rfl) fun _ hS => ?_
  refine seq_op hS (by decide) (runs_call (args := [gv n (.slice Ag es.length cg), .slice A l.length c]) goes18 rfl (rfcheck_any n es _ l (by omega) _ w3 hG hE)) (fun v9 w9 a1 hp hS => ?_)
  obtain ⟨rfl, hB9⟩ := hp
  have hB := hB.trans (hB9.mono hB.size)
  have hM1 := hM1.below hB9 hM1.lt
  have hE := hEb.kept hB
  have hG := hGb.kept hB
  refine nil_ok (?_)
  by_cases hs : sentB n es l = true
  · skip
    rw [hs] at hS
    refine wp_cond_true (hS.eval rfl) (reg_seq ?_)
    refine sI hS (runs_assign rfl) fun _ hS => ?_
    refine nil_ok (qx_seq (?_))
    have hBw := hB.size
    refine reg_guard (fun w' => Below w9.heap.size w9 w') [.inl (.pointer (some ⟨w.heap.size, 0 + 0, none⟩)), .inl (.int .i64 n), .inr (fun v w' => ∃ g, v = .slice (some ⟨g, 0, none⟩) 0 0 ∧ w'.ownsRow w.heap.size 54 3 v 0 []), .inl (.pointer (some ⟨w.heap.size, 0 + 1, none⟩)), .inl (.slice Ag es.length cg), .inr (fun v w' => (∃ g2 c2, v = .slice (some ⟨g2, 0, none⟩) es.length c2) ∧ w'.ownsRow w.heap.size 54 3 v es.length (cellsE es)), .inr (fun v w' => ∃ x, v = gv n x ∧ w'.ownsRow w.heap.size 54 3 x es.length (cellsE es)), .inl (.slice A l.length c), .inr (fun v w' => w'.ownsRow w.heap.size 41 3 v l.length (cellsE l)), .inl (.int .i64 0), .inl (.int .i64 0), .inl (.bool true), .inl (.bool true)] 13 0 mixed rfl (by kernel_rfl) hS (Below.refl _ _) (fun _ h => h.drew) ?_
    refine hs_is rfl (fun w' hw => runs_fieldK fo30_0 rfl) ?_
    refine hs_is rfl (fun w' hw => runs_load rfl pl3 ((hM1.below hw hM1.lt).at rfl)) ?_
    refine hs_pr rfl (fun _ _ _ h hb => by obtain ⟨g, h1, h2⟩ := h; exact ⟨g, h1, owns_kept h2 hb⟩) (fun w' hw hq => (none_own (B := w.heap.size) (Nat.le_trans hBw hw.size)).mono (by rintro v w3 ⟨h1, h3⟩; exact ⟨h1, hw.trans (h3.mono hw.size), h3⟩)) (fun u2 => ?_)
    refine hs_is rfl (fun w' hw => runs_fieldK fo30_1 rfl) ?_
    refine hs_is rfl (fun w' hw => runs_load rfl pl28 ((hM1.below hw hM1.lt).at rfl)) ?_
    refine hs_pr rfl (fun _ _ _ h hb => ⟨h.1, owns_kept h.2 hb⟩) (fun w' hw hq => (by obtain ⟨g, rfl, h0⟩ := hq (2, _) List.mem_cons_self (by kernel_rfl); exact (copy_own (hG.kept hw) (by omega) (Nat.le_trans hBw hw.size) rfl h0 rfl).mono (by rintro u w3 ⟨h1, h2, h3⟩; exact ⟨⟨h1, h2⟩, hw.trans (h3.mono hw.size), h3⟩))) (fun u5 => ?_)
    refine hs_pr rfl (fun _ _ _ h hb => by obtain ⟨x, h1, h2⟩ := h; exact ⟨x, h1, owns_kept h2 hb⟩) (fun w' hw hq => (by obtain ⟨⟨g2, c2, rfl⟩, h5⟩ := hq (5, _) List.mem_cons_self (by kernel_rfl); exact (runs_buildK (pv := [(0, .int .i64 n), (1, .slice (some ⟨g2, 0, none⟩) es.length c2)]) (cells := #[.int .i64 n, .slice (some ⟨g2, 0, none⟩) es.length c2]) rfl (by kernel_rfl)).mono (by rintro u w3 ⟨rfl, rfl⟩; exact ⟨⟨_, rfl, h5⟩, hw, Below.refl _ _⟩))) (fun u6 => ?_)
    refine hs_is rfl (fun w' hw => runs_move rfl) ?_
    refine hs_pr rfl (fun _ _ _ h hb => owns_kept h hb) (fun w' hw hq => (runs_call (args := [.slice A l.length c]) goes12 rfl (own_any l (by omega) _ w' (hE.kept hw))).mono (by rintro u w3 ⟨h1, h2⟩; exact ⟨owns_mono h2 (Nat.le_trans hBw hw.size), hw.trans (h1.mono hw.size), h1⟩)) (fun u8 => ?_)
    refine hs_val rfl (fun w' hw hq => (by have h8 := hq (8, _) List.mem_cons_self (by kernel_rfl); obtain ⟨x, rfl, h6⟩ := hq (6, _) (List.mem_cons_of_mem _ List.mem_cons_self) (by kernel_rfl); exact (runs_call (args := [gv n x, u8]) goes19 rfl (fcheck_any n es _ l (by omega) _ w' (edges_ownE h6 rfl) (edges_ownE h8 rfl))).mono (by rintro u w3 ⟨rfl, h1⟩; exact ⟨by rw [if_pos hs], hw.trans (h1.mono hw.size), h1⟩))) ?_
    refine hs_is rfl (fun w' hw => runs_move rfl) ?_
    refine hs_is rfl (fun w' hw => runs_eql (r := true) rfl rfl rfl) ?_
    refine hs_is rfl (fun w' hw => runs_assign rfl) ?_
    refine (fun a11 w11 hS hB11 hq => ?_)




    clear hq
    have hB := hB.trans (hB11.mono hB.size)
    have hM1 := hM1.below hB11 hM1.lt
    have hE := hEb.kept hB
    have hG := hGb.kept hB
    refine wpAnyH_done (by kernel_rfl) ?_ _
    exact qx_ret (ret1 (t := 4) (by kernel_rfl) hS rfl ⟨_, rfl, rfl, hB⟩)
  · skip
    rw [Bool.eq_false_iff.2 hs] at hS
    refine wp_cond_false (hS.eval rfl) (wp_skip (qx_seq (?_)))
    have hBw := hB.size
    refine reg_guard (fun w' => Below w9.heap.size w9 w') [.inl (.pointer (some ⟨w.heap.size, 0 + 0, none⟩)), .inl (.int .i64 n), .inr (fun v w' => ∃ g, v = .slice (some ⟨g, 0, none⟩) 0 0 ∧ w'.ownsRow w.heap.size 54 3 v 0 []), .inl (.pointer (some ⟨w.heap.size, 0 + 1, none⟩)), .inl (.slice Ag es.length cg), .inr (fun v w' => (∃ g2 c2, v = .slice (some ⟨g2, 0, none⟩) es.length c2) ∧ w'.ownsRow w.heap.size 54 3 v es.length (cellsE es)), .inr (fun v w' => ∃ x, v = gv n x ∧ w'.ownsRow w.heap.size 54 3 x es.length (cellsE es)), .inl (.slice A l.length c), .inr (fun v w' => w'.ownsRow w.heap.size 41 3 v l.length (cellsE l)), .inl (.int .i64 80), .inl (.int .i64 80), .inl (.bool true), .inl (.bool true)] 13 0 mixed rfl (by kernel_rfl) hS (Below.refl _ _) (fun _ h => h.drew) ?_
    refine hs_is rfl (fun w' hw => runs_fieldK fo30_0 rfl) ?_
    refine hs_is rfl (fun w' hw => runs_load rfl pl3 ((hM1.below hw hM1.lt).at rfl)) ?_
    refine hs_pr rfl (fun _ _ _ h hb => by obtain ⟨g, h1, h2⟩ := h; exact ⟨g, h1, owns_kept h2 hb⟩) (fun w' hw hq => (none_own (B := w.heap.size) (Nat.le_trans hBw hw.size)).mono (by rintro v w3 ⟨h1, h3⟩; exact ⟨h1, hw.trans (h3.mono hw.size), h3⟩)) (fun u2 => ?_)
    refine hs_is rfl (fun w' hw => runs_fieldK fo30_1 rfl) ?_
    refine hs_is rfl (fun w' hw => runs_load rfl pl28 ((hM1.below hw hM1.lt).at rfl)) ?_
    refine hs_pr rfl (fun _ _ _ h hb => ⟨h.1, owns_kept h.2 hb⟩) (fun w' hw hq => (by obtain ⟨g, rfl, h0⟩ := hq (2, _) List.mem_cons_self (by kernel_rfl); exact (copy_own (hG.kept hw) (by omega) (Nat.le_trans hBw hw.size) rfl h0 rfl).mono (by rintro u w3 ⟨h1, h2, h3⟩; exact ⟨⟨h1, h2⟩, hw.trans (h3.mono hw.size), h3⟩))) (fun u5 => ?_)
    refine hs_pr rfl (fun _ _ _ h hb => by obtain ⟨x, h1, h2⟩ := h; exact ⟨x, h1, owns_kept h2 hb⟩) (fun w' hw hq => (by obtain ⟨⟨g2, c2, rfl⟩, h5⟩ := hq (5, _) List.mem_cons_self (by kernel_rfl); exact (runs_buildK (pv := [(0, .int .i64 n), (1, .slice (some ⟨g2, 0, none⟩) es.length c2)]) (cells := #[.int .i64 n, .slice (some ⟨g2, 0, none⟩) es.length c2]) rfl (by kernel_rfl)).mono (by rintro u w3 ⟨rfl, rfl⟩; exact ⟨⟨_, rfl, h5⟩, hw, Below.refl _ _⟩))) (fun u6 => ?_)
    refine hs_is rfl (fun w' hw => runs_move rfl) ?_
    refine hs_pr rfl (fun _ _ _ h hb => owns_kept h hb) (fun w' hw hq => (runs_call (args := [.slice A l.length c]) goes12 rfl (own_any l (by omega) _ w' (hE.kept hw))).mono (by rintro u w3 ⟨h1, h2⟩; exact ⟨owns_mono h2 (Nat.le_trans hBw hw.size), hw.trans (h1.mono hw.size), h1⟩)) (fun u8 => ?_)
    refine hs_val rfl (fun w' hw hq => (by have h8 := hq (8, _) List.mem_cons_self (by kernel_rfl); obtain ⟨x, rfl, h6⟩ := hq (6, _) (List.mem_cons_of_mem _ List.mem_cons_self) (by kernel_rfl); exact (runs_call (args := [gv n x, u8]) goes19 rfl (fcheck_any n es _ l (by omega) _ w' (edges_ownE h6 rfl) (edges_ownE h8 rfl))).mono (by rintro u w3 ⟨rfl, h1⟩; exact ⟨by rw [if_neg hs], hw.trans (h1.mono hw.size), h1⟩))) ?_
    refine hs_is rfl (fun w' hw => runs_move rfl) ?_
    refine hs_is rfl (fun w' hw => runs_eql (r := true) rfl rfl rfl) ?_
    refine hs_is rfl (fun w' hw => runs_assign rfl) ?_
    refine (fun a13 w13 hS hB13 hq => ?_)




    clear hq
    have hB := hB.trans (hB13.mono hB.size)
    refine wpAnyH_done (by kernel_rfl) ?_ _
    exact qx_ret (ret1 (t := 4) (by kernel_rfl) hS rfl ⟨_, rfl, rfl, hB⟩)
end Go.Proofs.Ythenbmalnmaofaa
