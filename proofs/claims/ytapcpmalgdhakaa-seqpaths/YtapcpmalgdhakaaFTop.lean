/- Layer 8: Sort, To, From. Conditions: none of our own. -/
import Derived.Test.YtapcpmalgdhakaaFSort
namespace Go.Proofs.Ytapcpmalgdhakaa
open Go.RowKit
set_option maxRecDepth 100000

set_option maxHeartbeats 1000000 in
theorem ordered_any (es : List E) (hsm : es.length ≤ 10000) (B : Nat) (v : Value) (w : World) (hown : w.ownsRow B 48 3 v es.length (cellsE es)) : Ans 43 [v] w (fun u w' => Below B w w' ∧ EdgesB B w' u (sortM es)) := by
  refine calls_qx (args := [v]) 6 Try.func43 rfl (by kernel_rfl) (by simp) (fun a hS => ?_)
  refine qx_seq (reg_seq ?_)
  refine sI hS (runs_assign rfl) fun _ hS => ?_
  refine nil_ok (qx_seq (reg_seq ?_))
  refine sI hS (runs_move rfl) fun _ hS => ?_
  refine seq_op hS (by decide) (runs_call (args := [v, .func (.func 55) #[] #[]]) goes54 rfl (sort_any8 es hsm B v w hown)) (fun v1 w1 a1 hp hS => ?_)
  obtain ⟨hBs, hEs⟩ := hp
  refine nil_ok (qx_seq (reg_seq ?_))
  refine sI hS (runs_move rfl) fun _ hS => ?_
  refine sI hS (runs_assign rfl) fun _ hS => ?_
  exact nil_ok (qx_ret (ret1 (t := 2) (by kernel_rfl) hS rfl ⟨_, rfl, hBs, hEs⟩))
set_option maxHeartbeats 1000000 in
theorem msort_any (es : List E) (hsm : es.length ≤ 10000) (v : Value) (w : World) (hE : Edges w v es) : Ans 30 [v] w (fun u w' => Below w.heap.size w w' ∧ EdgesB w.heap.size w' u (sortM es)) := by
  refine calls_qx (args := [v]) 6 Try.func30 rfl (by kernel_rfl) (by simp) (fun a hS => ?_)
  have hB := Below.refl w.heap.size w
  refine qx_seq (reg_seq ?_)
  refine sI hS (runs_assign rfl) fun _ hS => ?_
  refine nil_ok (qx_seq (reg_seq ?_))
  refine sI hS (runs_move rfl) fun _ hS => ?_
  refine seq_op hS (by decide) (runs_call (args := [v, .func (.func 45) #[] #[]]) goes44 rfl (picked_any8 es hsm v 45 goes45 [] (fun _ => true) w hE (fun e w1 hw1 => sort1_any e w1))) (fun v1 w1 a1 hp hS => ?_)
  obtain ⟨hB1, hown⟩ := hp
  have hown := owns_mono hown hB.size
  have hB := hB.trans (hB1.mono hB.size)
  refine seq_op hS (by decide) (runs_call (args := [v1]) goes43 rfl (ordered_any (es.filter fun _ => true) (Nat.le_trans (List.length_filter_le _ _) hsm) w.heap.size v1 w1 hown)) (fun v3 w3 a1 hp hS => ?_)
  obtain ⟨hBs, hEs⟩ := hp
  rw [filter_tt] at hEs
  refine sI hS (runs_assign rfl) fun _ hS => ?_
  exact nil_ok (qx_ret (ret1 (t := 2) (by kernel_rfl) hS rfl ⟨_, rfl, hB.trans hBs, hEs⟩))
set_option maxHeartbeats 1000000 in
theorem to_any (es : List E) (hsm : es.length ≤ 10000) (x : Int) (v : Value) (w : World) (hE : Edges w v es) : Ans 40 [v, .int .i64 x] w (fun u w' => Below w.heap.size w w' ∧ EdgesB w.heap.size w' u (toL es x)) := by
  refine calls_qx (args := [v, .int .i64 x]) 9 Try.func40 rfl (by kernel_rfl) (by simp) (fun a hS => ?_)
  have hB := Below.refl w.heap.size w
  have hEb := hE
  refine qx_seq (reg_seq ?_)
  refine seq_op hS (by decide) (runs_boxB (cs := [.int .i64 x]) rfl rfl) (fun v1 w1 a1 hp hS => ?_)
  obtain ⟨rfl, hM1, hB1⟩ := hp
  have hB := hB.trans (hB1.mono hB.size)
  have hE := hEb.kept hB
  refine sI hS (runs_assign rfl) fun _ hS => ?_
  refine nil_ok (qx_seq (reg_seq ?_))
  refine sI hS (runs_move rfl) fun _ hS => ?_
  refine sI hS (runs_makeFunc (cs := [.pointer (some ⟨w.heap.size, 0, none⟩)]) rfl) fun _ hS => ?_
  refine seq_op hS (by decide) (runs_call (args := [v, .func (.func 52) #[] #[.pointer (some ⟨w.heap.size, 0, none⟩)]]) goes44 rfl (picked_any8 es hsm v 52 goes52 [.pointer (some ⟨w.heap.size, 0, none⟩)] (fun e => e.2.1 == x) w1 hE (fun e w1 hw1 => to1_any e x _ w1 (hM1.below hw1 hM1.lt)))) (fun v3 w3 a1 hp hS => ?_)
  obtain ⟨hB3, hown⟩ := hp
  have hown := owns_mono hown hB.size
  have hB := hB.trans (hB3.mono hB.size)
  refine seq_op hS (by decide) (runs_call (args := [v3]) goes43 rfl (ordered_any (es.filter fun e => e.2.1 == x) (Nat.le_trans (List.length_filter_le _ _) hsm) w.heap.size v3 w3 hown)) (fun v5 w5 a1 hp hS => ?_)
  obtain ⟨hBs, hEs⟩ := hp
  refine sI hS (runs_assign rfl) fun _ hS => ?_
  exact nil_ok (qx_ret (ret1 (t := 4) (by kernel_rfl) hS rfl ⟨_, rfl, hB.trans hBs, hEs⟩))
end Go.Proofs.Ytapcpmalgdhakaa
