/- Layer 7: what the chapter's example fixes; messages compared; a graph of one's own memory. Conditions: none of our own. -/
import Derived.Test.YtapcpmalgdhakaaSStep
namespace Go.Proofs.Ytapcpmalgdhakaa
open Go.RowKit
set_option maxRecDepth 100000

theorem goes13 : Goes Try.prog 13 := goes_of Try.func13 (by kernel_rfl) rfl
set_option maxHeartbeats 1000000 in
theorem ownR_any (n : Int) (es : List E) (hsm : es.length ≤ 1000) (v : Value) (w : World) (hE : Edges w v es) : Ans 13 [gv n v] w (fun u w' => Below w.heap.size w w' ∧ ∃ x, u = gv n x ∧ w'.ownsRow w.heap.size 45 3 x es.length (cellsE es)) := by
  obtain ⟨A, c, rfl, h1, h2, hA⟩ := hE
  have hE : Edges w (.slice A es.length c) es := ⟨A, c, rfl, h1, h2, hA⟩
  refine calls_qx (args := [gv n (.slice A es.length c)]) 10 Try.func13 rfl (by kernel_rfl) (by simp) (fun a hS => ?_)
  have hB := Below.refl w.heap.size w
  have hEb := hE
  refine qx_seq (reg_seq ?_)
  refine seq_op hS (by decide) (runs_boxB (cs := [.int .i64 n, .slice A es.length c]) rfl rfl) (fun v1 w1 a1 hp hS => ?_)
  obtain ⟨rfl, hM1, hB1⟩ := hp
  have hB := hB.trans (hB1.mono hB.size)
  have hE := hEb.kept hB
  refine seq_op hS (by decide) (runs_allocB (cs := [.int .i64 0, .slice none 0 0]) zo24 rfl) (fun v3 w3 a1 hp hS => ?_)
  obtain ⟨rfl, hM3, hB3⟩ := hp
  have hLhM3 : w.heap.size ≤ w1.heap.size := hB.size
  have hB := hB.trans (hB3.mono hB.size)
  have hM1 := hM1.below hB3 hM1.lt
  have hE := hEb.kept hB
  have hBw := hB.size
  refine nil_ok (qx_seq (reg_guard (fun w' => Below w3.heap.size w3 w') [.inl (.pointer (some ⟨w.heap.size, 0 + 0, none⟩)), .inl (.int .i64 n), .inr (fun v w' => ∃ g, v = .slice (some ⟨g, 0, none⟩) 0 0 ∧ w'.ownsRow w.heap.size 45 3 v 0 []), .inl (.pointer (some ⟨w.heap.size, 0 + 1, none⟩)), .inl (.slice A es.length c), .inr (fun v w' => (∃ g2 c2, v = .slice (some ⟨g2, 0, none⟩) es.length c2) ∧ w'.ownsRow w.heap.size 45 3 v es.length (cellsE es))] 6 2 mixed rfl (by kernel_rfl) hS (Below.refl _ _) (fun _ h => h.drew) ?_))
  refine hs_is rfl (fun w' hw => runs_fieldK fo24_0 rfl) ?_
  refine hs_is rfl (fun w' hw => runs_load rfl pl3 ((hM1.below hw hM1.lt).at rfl)) ?_
  refine hs_pr rfl (fun _ _ _ h hb => by obtain ⟨g, h1, h2⟩ := h; exact ⟨g, h1, owns_kept h2 hb⟩) (fun w' hw hq => (none_own (Nat.le_trans hBw hw.size)).mono (by rintro v w3 ⟨h1, h3⟩; exact ⟨h1, hw.trans (h3.mono hw.size), h3⟩)) (fun v2 => ?_)
  refine hs_is rfl (fun w' hw => runs_fieldK fo24_1 rfl) ?_
  refine hs_is rfl (fun w' hw => runs_load rfl pl22 ((hM1.below hw hM1.lt).at rfl)) ?_
  refine hs_pr rfl (fun _ _ _ h hb => ⟨h.1, owns_kept h.2 hb⟩) (fun w' hw hq => (by obtain ⟨g, rfl, h0⟩ := hq (2, _) List.mem_cons_self (by kernel_rfl); exact (copy_own (hE.kept hw) hsm (Nat.le_trans hBw hw.size) rfl h0 rfl).mono (by rintro u w3 ⟨h1, h2, h3⟩; exact ⟨⟨h1, h2⟩, hw.trans (h3.mono hw.size), h3⟩))) (fun v5 => ?_)
  refine (fun a5 w5 hS hB5 hq => ?_)

  obtain ⟨⟨g2, c2, rfl⟩, hown⟩ := (hq (5, _) List.mem_cons_self)
  clear hq
  have hB := hB.trans (hB5.mono hB.size)
  have hM3 := hM3.below hB5 hM3.lt
  refine tail_op 6 (by kernel_rfl) rfl hS (by decide) (runs_buildK (pv := [(0, .int .i64 n), (1, .slice (some ⟨g2, 0, none⟩) es.length c2)]) (cells := #[.int .i64 n, .slice (some ⟨g2, 0, none⟩) es.length c2]) rfl (by kernel_rfl)) (fun v7 w7 a7 hp hS => ⟨trivial, ?_⟩)
  obtain ⟨rfl, rfl⟩ := hp
  refine tail_none 7 (by kernel_rfl) rfl hS (runs_storeB (cs := [.int .i64 n, .slice (some ⟨g2, 0, none⟩) es.length c2]) rfl rfl hM3 rfl rfl sz24) (fun v8 w8 a8 hp hS => ⟨trivial, ?_⟩)
  have hQ8 := hM3
  obtain ⟨hM3, hU8⟩ := hp
  have hB := But.new hB hU8 (fun i e => by rw [e]; exact hLhM3) (Nat.le_refl _)
  have hown := owns_but hown hU8 (fun i old ho e => by subst e; exact has_ne ho hQ8 (by decide) rfl)
  refine wpAnyH_done (by kernel_rfl) ?_ _
  exact qx_ret (retG1 (p := 2) (by kernel_rfl) hS rfl hM3 ⟨_, rfl, hB, _, rfl, hown⟩)
theorem edges_hasE {w : World} {g : Nat} {t : TypeId} {es : List E} (h : Has w g t (cellsE es)) (hc : es.length ≤ maxLen) : Edges w (.slice (some ⟨g, 0, none⟩) es.length es.length) es :=
  ⟨_, _, rfl, Nat.le_refl _, hc, fun _ => ⟨g, 0, rfl, h.lt, fun j v hv => by rw [Nat.zero_add, h.cell]; exact hv⟩⟩
theorem step_is {n : Int} {es : List E} {v : Value} {tg : ByteArray} {src steps at_ : Int} {x y : Vx} {l : List E} {e : Int} (w : World) (hE : Edges w v es) (h : stepL n es (kindL tg.data.toList) src steps at_ x = (y, l, e)) :
    Ans 27 [gv n v, jv tg src steps, .int .i64 at_, vv x] w (fun u w' => Below w.heap.size w w' ∧ ∃ sv, u = .tuple #[vv y, sv, .int .i64 e] ∧ w'.ownsRow w.heap.size 48 3 sv l.length (cellsE l)) := by
  have := step_any n es v tg src steps at_ x w hE
  rw [h] at this
  exact this
end Go.Proofs.Ytapcpmalgdhakaa
