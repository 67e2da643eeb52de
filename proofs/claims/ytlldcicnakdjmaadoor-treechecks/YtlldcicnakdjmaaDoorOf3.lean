/- The document's own Of: all blocks, one behind another. Conditions: at most 2000 bytes, a multiple of 64. -/
import Derived.Test.YtlldcicnakdjmaaDoorOf4
namespace Go.Proofs.YtlldcicnakdjmaaDoor
open Go.RowKit

theorem range_lt {w : World} {b o : Nat} {v : Value} {cs : List Value} (h : w.rangeAt b o (v :: cs)) : b < w.heap.size := by
  have h0 := h 0 v rfl
  apply Classical.byContradiction
  intro hge
  have : w.heap[b]? = none := Array.getElem?_eq_none (by omega)
  simp [World.cell?, this] at h0
set_option maxRecDepth 100000 in
set_option maxHeartbeats 1000000 in
theorem of_blocks (N R : Act → World → Prop) (X : Nat → Act → World → Prop) (M : List Nat) (nb g2 gk hb ml cap2 : Nat) (V : World) (a : Act) (hml : M.length = ml) (hnb : ml = 64 * nb) (hmc : ml ≤ cap2) (hml2 : ml ≤ 2000) (hby : Sha.Bytes M)
    (hg2 : g2 < V.heap.size) (hg2h : g2 ≠ hb) (hgk : gk < V.heap.size) (hgkh : gk ≠ hb) (hS : Sees 304 [(8, .int .i64 0), (3, .slice (some ⟨g2, 0, none⟩) ml cap2), (6, .slice (some ⟨gk, 0, none⟩) 64 64), (7, .slice (some ⟨hb, 0, none⟩) 8 8)] a)
    (hM : V.rangeAt g2 0 (U8 M)) (hK : V.rangeAt gk 0 (U64 Sha.K)) (hh : Has V hb tyU64 (U64 Sha.init.list))
    (h : ∀ a' w', V.grownBy w' (some hb) → Sees 304 [(7, .slice (some ⟨hb, 0, none⟩) 8 8)] a' → Has w' hb tyU64 (U64 (Sha.run nb Sha.init M).list) → N a' w') :
    (ofBlk 4).wp Tryd.prog (Qx N X R) a V := by
  have hhV := hh.lt
  refine qx_for (fun m a w => ∃ n, n ≤ nb ∧ m = nb - n ∧ Sees 304 [(8, .int .i64 ((64 * n : Nat) : Int)), (3, .slice (some ⟨g2, 0, none⟩) ml cap2), (6, .slice (some ⟨gk, 0, none⟩) 64 64), (7, .slice (some ⟨hb, 0, none⟩) 8 8)] a ∧ V.grownBy w (some hb) ∧ Has w hb tyU64 (U64 (Sha.run n Sha.init M).list)) nb ⟨0, by omega, rfl, hS, grown_below (Below.refl _ _) _, hh⟩ ?_
  rintro m a w ⟨n, hn, rfl, hS, hG, hh⟩
  refine reg_seq ?_
  refine seq_is hS (by decide) (runs_move rfl) (fun a1 hS => ?_)
  refine seq_is hS (by decide) (runs_move rfl) (fun a1 hS => ?_)
  refine seq_is hS (by decide) (runs_len rfl undBytes) (fun a1 hS => ?_)
  refine seq_is hS (by decide) (runs_lss rfl rfl rfl) (fun a1 hS => ?_)
  refine nil_ok ⟨_, hS.eval rfl, fun hf => ?_, fun htr => ?_⟩
  · have : n = nb := by simp at hf; omega
    subst this
    exact h a1 w hG (hS.only _ ⟨rfl, trivial⟩) hh
  · have hnn : n < nb := by simp at htr; omega
    have hGs := hG.size
    have hsok : (Sha.run n Sha.init M).Ok := Sha.run_ok n Sha.init_ok
    generalize hsn : Sha.run n Sha.init M = s at *
    refine qx_seq (qx_block (qx_seq (reg_seq ?_)))
    obtain ⟨i0, hi, hz0, hzs, hzb⟩ := info_parts infU64b
    refine seq_op hS (by decide) (runs_buildNone undU64s hi) (fun v w1 a1 hp hS => ?_)
    obtain ⟨rfl, rfl⟩ := hp
    refine seq_is hS (by decide) (runs_assign rfl) (fun a1 hS => ?_)
    refine nil_ok (qx_seq (qx_seq (reg_seq ?_)))
    refine seq_is hS (by decide) (runs_assign rfl) (fun a1 hS => ?_)
    refine nil_ok ?_
    refine of_sched _ _ _ M (64 * n) g2 ml cap2 (.slice (some ⟨gk, 0, none⟩) 64 64) (.slice (some ⟨hb, 0, none⟩) 8 8) _ w _ a1 (by omega) hml hmc hml2 hby (by omega) (by simp) (hS.only _ ⟨rfl, rfl, rfl, rfl, rfl, rfl, trivial⟩) (range_grown hM hG hg2h hg2) (World.ownsRow_made w #[] 0 (Nat.le_refl _) (by unfold maxLen; omega) rfl) ((Below.refl _ _).alloc (Nat.le_refl _) _) ?_
    intro a4 w4 g9 c9 hS4 hg9b hg9 hra hB4
    have hh4 : Has w4 hb tyU64 (U64 s.list) := hh.below hB4 hh.lt
    have hB4s := hB4.size
    refine qx_seq (reg_seq ?_)
    refine seq_op hS4 (by decide) (runs_buildNone undU64s hi) (fun v w1 a1 hp hS => ?_)
    obtain ⟨rfl, rfl⟩ := hp
    refine seq_is hS (by decide) (runs_move rfl) (fun a1 hS => ?_)
    have hhl := hh.lt
    refine seq_op hS (by decide) (runs_append undU64s hi hz0 hzs hzb rfl rfl (World.ownsRow_made (base := w4.heap.size) w4 #[] 0 (Nat.le_refl _) (by unfold maxLen; omega) rfl) rfl (by rfl) (news := U64 s.list) (fun j u hj => by rw [add_zero_addr, Nat.zero_add, (hh4.alloc _).cell]; exact hj) (U64_one _) (by unfold maxLen; omega) (by omega) (by simp) (by omega)) (fun v' w5 a5 hp hS => ?_)
    obtain ⟨hown5, hgr5, hne5⟩ := hp
    rw [List.nil_append] at hown5
    have hB5 : Below w4.heap.size w4 w5 := below_grown ((Below.refl _ _).alloc (Nat.le_refl _) _) hgr5 (fun g hg => Nat.le_of_eq (by simpa [Value.ownBlock] using hg)) (by simp)
    obtain ⟨gv, cv, rfl, hgvb, hgv, hcv, hcvm, hrv⟩ := own_form hown5 hne5
    refine seq_is hS (by decide) (runs_assign rfl) (fun a1 hS => ?_)
    refine nil_ok (qx_seq (qx_seq (reg_seq ?_)))
    refine seq_is hS (by decide) (runs_assign rfl) (fun a1 hS => ?_)
    refine nil_ok ?_
    have hB5s := hB5.size
    have hgV4 : V.grownBy w4 (some hb) := grown_trans' hG (grown_below hB4 _) hh.lt
    have hgV5 : V.grownBy w5 (some hb) := grown_trans' hgV4 (grown_below hB5 _) hh4.lt
    refine of_rounds _ _ _ s (Sha.sched ((M.drop (64 * n)).take 64) 64) hb gk g9 gv c9 cv (.slice (some ⟨g2, 0, none⟩) ml cap2) (.slice (some ⟨hb, 0, none⟩) 8 8) (.int .i64 ((64 * n : Nat) : Int)) w5 a1 hsok (Sha.sched_length _ _) (fun i => Sha.sched_lt (block_bytes hby _) 64 i) hcv (by omega) (by omega) (hS.only _ ⟨rfl, rfl, rfl, rfl, rfl, rfl, rfl, trivial⟩) (by omega) (by omega) (range_grown hK hgV5 hgkh hgk) (range_below hra hB5 hg9) hrv ?_
    intro a6 w6 gv' cv' hB6 hcv6 hne6 hS6 hr6
    have hB6s := hB6.size
    have hh5 : Has w5 hb tyU64 (U64 s.list) := hh4.below hB5 hh4.lt
    have hh6 : Has w6 hb tyU64 (U64 s.list) := hh5.below hB6 hh5.lt
    have hgV6 : V.grownBy w6 (some hb) := grown_trans' hgV5 (grown_below hB6 _) hh5.lt
    refine qx_seq (reg_seq ?_)
    refine seq_is hS6 (by decide) (runs_assign rfl) (fun a1 hS => ?_)
    refine nil_ok ?_
    refine of_plus _ _ _ s (Sha.rounds (Sha.sched ((M.drop (64 * n)).take 64) 64) 64 s) hb gv' cv' (.slice (some ⟨g2, 0, none⟩) ml cap2) (.slice (some ⟨gk, 0, none⟩) 64 64) (.int .i64 ((64 * n : Nat) : Int)) w6 a1 hsok (Sha.rounds_ok hsok _) hcv6 hne6 (range_lt hr6) (hS.only _ ⟨rfl, rfl, rfl, rfl, rfl, rfl, trivial⟩) hh6 hr6 ?_
    intro a7 w7 hG7 hS7 hh7
    refine reg_seq ?_
    refine seq_is hS7 (by decide) (runs_move rfl) (fun a1 hS => ?_)
    refine seq_is hS (by decide) (runs_add rfl rfl ((IntWalk.i64_in _ (by omega)).trans (show ((64 * n : Nat) : Int) + 64 = ((64 * (n + 1) : Nat) : Int) by omega))) (fun a1 hS => ?_)
    refine seq_is hS (by decide) (runs_assign rfl) (fun a1 hS => ?_)
    refine nil_ok ⟨nb - (n + 1), by omega, n + 1, by omega, rfl, hS.only _ ⟨rfl, rfl, rfl, rfl, trivial⟩, grown_trans' hgV6 hG7 hh6.lt, ?_⟩
    rw [Sha.run_succ, hsn]
    exact hh7
end Go.Proofs.YtlldcicnakdjmaaDoor
