/- The document's own Of: the contract. Conditions: at most 1000 bytes. -/
import Derived.Test.YtlldcicnakdjmaaDoorOf3
import Derived.Laws.BytesString
namespace Go.Proofs.YtlldcicnakdjmaaDoor
open Go.RowKit

theorem rem64 (y c : Nat) (d : Int) (hd : d = (c : Int)) : (y : Int).tmod d = ((y % c : Nat) : Int) := by
  subst hd
  rw [Int.tmod_eq_emod_of_nonneg (by omega)]; simp
theorem be4_step (l : List Nat) (i : Nat) (hi : i < l.length) : (l.take (i + 1)).flatMap Sha.be4 = (l.take i).flatMap Sha.be4 ++ Sha.be4 (l.getD i 0) := by
  rw [List.take_add_one, List.getElem?_eq_getElem hi, List.flatMap_append, List.getD_eq_getElem?_getD, List.getElem?_eq_getElem hi]
  simp
theorem be4_length (l : List Nat) : (l.flatMap Sha.be4).length = 4 * l.length := by
  induction l with
  | nil => rfl
  | cons x l ih => rw [List.flatMap_cons, List.length_append, ih]; simp [Sha.be4]; omega
set_option maxRecDepth 100000 in
set_option maxHeartbeats 1000000 in
theorem of_out (N R : Act → World → Prop) (X : Nat → Act → World → Prop) (l : List Nat) (hb : Nat) (v23 : Value) (V w : World) (a : Act) (hl : l.length = 8) (hlt : ∀ i, l.getD i 0 < 4294967296) (hne : v23 ≠ .slice none 0 0) (hhb : hb < V.heap.size)
    (hS : Sees 304 [(23, v23), (24, .int .i64 0), (7, .slice (some ⟨hb, 0, none⟩) 8 8)] a) (hh : Has V hb tyU64 (U64 l)) (hown : w.ownsRow V.heap.size tyByte 1 v23 0 []) (hB : Below V.heap.size V w)
    (h : ∀ a' w' v', v' ≠ .slice none 0 0 → Sees 304 [(23, v')] a' → w'.ownsRow V.heap.size tyByte 1 v' 32 (U8 (l.flatMap Sha.be4)) → Below V.heap.size V w' → N a' w') :
    (ofBlk 12).wp Tryd.prog (Qx N X R) a w := by
  refine qx_for (fun m a w => ∃ t v23, t ≤ 8 ∧ m = 8 - t ∧ v23 ≠ Value.slice none 0 0 ∧ Sees 304 [(23, v23), (24, .int .i64 (t : Int)), (7, .slice (some ⟨hb, 0, none⟩) 8 8)] a ∧ w.ownsRow V.heap.size tyByte 1 v23 (4 * t) (U8 ((l.take t).flatMap Sha.be4)) ∧ Below V.heap.size V w) 8 ⟨0, v23, by omega, rfl, hne, hS, hown, hB⟩ ?_
  rintro m a w ⟨t, v23, ht, rfl, hne, hS, hown, hB⟩
  refine reg_seq ?_
  refine seq_is hS (by decide) (runs_move rfl) (fun a1 hS => ?_)
  refine seq_is hS (by decide) (runs_lss rfl rfl rfl) (fun a1 hS => ?_)
  refine nil_ok ⟨_, hS.eval rfl, fun hf => ?_, fun htr => ?_⟩
  · have : t = 8 := by simp at hf; omega
    subst this
    rw [List.take_of_length_le (by omega)] at hown
    exact h a1 w v23 hne (hS.only _ ⟨rfl, trivial⟩) hown hB
  · have htt : t < 8 := by simp at htr; omega
    have hx := hlt t
    have cx : w.cell? ⟨hb, 0 + t, none⟩ = some (.int .u64 ((l.getD t 0 : Nat) : Int)) := by
      rw [Nat.zero_add, (hh.below hB hhb).cell]; exact U64_get (by omega)
    have hst := be4_step l t (by omega)
    generalize l.getD t 0 = x at *
    refine qx_seq (qx_block (reg_tail1 (Drawn w) 27 3 mixed rfl rfl (by decide) rfl (by omega) (by kernel_rfl) (by kernel_rfl) (by kernel_rfl) (by kernel_rfl) hS (Drawn.refl w) (fun _ h => h.drew) ?_))
    refine qs_skip rfl ?_
    refine qs_is rfl (fun w hw => runs_move rfl) ?_
    refine qs_is rfl (fun w hw => runs_move rfl) ?_
    refine qs_is rfl (fun w hw => runs_indexAddr (j := t) rfl rfl undU64s infU64 rfl (by omega)) ?_
    refine qs_is rfl (fun w hw => runs_load rfl rfl (hw.cell cx)) ?_
    refine qs_is rfl (fun w hw => runs_quo rfl rfl (by decide) (quo64 x 16777216 16777216 rfl hx)) ?_
    refine qs_is rfl (fun w hw => runs_convInt rfl rfl undByte (IntWalk.u8_in _ (by omega))) ?_
    refine qs_is rfl (fun w hw => runs_move rfl) ?_
    refine qs_is rfl (fun w hw => runs_move rfl) ?_
    refine qs_is rfl (fun w hw => runs_indexAddr (j := t) rfl rfl undU64s infU64 rfl (by omega)) ?_
    refine qs_is rfl (fun w hw => runs_load rfl rfl (hw.cell cx)) ?_
    refine qs_is rfl (fun w hw => runs_quo rfl rfl (by decide) (quo64 x 65536 65536 rfl hx)) ?_
    refine qs_is rfl (fun w hw => runs_rem rfl rfl (by decide) (rem64 (x / 65536) 256 256 rfl)) ?_
    refine qs_is rfl (fun w hw => runs_convInt rfl rfl undByte (IntWalk.u8_in _ (by omega))) ?_
    refine qs_is rfl (fun w hw => runs_move rfl) ?_
    refine qs_is rfl (fun w hw => runs_move rfl) ?_
    refine qs_is rfl (fun w hw => runs_indexAddr (j := t) rfl rfl undU64s infU64 rfl (by omega)) ?_
    refine qs_is rfl (fun w hw => runs_load rfl rfl (hw.cell cx)) ?_
    refine qs_is rfl (fun w hw => runs_quo rfl rfl (by decide) (quo64 x 256 256 rfl hx)) ?_
    refine qs_is rfl (fun w hw => runs_rem rfl rfl (by decide) (rem64 (x / 256) 256 256 rfl)) ?_
    refine qs_is rfl (fun w hw => runs_convInt rfl rfl undByte (IntWalk.u8_in _ (by omega))) ?_
    refine qs_is rfl (fun w hw => runs_move rfl) ?_
    refine qs_is rfl (fun w hw => runs_move rfl) ?_
    refine qs_is rfl (fun w hw => runs_indexAddr (j := t) rfl rfl undU64s infU64 rfl (by omega)) ?_
    refine qs_is rfl (fun w hw => runs_load rfl rfl (hw.cell cx)) ?_
    refine qs_is rfl (fun w hw => runs_rem rfl rfl (by decide) (rem64 x 256 256 rfl)) ?_
    refine qs_is rfl (fun w hw => runs_convInt rfl rfl undByte (IntWalk.u8_in _ (by omega))) ?_
    refine (fun a5 w5 hS5 hw5 => ?_)
    obtain ⟨i0, hi, hz0, hzs, hzb⟩ := info_parts info5b
    refine tail_op 27 (by kernel_rfl) rfl hS5 (by decide) (runs_buildSlice (pv := [(0, .int .u8 ((x / 16777216 : Nat) : Int)), (1, .int .u8 ((x / 65536 % 256 : Nat) : Int)), (2, .int .u8 ((x / 256 % 256 : Nat) : Int)), (3, .int .u8 ((x % 256 : Nat) : Int))]) rfl undBytes hi hz0 hzs (by omega) (by omega) (cells := (U8 (Sha.be4 x)).toArray) (by kernel_rfl)) (fun v w6 a6 hp hS6 => ⟨trivial, ?_⟩)
    obtain ⟨rfl, rfl⟩ := hp
    have hB5 : Below V.heap.size V (w5.alloc (.cells (U8 (Sha.be4 x)).toArray tyByte)) := (hB.trans ((hw5.below _).mono (Nat.le_refl _))).alloc (by have := hw5.size; have := hB.size; omega) _
    refine tail_op 28 (by kernel_rfl) rfl hS6 (by decide) (runs_append undBytes hi hz0 hzs hzb rfl rfl (World.ownsRow.alloc (w := w5) (hw5.owns hown) _) rfl rfl (news := U8 (Sha.be4 x)) (fun j u hj => by rw [add_zero_addr, Nat.zero_add, (Has.new w5 tyByte (U8 (Sha.be4 x))).cell]; exact hj) (U8_one _) (by unfold maxLen; omega) (by omega) (by have := hB5.size; omega) (by omega)) (fun v' w7 a7 hp hS7 => ⟨trivial, ?_⟩)
    obtain ⟨hown7, hgr7, hne7⟩ := hp
    refine tail_op 29 (by kernel_rfl) rfl hS7 (by decide) (runs_assign rfl) (fun v w8 a8 hp hS8 => ⟨trivial, ?_⟩)
    obtain ⟨rfl, rfl⟩ := hp
    refine wpAnyH_done (by kernel_rfl) ?_ _
    rw [← U8_append, ← hst, show 4 * t + 4 = 4 * (t + 1) by omega] at hown7
    have hB7 := below_grown hB5 hgr7 (fun g hg => (hown.lt g hg).1) (by have := hB5.size; omega)
    refine reg_seq ?_
    refine seq_is hS8 (by decide) (runs_move rfl) (fun a1 hS => ?_)
    refine seq_is hS (by decide) (runs_add rfl rfl ((IntWalk.i64_in _ (by omega)).trans (show (t : Int) + 1 = ((t + 1 : Nat) : Int) by omega))) (fun a1 hS => ?_)
    refine seq_is hS (by decide) (runs_assign rfl) (fun a1 hS => ?_)
    exact nil_ok ⟨8 - (t + 1), by omega, t + 1, _, by omega, rfl, hne7, hS.only _ ⟨rfl, rfl, rfl, trivial⟩, hown7, hB7⟩
end Go.Proofs.YtlldcicnakdjmaaDoor
