/- The document's own Of: the 64 rounds of a block, and the sum behind them. Conditions: the numbers have 32 bits. -/
import Derived.Test.YtlldcicnakdjmaaDoorOf5
import Derived.Test.YtlldcicnakdjmaaDoorEngS
namespace Go.Proofs.YtlldcicnakdjmaaDoor
open Go.RowKit

set_option maxRecDepth 100000 in
set_option maxHeartbeats 1000000 in
theorem of_rounds (N R : Act → World → Prop) (X : Nat → Act → World → Prop) (s : Sha.St) (ws : List Nat) (hb gk gw gv cw cv : Nat) (B s7 s8 : Value) (V : World) (a : Act) (hs : s.Ok) (hwl : ws.length = 64) (hwb : ∀ i, ws.getD i 0 < 4294967296) (hcv : 8 ≤ cv) (hne : gv ≠ hb) (hhb : hb < V.heap.size)
    (hS : Sees 304 [(14, .slice (some ⟨gv, 0, none⟩) 8 cv), (15, .int .i64 0), (9, .slice (some ⟨gw, 0, none⟩) 64 cw), (6, .slice (some ⟨gk, 0, none⟩) 64 64), (3, B), (7, s7), (8, s8)] a)
    (hgk : gk < V.heap.size) (hgw : gw < V.heap.size) (hk : V.rangeAt gk 0 (U64 Sha.K)) (hw : V.rangeAt gw 0 (U64 ws)) (hv : V.rangeAt gv 0 (U64 s.list))
    (h : ∀ a' w' gv' cv', Below V.heap.size V w' → 8 ≤ cv' → gv' ≠ hb → Sees 304 [(14, .slice (some ⟨gv', 0, none⟩) 8 cv'), (6, .slice (some ⟨gk, 0, none⟩) 64 64), (3, B), (7, s7), (8, s8)] a' → w'.rangeAt gv' 0 (U64 (Sha.rounds ws 64 s).list) → N a' w') :
    (ofBlk 8).wp Tryd.prog (Qx N X R) a V := by
  refine qx_for (fun m a w => ∃ t gv cv, t ≤ 64 ∧ m = 64 - t ∧ 8 ≤ cv ∧ gv ≠ hb ∧ Sees 304 [(14, .slice (some ⟨gv, 0, none⟩) 8 cv), (15, .int .i64 (t : Int)), (9, .slice (some ⟨gw, 0, none⟩) 64 cw), (6, .slice (some ⟨gk, 0, none⟩) 64 64), (3, B), (7, s7), (8, s8)] a ∧ Below V.heap.size V w ∧ w.rangeAt gv 0 (U64 (Sha.rounds ws t s).list)) 64 ⟨0, gv, cv, by omega, rfl, hcv, hne, hS, Below.refl _ _, hv⟩ ?_
  rintro m a w ⟨t, gv, cv, ht, rfl, hcv, hne, hS, hB, hv⟩
  refine reg_seq ?_
  refine seq_is hS (by decide) (runs_move rfl) (fun a1 hS => ?_)
  refine seq_is hS (by decide) (runs_lss rfl rfl rfl) (fun a1 hS => ?_)
  refine nil_ok ⟨_, hS.eval rfl, fun hf => ?_, fun htr => ?_⟩
  · have : t = 64 := by simp at hf; omega
    subst this
    exact h a1 w gv cv hB hcv hne (hS.only _ ⟨rfl, rfl, rfl, rfl, rfl, trivial⟩) hv
  · have htt : t < 64 := by simp at htr; omega
    refine qx_seq (of_round _ _ _ (Sha.rounds ws t s) t (Sha.K.getD t 0) (ws.getD t 0) gk gw gv cw cv B s7 s8 w w a1 (Sha.rounds_ok hs t) htt (K_lt t) (hwb t) hcv (hS.only _ ⟨rfl, rfl, rfl, rfl, rfl, rfl, rfl, trivial⟩) (Drawn.refl w) hv ?_ ?_ (fun a2 w1 hd hS => ?_))
    · have := range_below hk hB hgk t _ (U64_get (show t < Sha.K.length from htt))
      rwa [Nat.zero_add] at this
    · have := range_below hw hB hgw t _ (U64_get (show t < ws.length by omega))
      rwa [Nat.zero_add] at this
    · refine reg_seq ?_
      refine seq_is hS (by decide) (runs_move rfl) (fun a1 hS => ?_)
      refine seq_is hS (by decide) (runs_add rfl rfl ((IntWalk.i64_in _ (by omega)).trans (show (t : Int) + 1 = ((t + 1 : Nat) : Int) by omega))) (fun a1 hS => ?_)
      refine seq_is hS (by decide) (runs_assign rfl) (fun a1 hS => ?_)
      have hsz := hd.size
      have hVs := hB.size
      refine nil_ok ⟨64 - (t + 1), by omega, t + 1, w1.heap.size, 8, by omega, rfl, by omega, by omega, hS.only _ ⟨rfl, rfl, rfl, rfl, rfl, rfl, rfl, trivial⟩, (hB.trans ((hd.below _).mono (Nat.le_refl _))).alloc (by omega) _, ?_⟩
      have := (Has.new w1 tyU64 (U64 (Sha.rounds ws (t + 1) s).list)).range 0 8
      exact this
def pl (s r : Sha.St) (i : Nat) : List Nat := [if 0 < i then (s.a + r.a) % 4294967296 else s.a, if 1 < i then (s.b + r.b) % 4294967296 else s.b, if 2 < i then (s.c + r.c) % 4294967296 else s.c, if 3 < i then (s.d + r.d) % 4294967296 else s.d, if 4 < i then (s.e + r.e) % 4294967296 else s.e, if 5 < i then (s.f + r.f) % 4294967296 else s.f, if 6 < i then (s.g + r.g) % 4294967296 else s.g, if 7 < i then (s.h + r.h) % 4294967296 else s.h]
theorem pl_step (s r : Sha.St) (hs : s.Ok) (hr : r.Ok) (i : Nat) (hi : i < 8) : ∃ x y, (pl s r i)[i]? = some x ∧ r.list[i]? = some y ∧ x < 4294967296 ∧ y < 4294967296 ∧ (pl s r i).set i ((x + y) % 4294967296) = pl s r (i + 1) := by
  have h : i = 0 ∨ i = 1 ∨ i = 2 ∨ i = 3 ∨ i = 4 ∨ i = 5 ∨ i = 6 ∨ i = 7 := by omega
  rcases h with rfl | rfl | rfl | rfl | rfl | rfl | rfl | rfl
  · exact ⟨_, _, rfl, rfl, hs.a, hr.a, rfl⟩
  · exact ⟨_, _, rfl, rfl, hs.b, hr.b, rfl⟩
  · exact ⟨_, _, rfl, rfl, hs.c, hr.c, rfl⟩
  · exact ⟨_, _, rfl, rfl, hs.d, hr.d, rfl⟩
  · exact ⟨_, _, rfl, rfl, hs.e, hr.e, rfl⟩
  · exact ⟨_, _, rfl, rfl, hs.f, hr.f, rfl⟩
  · exact ⟨_, _, rfl, rfl, hs.g, hr.g, rfl⟩
  · exact ⟨_, _, rfl, rfl, hs.h, hr.h, rfl⟩
set_option maxRecDepth 100000 in
set_option maxHeartbeats 1000000 in
theorem of_plus (N R : Act → World → Prop) (X : Nat → Act → World → Prop) (s r : Sha.St) (hb gv cv : Nat) (B s6 s8 : Value) (V : World) (a : Act) (hs : s.Ok) (hr : r.Ok) (_hcv : 8 ≤ cv) (hne : gv ≠ hb) (hgv : gv < V.heap.size)
    (hS : Sees 304 [(14, .slice (some ⟨gv, 0, none⟩) 8 cv), (22, .int .i64 0), (6, s6), (3, B), (7, .slice (some ⟨hb, 0, none⟩) 8 8), (8, s8)] a)
    (hh : Has V hb tyU64 (U64 s.list)) (hv : V.rangeAt gv 0 (U64 r.list))
    (h : ∀ a' w', V.grownBy w' (some hb) → Sees 304 [(6, s6), (3, B), (7, .slice (some ⟨hb, 0, none⟩) 8 8), (8, s8)] a' → Has w' hb tyU64 (U64 (Sha.plus s r).list) → N a' w') :
    (ofBlk 10).wp Tryd.prog (Qx N X R) a V := by
  refine qx_for (fun m a w => ∃ t, t ≤ 8 ∧ m = 8 - t ∧ Sees 304 [(14, .slice (some ⟨gv, 0, none⟩) 8 cv), (22, .int .i64 (t : Int)), (6, s6), (3, B), (7, .slice (some ⟨hb, 0, none⟩) 8 8), (8, s8)] a ∧ V.grownBy w (some hb) ∧ Has w hb tyU64 (U64 (pl s r t))) 8 ⟨0, by omega, rfl, hS, grown_below (Below.refl _ _) _, hh⟩ ?_
  rintro m a w ⟨t, ht, rfl, hS, hG, hh⟩
  refine reg_seq ?_
  refine seq_is hS (by decide) (runs_move rfl) (fun a1 hS => ?_)
  refine seq_is hS (by decide) (runs_lss rfl rfl rfl) (fun a1 hS => ?_)
  refine nil_ok ⟨_, hS.eval rfl, fun hf => ?_, fun htr => ?_⟩
  · have : t = 8 := by simp at hf; omega
    subst this
    exact h a1 w hG (hS.only _ ⟨rfl, rfl, rfl, rfl, trivial⟩) hh
  · have htt : t < 8 := by simp at htr; omega
    obtain ⟨x, y, hx, hy, hxl, hyl, hset⟩ := pl_step s r hs hr t htt
    have cx : w.cell? ⟨hb, 0 + t, none⟩ = some (.int .u64 (x : Int)) := by rw [Nat.zero_add, hh.cell]; simp [U64, hx]
    have cy : w.cell? ⟨gv, 0 + t, none⟩ = some (.int .u64 (y : Int)) := range_grown hv hG hne hgv t _ (by simp [U64, hy])
    refine qx_seq (qx_block (reg_tail (Drawn w) 13 1 mixed rfl (by kernel_rfl) hS (Drawn.refl w) (fun _ h => h.drew) ?_))
    refine qs_is rfl (fun w hw => runs_move rfl) ?_
    refine qs_is rfl (fun w hw => runs_move rfl) ?_
    refine qs_is rfl (fun w hw => runs_move rfl) ?_
    refine qs_is rfl (fun w hw => runs_move rfl) ?_
    refine qs_is rfl (fun w hw => runs_indexAddr (j := t) rfl rfl undU64s infU64 rfl (by omega)) ?_
    refine qs_is rfl (fun w hw => runs_load rfl rfl (hw.cell cx)) ?_
    refine qs_is rfl (fun w hw => runs_move rfl) ?_
    refine qs_is rfl (fun w hw => runs_move rfl) ?_
    refine qs_is rfl (fun w hw => runs_indexAddr (j := t) rfl rfl undU64s infU64 rfl (by omega)) ?_
    refine qs_is rfl (fun w hw => runs_load rfl rfl (hw.cell cy)) ?_
    refine qs_is rfl (fun w hw => runs_add rfl rfl ((IntWalk.u64_in _ (by omega)).trans (show _ = ((x + y : Nat) : Int) from rfl))) ?_
    refine qs_op rfl (fun w hw => cut_run hw rfl) ?_
    refine qs_is rfl (fun w hw => runs_indexAddr (j := t) rfl rfl undU64s infU64 rfl (by omega)) ?_
    refine (fun a2 w2 hS2 hw2 => ?_)
    have hh2 : Has w2 hb tyU64 (U64 (pl s r t)) := by unfold Has; rw [hw2.heap]; exact hh
    refine tail_none 13 (by kernel_rfl) rfl hS2 (runs_store rfl rfl rfl infU64 (hw2.cell cx) (hh2.open_ _)) (fun v w3 a3 hp hS3 => ⟨trivial, ?_⟩)
    obtain ⟨rfl, rfl⟩ := hp
    refine wpAnyH_done (by kernel_rfl) ?_ _
    have hh3 := hh2.set_ (0 + t) (.int .u64 (((x + y) % 4294967296 : Nat) : Int))
    rw [U64_set, Nat.zero_add, hset] at hh3
    have hS := hS3
    refine reg_seq ?_
    refine seq_is hS (by decide) (runs_move rfl) (fun a1 hS => ?_)
    refine seq_is hS (by decide) (runs_add rfl rfl ((IntWalk.i64_in _ (by omega)).trans (show (t : Int) + 1 = ((t + 1 : Nat) : Int) by omega))) (fun a1 hS => ?_)
    refine seq_is hS (by decide) (runs_assign rfl) (fun a1 hS => ?_)
    refine nil_ok ⟨8 - (t + 1), by omega, t + 1, by omega, rfl, hS.only _ ⟨rfl, rfl, rfl, rfl, rfl, rfl, trivial⟩, ?_, by rw [Nat.zero_add]; exact hh3⟩
    have hG2 : V.grownBy w2 (some hb) := by
      obtain ⟨k, rfl⟩ := hw2
      exact ⟨hG.os, hG.tape, hG.output, hG.size, hG.block⟩
    exact grown_trans' hG2 (grown_set hh2.lt _ _) hh2.lt
end Go.Proofs.YtlldcicnakdjmaaDoor
