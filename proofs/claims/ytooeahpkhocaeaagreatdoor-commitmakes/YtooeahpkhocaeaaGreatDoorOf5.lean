/- The document's own Of: one of the 64 rounds of a block. Conditions: the numbers have 32 bits. -/
import Derived.Test.YtooeahpkhocaeaaGreatDoorJ13
import Derived.Test.YtooeahpkhocaeaaGreatDoorEngP
import Derived.Laws.BytesString
namespace Go.Proofs.YtooeahpkhocaeaaGreatDoor
open Go.RowKit
set_option maxRecDepth 100000

set_option maxRecDepth 100000 in
set_option maxHeartbeats 1000000 in
theorem of_round (N R : Act → World → Prop) (X : Nat → Act → World → Prop) (r : Sha.St) (t k x gk gw gv cw cv : Nat) (B : Value) (s7 s8 : Value) (V w : World) (a : Act) (hr : r.Ok) (ht : t < 64) (hk : k < 4294967296) (hx : x < 4294967296) (_hcv : 8 ≤ cv)
    (hS : Sees 304 [(14, .slice (some ⟨gv, 0, none⟩) 8 cv), (15, .int .i64 (t : Int)), (9, .slice (some ⟨gw, 0, none⟩) 64 cw), (6, .slice (some ⟨gk, 0, none⟩) 64 64), (3, B), (7, s7), (8, s8)] a) (hw : Drawn V w)
    (hv : V.rangeAt gv 0 (U64 r.list)) (ck : V.cell? ⟨gk, t, none⟩ = some (.int .u64 (k : Int))) (cww : V.cell? ⟨gw, t, none⟩ = some (.int .u64 (x : Int)))
    (h : ∀ a' w1, Drawn V w1 → Sees 304 [(14, .slice (some ⟨w1.heap.size, 0, none⟩) 8 8), (15, .int .i64 (t : Int)), (9, .slice (some ⟨gw, 0, none⟩) 64 cw), (6, .slice (some ⟨gk, 0, none⟩) 64 64), (3, B), (7, s7), (8, s8)] a' → N a' (w1.alloc (.cells (U64 (Sha.rnd k x r).list).toArray tyU64))) :
    (ofBlk 9).wp Tryz.prog (Qx N X R) a w := by
  have h0 := hr.a
  have h1 := hr.b
  have h2 := hr.c
  have h3 := hr.d
  have h4 := hr.e
  have h5 := hr.f
  have h6 := hr.g
  have h7 := hr.h
  have c0 : V.cell? ⟨gv, 0 + 0, none⟩ = some (.int .u64 (r.a : Int)) := hv 0 _ rfl
  have c1 : V.cell? ⟨gv, 0 + 1, none⟩ = some (.int .u64 (r.b : Int)) := hv 1 _ rfl
  have c2 : V.cell? ⟨gv, 0 + 2, none⟩ = some (.int .u64 (r.c : Int)) := hv 2 _ rfl
  have c3 : V.cell? ⟨gv, 0 + 3, none⟩ = some (.int .u64 (r.d : Int)) := hv 3 _ rfl
  have c4 : V.cell? ⟨gv, 0 + 4, none⟩ = some (.int .u64 (r.e : Int)) := hv 4 _ rfl
  have c5 : V.cell? ⟨gv, 0 + 5, none⟩ = some (.int .u64 (r.f : Int)) := hv 5 _ rfl
  have c6 : V.cell? ⟨gv, 0 + 6, none⟩ = some (.int .u64 (r.g : Int)) := hv 6 _ rfl
  have c7 : V.cell? ⟨gv, 0 + 7, none⟩ = some (.int .u64 (r.h : Int)) := hv 7 _ rfl
  have he1 := Sha.e1_lt h4
  have he0 := Sha.e0_lt h0
  have hch := Sha.ch_lt (f := r.f) h4 h6
  have hmj := Sha.maj_lt (c := r.c) h0 h1
  have ht1 : Sha.t1 k x r = r.h + Sha.e1 r.e + Sha.ch r.e r.f r.g + k + x := rfl
  have ht2 : Sha.t2 r = Sha.e0 r.a + Sha.maj r.a r.b r.c := rfl
  show Code.wp _ (Code.block 9 _) _ _ _
  refine qx_block (qx_seq (reg_quiet (Drawn V) mixed (by kernel_rfl) hS hw (fun _ h => h.drew) ?_))
  refine qs_is rfl (fun w hw => runs_move rfl) ?_
  refine qs_is rfl (fun w hw => runs_indexAddr (j := 0) rfl rfl undU64s infU64 rfl (by omega)) ?_
  refine qs_is rfl (fun w hw => runs_load rfl rfl (hw.cell c0)) ?_
  refine qs_is rfl (fun w hw => runs_move rfl) ?_
  refine qs_is rfl (fun w hw => runs_indexAddr (j := 4) rfl rfl undU64s infU64 rfl (by omega)) ?_
  refine qs_is rfl (fun w hw => runs_load rfl rfl (hw.cell c4)) ?_
  refine qs_is rfl (fun w hw => runs_assign rfl) ?_
  refine qs_is rfl (fun w hw => runs_assign rfl) ?_
  refine (fun a1 w1 hS1 hw1 => ?_)
  replace hS1 := hS1.only [(16, .int .u64 (r.a : Int)), (17, .int .u64 (r.e : Int)), (14, .slice (some ⟨gv, 0, none⟩) 8 cv), (15, .int .i64 (t : Int)), (9, .slice (some ⟨gw, 0, none⟩) 64 cw), (6, .slice (some ⟨gk, 0, none⟩) 64 64), (3, B), (7, s7), (8, s8)] ⟨rfl, rfl, rfl, rfl, rfl, rfl, rfl, rfl, rfl, trivial⟩
  clear hS hw
  refine qx_seq (reg_quiet (Drawn V) mixed (by kernel_rfl) hS1 hw1 (fun _ h => h.drew) ?_)
  refine qs_is rfl (fun w hw => runs_move rfl) ?_
  refine qs_is rfl (fun w hw => runs_move rfl) ?_
  refine qs_is rfl (fun w hw => runs_indexAddr (j := 5) rfl rfl undU64s infU64 rfl (by omega)) ?_
  refine qs_is rfl (fun w hw => runs_load rfl rfl (hw.cell c5)) ?_
  refine qs_is rfl (fun w hw => runs_and rfl rfl (a64 _ _ h4 h5)) ?_
  refine qs_is rfl (fun w hw => runs_move rfl) ?_
  refine qs_is rfl (fun w hw => runs_sub rfl rfl ((IntWalk.u64_in _ (by omega)).trans (show _ = ((4294967295 - r.e : Nat) : Int) by omega))) ?_
  refine qs_is rfl (fun w hw => runs_move rfl) ?_
  refine qs_is rfl (fun w hw => runs_indexAddr (j := 6) rfl rfl undU64s infU64 rfl (by omega)) ?_
  refine qs_is rfl (fun w hw => runs_load rfl rfl (hw.cell c6)) ?_
  refine qs_is rfl (fun w hw => runs_and rfl rfl (a64 _ _ (by omega) h6)) ?_
  refine qs_is rfl (fun w hw => runs_xor rfl rfl (x64 _ _ (Sha.and_lt h5) (Sha.and_lt h6))) ?_
  refine qs_is rfl (fun w hw => runs_assign rfl) ?_
  refine (fun a2 w2 hS2 hw2 => ?_)
  replace hS2 := hS2.only [(18, .int .u64 ((Sha.ch r.e r.f r.g : Nat) : Int)), (16, .int .u64 (r.a : Int)), (17, .int .u64 (r.e : Int)), (14, .slice (some ⟨gv, 0, none⟩) 8 cv), (15, .int .i64 (t : Int)), (9, .slice (some ⟨gw, 0, none⟩) 64 cw), (6, .slice (some ⟨gk, 0, none⟩) 64 64), (3, B), (7, s7), (8, s8)] ⟨rfl, rfl, rfl, rfl, rfl, rfl, rfl, rfl, rfl, rfl, trivial⟩
  clear hS1 hw1
  refine qx_seq (reg_quiet (Drawn V) mixed (by kernel_rfl) hS2 hw2 (fun _ h => h.drew) ?_)
  refine qs_is rfl (fun w hw => runs_move rfl) ?_
  refine qs_is rfl (fun w hw => runs_move rfl) ?_
  refine qs_is rfl (fun w hw => runs_indexAddr (j := 1) rfl rfl undU64s infU64 rfl (by omega)) ?_
  refine qs_is rfl (fun w hw => runs_load rfl rfl (hw.cell c1)) ?_
  refine qs_is rfl (fun w hw => runs_and rfl rfl (a64 _ _ h0 h1)) ?_
  refine qs_is rfl (fun w hw => runs_move rfl) ?_
  refine qs_is rfl (fun w hw => runs_move rfl) ?_
  refine qs_is rfl (fun w hw => runs_indexAddr (j := 2) rfl rfl undU64s infU64 rfl (by omega)) ?_
  refine qs_is rfl (fun w hw => runs_load rfl rfl (hw.cell c2)) ?_
  refine qs_is rfl (fun w hw => runs_and rfl rfl (a64 _ _ h0 h2)) ?_
  refine qs_is rfl (fun w hw => runs_xor rfl rfl (x64 _ _ (Sha.and_lt h1) (Sha.and_lt h2))) ?_
  refine qs_is rfl (fun w hw => runs_move rfl) ?_
  refine qs_is rfl (fun w hw => runs_indexAddr (j := 1) rfl rfl undU64s infU64 rfl (by omega)) ?_
  refine qs_is rfl (fun w hw => runs_load rfl rfl (hw.cell c1)) ?_
  refine qs_is rfl (fun w hw => runs_move rfl) ?_
  refine qs_is rfl (fun w hw => runs_indexAddr (j := 2) rfl rfl undU64s infU64 rfl (by omega)) ?_
  refine qs_is rfl (fun w hw => runs_load rfl rfl (hw.cell c2)) ?_
  refine qs_is rfl (fun w hw => runs_and rfl rfl (a64 _ _ h1 h2)) ?_
  refine qs_is rfl (fun w hw => runs_xor rfl rfl (x64 _ _ (Sha.xor_lt (Sha.and_lt h1) (Sha.and_lt h2)) (Sha.and_lt h2))) ?_
  refine qs_is rfl (fun w hw => runs_assign rfl) ?_
  refine (fun a3 w3 hS3 hw3 => ?_)
  replace hS3 := hS3.only [(19, .int .u64 ((Sha.maj r.a r.b r.c : Nat) : Int)), (18, .int .u64 ((Sha.ch r.e r.f r.g : Nat) : Int)), (16, .int .u64 (r.a : Int)), (17, .int .u64 (r.e : Int)), (14, .slice (some ⟨gv, 0, none⟩) 8 cv), (15, .int .i64 (t : Int)), (9, .slice (some ⟨gw, 0, none⟩) 64 cw), (6, .slice (some ⟨gk, 0, none⟩) 64 64), (3, B), (7, s7), (8, s8)] ⟨rfl, rfl, rfl, rfl, rfl, rfl, rfl, rfl, rfl, rfl, rfl, trivial⟩
  clear hS2 hw2
  refine qx_seq (reg_quiet (Drawn V) mixed (by kernel_rfl) hS3 hw3 (fun _ h => h.drew) ?_)
  refine qs_is rfl (fun w hw => runs_move rfl) ?_
  refine qs_is rfl (fun w hw => runs_indexAddr (j := 7) rfl rfl undU64s infU64 rfl (by omega)) ?_
  refine qs_is rfl (fun w hw => runs_load rfl rfl (hw.cell c7)) ?_
  refine qs_is rfl (fun w hw => runs_move rfl) ?_
  refine qs_op rfl (fun w hw => turn_run 6 hw rfl rfl rfl h4 (by omega) (by omega)) ?_
  refine qs_is rfl (fun w hw => runs_move rfl) ?_
  refine qs_op rfl (fun w hw => turn_run 11 hw rfl rfl rfl h4 (by omega) (by omega)) ?_
  refine qs_is rfl (fun w hw => runs_xor rfl rfl (x64 _ _ (Sha.rotr_lt (by omega) h4) (Sha.rotr_lt (by omega) h4))) ?_
  refine qs_is rfl (fun w hw => runs_move rfl) ?_
  refine qs_op rfl (fun w hw => turn_run 25 hw rfl rfl rfl h4 (by omega) (by omega)) ?_
  refine qs_is rfl (fun w hw => runs_xor rfl rfl (x64 _ _ (Sha.xor_lt (Sha.rotr_lt (by omega) h4) (Sha.rotr_lt (by omega) h4)) (Sha.rotr_lt (by omega) h4))) ?_
  refine qs_is rfl (fun w hw => runs_add rfl rfl ((IntWalk.u64_in _ (by show _ ∧ (r.h : Int) + ((Sha.e1 r.e : Nat) : Int) ≤ _; omega)).trans (show _ = ((r.h + Sha.e1 r.e : Nat) : Int) from rfl))) ?_
  refine qs_is rfl (fun w hw => runs_move rfl) ?_
  refine qs_is rfl (fun w hw => runs_add rfl rfl ((IntWalk.u64_in _ (by omega)).trans (show _ = ((r.h + Sha.e1 r.e + Sha.ch r.e r.f r.g : Nat) : Int) from rfl))) ?_
  refine qs_is rfl (fun w hw => runs_move rfl) ?_
  refine qs_is rfl (fun w hw => runs_move rfl) ?_
  refine qs_is rfl (fun w hw => runs_indexAddr (j := t) rfl rfl undU64s infU64 rfl ht) ?_
  refine qs_is rfl (fun w hw => runs_load rfl rfl (hw.cell (by rw [Nat.zero_add]; exact ck))) ?_
  refine qs_is rfl (fun w hw => runs_add rfl rfl ((IntWalk.u64_in _ (by omega)).trans (show _ = ((r.h + Sha.e1 r.e + Sha.ch r.e r.f r.g + k : Nat) : Int) from rfl))) ?_
  refine qs_is rfl (fun w hw => runs_move rfl) ?_
  refine qs_is rfl (fun w hw => runs_move rfl) ?_
  refine qs_is rfl (fun w hw => runs_indexAddr (j := t) rfl rfl undU64s infU64 rfl ht) ?_
  refine qs_is rfl (fun w hw => runs_load rfl rfl (hw.cell (by rw [Nat.zero_add]; exact cww))) ?_
  refine qs_is rfl (fun w hw => runs_add rfl rfl ((IntWalk.u64_in _ (by omega)).trans (show _ = ((Sha.t1 k x r : Nat) : Int) from rfl))) ?_
  refine qs_is rfl (fun w hw => runs_assign rfl) ?_
  refine (fun a4 w4 hS4 hw => ?_)
  have hS := hS4.only [(20, .int .u64 ((Sha.t1 k x r : Nat) : Int)), (19, .int .u64 ((Sha.maj r.a r.b r.c : Nat) : Int)), (16, .int .u64 (r.a : Int)), (17, .int .u64 (r.e : Int)), (14, .slice (some ⟨gv, 0, none⟩) 8 cv), (15, .int .i64 (t : Int)), (9, .slice (some ⟨gw, 0, none⟩) 64 cw), (6, .slice (some ⟨gk, 0, none⟩) 64 64), (3, B), (7, s7), (8, s8)] ⟨rfl, rfl, rfl, rfl, rfl, rfl, rfl, rfl, rfl, rfl, rfl, trivial⟩
  clear hS3 hw3 hS4
  refine qx_seq (reg_seq ?_)
  refine seq_is hS (by decide) (runs_move rfl) (fun a1 hS => ?_)
  refine seq_op hS (by decide) (turn_run 2 hw rfl rfl rfl h0 (by omega) (by omega)) (fun v w1 a1 hp hS => ?_)
  obtain ⟨rfl, hw⟩ := hp
  refine seq_is hS (by decide) (runs_move rfl) (fun a1 hS => ?_)
  refine seq_op hS (by decide) (turn_run 13 hw rfl rfl rfl h0 (by omega) (by omega)) (fun v w1 a1 hp hS => ?_)
  obtain ⟨rfl, hw⟩ := hp
  refine seq_is hS (by decide) (runs_xor rfl rfl (x64 _ _ (Sha.rotr_lt (by omega) h0) (Sha.rotr_lt (by omega) h0))) (fun a1 hS => ?_)
  refine seq_is hS (by decide) (runs_move rfl) (fun a1 hS => ?_)
  refine seq_op hS (by decide) (turn_run 22 hw rfl rfl rfl h0 (by omega) (by omega)) (fun v w1 a1 hp hS => ?_)
  obtain ⟨rfl, hw⟩ := hp
  refine seq_is hS (by decide) (runs_xor rfl rfl (x64 _ _ (Sha.xor_lt (Sha.rotr_lt (by omega) h0) (Sha.rotr_lt (by omega) h0)) (Sha.rotr_lt (by omega) h0))) (fun a1 hS => ?_)
  refine seq_is hS (by decide) (runs_move rfl) (fun a1 hS => ?_)
  refine seq_is hS (by decide) (runs_add rfl rfl ((IntWalk.u64_in _ (by show _ ∧ ((Sha.e0 r.a : Nat) : Int) + _ ≤ _; omega)).trans (show _ = ((Sha.t2 r : Nat) : Int) from rfl))) (fun a1 hS => ?_)
  refine seq_is hS (by decide) (runs_assign rfl) (fun a1 hS => ?_)
  refine wpList_nil ?_
  replace hS := hS.only [(21, .int .u64 ((Sha.t2 r : Nat) : Int)), (20, .int .u64 ((Sha.t1 k x r : Nat) : Int)), (16, .int .u64 (r.a : Int)), (17, .int .u64 (r.e : Int)), (14, .slice (some ⟨gv, 0, none⟩) 8 cv), (15, .int .i64 (t : Int)), (9, .slice (some ⟨gw, 0, none⟩) 64 cw), (6, .slice (some ⟨gk, 0, none⟩) 64 64), (3, B), (7, s7), (8, s8)] ⟨rfl, rfl, rfl, rfl, rfl, rfl, rfl, rfl, rfl, rfl, rfl, trivial⟩
  refine reg_tail (Drawn V) 24 2 mixed rfl (by kernel_rfl) hS hw (fun _ h => h.drew) ?_
  refine qs_is rfl (fun w hw => runs_move rfl) ?_
  refine qs_is rfl (fun w hw => runs_move rfl) ?_
  refine qs_is rfl (fun w hw => runs_add rfl rfl ((IntWalk.u64_in _ (by omega)).trans (show _ = ((Sha.t1 k x r + Sha.t2 r : Nat) : Int) from rfl))) ?_
  refine qs_op rfl (fun w hw => cut_run hw rfl) ?_
  refine qs_is rfl (fun w hw => runs_move rfl) ?_
  refine qs_is rfl (fun w hw => runs_move rfl) ?_
  refine qs_is rfl (fun w hw => runs_indexAddr (j := 1) rfl rfl undU64s infU64 rfl (by omega)) ?_
  refine qs_is rfl (fun w hw => runs_load rfl rfl (hw.cell c1)) ?_
  refine qs_is rfl (fun w hw => runs_move rfl) ?_
  refine qs_is rfl (fun w hw => runs_indexAddr (j := 2) rfl rfl undU64s infU64 rfl (by omega)) ?_
  refine qs_is rfl (fun w hw => runs_load rfl rfl (hw.cell c2)) ?_
  refine qs_is rfl (fun w hw => runs_move rfl) ?_
  refine qs_is rfl (fun w hw => runs_indexAddr (j := 3) rfl rfl undU64s infU64 rfl (by omega)) ?_
  refine qs_is rfl (fun w hw => runs_load rfl rfl (hw.cell c3)) ?_
  refine qs_is rfl (fun w hw => runs_move rfl) ?_
  refine qs_is rfl (fun w hw => runs_add rfl rfl ((IntWalk.u64_in _ (by omega)).trans (show _ = ((r.d + Sha.t1 k x r : Nat) : Int) from rfl))) ?_
  refine qs_op rfl (fun w hw => cut_run hw rfl) ?_
  refine qs_is rfl (fun w hw => runs_move rfl) ?_
  refine qs_is rfl (fun w hw => runs_move rfl) ?_
  refine qs_is rfl (fun w hw => runs_indexAddr (j := 5) rfl rfl undU64s infU64 rfl (by omega)) ?_
  refine qs_is rfl (fun w hw => runs_load rfl rfl (hw.cell c5)) ?_
  refine qs_is rfl (fun w hw => runs_move rfl) ?_
  refine qs_is rfl (fun w hw => runs_indexAddr (j := 6) rfl rfl undU64s infU64 rfl (by omega)) ?_
  refine qs_is rfl (fun w hw => runs_load rfl rfl (hw.cell c6)) ?_
  refine (fun a5 w5 hS5 hw5 => ?_)
  obtain ⟨i0, hi, hz0, hzs, hzb⟩ := info_parts infU64b
  refine tail_op 24 (by kernel_rfl) rfl hS5 (by decide) (runs_buildSlice (pv := [(0, .int .u64 (((Sha.t1 k x r + Sha.t2 r) % 4294967296 : Nat) : Int)), (1, .int .u64 (r.a : Int)), (2, .int .u64 (r.b : Int)), (3, .int .u64 (r.c : Int)), (4, .int .u64 (((r.d + Sha.t1 k x r) % 4294967296 : Nat) : Int)), (5, .int .u64 (r.e : Int)), (6, .int .u64 (r.f : Int)), (7, .int .u64 (r.g : Int))]) rfl undU64s hi hz0 hzs (by omega) (by omega) (cells := (U64 (Sha.rnd k x r).list).toArray) (by kernel_rfl)) (fun v w6 a6 hp hS6 => ⟨trivial, ?_⟩)
  obtain ⟨rfl, rfl⟩ := hp
  refine tail_op 25 (by kernel_rfl) rfl hS6 (by decide) (runs_assign rfl) (fun v w7 a7 hp hS7 => ⟨trivial, ?_⟩)
  obtain ⟨rfl, rfl⟩ := hp
  refine wpAnyH_done (by kernel_rfl) ?_ _
  exact h a7 w5 hw5 (hS7.only [(14, .slice (some ⟨w5.heap.size, 0, none⟩) 8 8), (15, .int .i64 (t : Int)), (9, .slice (some ⟨gw, 0, none⟩) 64 cw), (6, .slice (some ⟨gk, 0, none⟩) 64 64), (3, B), (7, s7), (8, s8)] ⟨rfl, rfl, rfl, rfl, rfl, rfl, rfl, trivial⟩)
end Go.Proofs.YtooeahpkhocaeaaGreatDoor
/- The document's own Of: the 64 rounds of a block, and the sum behind them. Conditions: the numbers have 32 bits. -/
namespace Go.Proofs.YtooeahpkhocaeaaGreatDoor
open Go.RowKit
set_option maxRecDepth 100000

set_option maxRecDepth 100000 in
set_option maxHeartbeats 1000000 in
theorem of_rounds (N R : Act → World → Prop) (X : Nat → Act → World → Prop) (s : Sha.St) (ws : List Nat) (hb gk gw gv cw cv : Nat) (B s7 s8 : Value) (V : World) (a : Act) (hs : s.Ok) (hwl : ws.length = 64) (hwb : ∀ i, ws.getD i 0 < 4294967296) (hcv : 8 ≤ cv) (hne : gv ≠ hb) (hhb : hb < V.heap.size)
    (hS : Sees 304 [(14, .slice (some ⟨gv, 0, none⟩) 8 cv), (15, .int .i64 0), (9, .slice (some ⟨gw, 0, none⟩) 64 cw), (6, .slice (some ⟨gk, 0, none⟩) 64 64), (3, B), (7, s7), (8, s8)] a)
    (hgk : gk < V.heap.size) (hgw : gw < V.heap.size) (hk : V.rangeAt gk 0 (U64 Sha.K)) (hw : V.rangeAt gw 0 (U64 ws)) (hv : V.rangeAt gv 0 (U64 s.list))
    (h : ∀ a' w' gv' cv', Below V.heap.size V w' → 8 ≤ cv' → gv' ≠ hb → Sees 304 [(14, .slice (some ⟨gv', 0, none⟩) 8 cv'), (6, .slice (some ⟨gk, 0, none⟩) 64 64), (3, B), (7, s7), (8, s8)] a' → w'.rangeAt gv' 0 (U64 (Sha.rounds ws 64 s).list) → N a' w') :
    (ofBlk 8).wp Tryz.prog (Qx N X R) a V := by
  refine qx_for (fun m a w => ∃ t gv cv, t ≤ 64 ∧ m = 64 - t ∧ 8 ≤ cv ∧ gv ≠ hb ∧ Sees 304 [(14, .slice (some ⟨gv, 0, none⟩) 8 cv), (15, .int .i64 (t : Int)), (9, .slice (some ⟨gw, 0, none⟩) 64 cw), (6, .slice (some ⟨gk, 0, none⟩) 64 64), (3, B), (7, s7), (8, s8)] a ∧ Below V.heap.size V w ∧ w.rangeAt gv 0 (U64 (Sha.rounds ws t s).list)) 64 ⟨0, gv, cv, by omega, rfl, hcv, hne, hS, Below.refl _ _, hv⟩ ?_
  rintro m a w ⟨t, gv, cv, ht, rfl, hcv, hne, hS, hB, hv⟩
  refine reg_seq ?_
  refine seq_is hS (by decide) (runs_move rfl) (fun a1 hS => ?_)
  refine seq_is hS (by decide) (runs_lss rfl rfl rfl) (fun a1 hS => ?_)
  refine nil_ok ⟨_, hS.eval rfl, fun hf => ?_, fun htr => ?_⟩
  · have : t = 64 := by simp at hf; omega
    subst this
    exact h a1 w gv cv hB hcv hne (hS.only _ ⟨rfl, rfl, rfl, rfl, rfl, trivial⟩) hv
  · have htt : t < 64 := by simp at htr; omega
    refine qx_seq (of_round _ _ _ (Sha.rounds ws t s) t (Sha.K.getD t 0) (ws.getD t 0) gk gw gv cw cv B s7 s8 w w a1 (Sha.rounds_ok hs t) htt (K_lt t) (hwb t) hcv (hS.only _ ⟨rfl, rfl, rfl, rfl, rfl, rfl, rfl, trivial⟩) (Drawn.refl w) hv ?_ ?_ (fun a2 w1 hd hS => ?_))
    · have := range_below hk hB hgk t _ (U64_get (show t < Sha.K.length from htt))
      rwa [Nat.zero_add] at this
    · have := range_below hw hB hgw t _ (U64_get (show t < ws.length by omega))
      rwa [Nat.zero_add] at this
    · refine reg_seq ?_
      refine seq_is hS (by decide) (runs_move rfl) (fun a1 hS => ?_)
      refine seq_is hS (by decide) (runs_add rfl rfl ((IntWalk.i64_in _ (by omega)).trans (show (t : Int) + 1 = ((t + 1 : Nat) : Int) by omega))) (fun a1 hS => ?_)
      refine seq_is hS (by decide) (runs_assign rfl) (fun a1 hS => ?_)
      have hsz := hd.size
      have hVs := hB.size
      refine nil_ok ⟨64 - (t + 1), by omega, t + 1, w1.heap.size, 8, by omega, rfl, by omega, by omega, hS.only _ ⟨rfl, rfl, rfl, rfl, rfl, rfl, rfl, trivial⟩, (hB.trans ((hd.below _).mono (Nat.le_refl _))).alloc (by omega) _, ?_⟩
      have := (Has.new w1 tyU64 (U64 (Sha.rounds ws (t + 1) s).list)).range 0 8
      exact this
def pl (s r : Sha.St) (i : Nat) : List Nat := [if 0 < i then (s.a + r.a) % 4294967296 else s.a, if 1 < i then (s.b + r.b) % 4294967296 else s.b, if 2 < i then (s.c + r.c) % 4294967296 else s.c, if 3 < i then (s.d + r.d) % 4294967296 else s.d, if 4 < i then (s.e + r.e) % 4294967296 else s.e, if 5 < i then (s.f + r.f) % 4294967296 else s.f, if 6 < i then (s.g + r.g) % 4294967296 else s.g, if 7 < i then (s.h + r.h) % 4294967296 else s.h]
theorem pl_step (s r : Sha.St) (hs : s.Ok) (hr : r.Ok) (i : Nat) (hi : i < 8) : ∃ x y, (pl s r i)[i]? = some x ∧ r.list[i]? = some y ∧ x < 4294967296 ∧ y < 4294967296 ∧ (pl s r i).set i ((x + y) % 4294967296) = pl s r (i + 1) := by
  have h : i = 0 ∨ i = 1 ∨ i = 2 ∨ i = 3 ∨ i = 4 ∨ i = 5 ∨ i = 6 ∨ i = 7 := by omega
  rcases h with rfl | rfl | rfl | rfl | rfl | rfl | rfl | rfl
  · exact ⟨_, _, rfl, rfl, hs.a, hr.a, rfl⟩
  · exact ⟨_, _, rfl, rfl, hs.b, hr.b, rfl⟩
  · exact ⟨_, _, rfl, rfl, hs.c, hr.c, rfl⟩
  · exact ⟨_, _, rfl, rfl, hs.d, hr.d, rfl⟩
  · exact ⟨_, _, rfl, rfl, hs.e, hr.e, rfl⟩
  · exact ⟨_, _, rfl, rfl, hs.f, hr.f, rfl⟩
  · exact ⟨_, _, rfl, rfl, hs.g, hr.g, rfl⟩
  · exact ⟨_, _, rfl, rfl, hs.h, hr.h, rfl⟩
set_option maxRecDepth 100000 in
set_option maxHeartbeats 1000000 in
theorem of_plus (N R : Act → World → Prop) (X : Nat → Act → World → Prop) (s r : Sha.St) (hb gv cv : Nat) (B s6 s8 : Value) (V : World) (a : Act) (hs : s.Ok) (hr : r.Ok) (_hcv : 8 ≤ cv) (hne : gv ≠ hb) (hgv : gv < V.heap.size)
    (hS : Sees 304 [(14, .slice (some ⟨gv, 0, none⟩) 8 cv), (22, .int .i64 0), (6, s6), (3, B), (7, .slice (some ⟨hb, 0, none⟩) 8 8), (8, s8)] a)
    (hh : Has V hb tyU64 (U64 s.list)) (hv : V.rangeAt gv 0 (U64 r.list))
    (h : ∀ a' w', V.grownBy w' (some hb) → Sees 304 [(6, s6), (3, B), (7, .slice (some ⟨hb, 0, none⟩) 8 8), (8, s8)] a' → Has w' hb tyU64 (U64 (Sha.plus s r).list) → N a' w') :
    (ofBlk 10).wp Tryz.prog (Qx N X R) a V := by
  refine qx_for (fun m a w => ∃ t, t ≤ 8 ∧ m = 8 - t ∧ Sees 304 [(14, .slice (some ⟨gv, 0, none⟩) 8 cv), (22, .int .i64 (t : Int)), (6, s6), (3, B), (7, .slice (some ⟨hb, 0, none⟩) 8 8), (8, s8)] a ∧ V.grownBy w (some hb) ∧ Has w hb tyU64 (U64 (pl s r t))) 8 ⟨0, by omega, rfl, hS, grown_below (Below.refl _ _) _, hh⟩ ?_
  rintro m a w ⟨t, ht, rfl, hS, hG, hh⟩
  refine reg_seq ?_
  refine seq_is hS (by decide) (runs_move rfl) (fun a1 hS => ?_)
  refine seq_is hS (by decide) (runs_lss rfl rfl rfl) (fun a1 hS => ?_)
  refine nil_ok ⟨_, hS.eval rfl, fun hf => ?_, fun htr => ?_⟩
  · have : t = 8 := by simp at hf; omega
    subst this
    exact h a1 w hG (hS.only _ ⟨rfl, rfl, rfl, rfl, trivial⟩) hh
  · have htt : t < 8 := by simp at htr; omega
    obtain ⟨x, y, hx, hy, hxl, hyl, hset⟩ := pl_step s r hs hr t htt
    have cx : w.cell? ⟨hb, 0 + t, none⟩ = some (.int .u64 (x : Int)) := by rw [Nat.zero_add, hh.cell]; simp [U64, hx]
    have cy : w.cell? ⟨gv, 0 + t, none⟩ = some (.int .u64 (y : Int)) := range_grown hv hG hne hgv t _ (by simp [U64, hy])
    refine qx_seq (qx_block (reg_tail (Drawn w) 13 1 mixed rfl (by kernel_rfl) hS (Drawn.refl w) (fun _ h => h.drew) ?_))
    refine qs_is rfl (fun w hw => runs_move rfl) ?_
    refine qs_is rfl (fun w hw => runs_move rfl) ?_
    refine qs_is rfl (fun w hw => runs_move rfl) ?_
    refine qs_is rfl (fun w hw => runs_move rfl) ?_
    refine qs_is rfl (fun w hw => runs_indexAddr (j := t) rfl rfl undU64s infU64 rfl (by omega)) ?_
    refine qs_is rfl (fun w hw => runs_load rfl rfl (hw.cell cx)) ?_
    refine qs_is rfl (fun w hw => runs_move rfl) ?_
    refine qs_is rfl (fun w hw => runs_move rfl) ?_
    refine qs_is rfl (fun w hw => runs_indexAddr (j := t) rfl rfl undU64s infU64 rfl (by omega)) ?_
    refine qs_is rfl (fun w hw => runs_load rfl rfl (hw.cell cy)) ?_
    refine qs_is rfl (fun w hw => runs_add rfl rfl ((IntWalk.u64_in _ (by omega)).trans (show _ = ((x + y : Nat) : Int) from rfl))) ?_
    refine qs_op rfl (fun w hw => cut_run hw rfl) ?_
    refine qs_is rfl (fun w hw => runs_indexAddr (j := t) rfl rfl undU64s infU64 rfl (by omega)) ?_
    refine (fun a2 w2 hS2 hw2 => ?_)
    have hh2 : Has w2 hb tyU64 (U64 (pl s r t)) := by unfold Has; rw [hw2.heap]; exact hh
    refine tail_none 13 (by kernel_rfl) rfl hS2 (runs_store rfl rfl rfl infU64 (hw2.cell cx) (hh2.open_ _)) (fun v w3 a3 hp hS3 => ⟨trivial, ?_⟩)
    obtain ⟨rfl, rfl⟩ := hp
    refine wpAnyH_done (by kernel_rfl) ?_ _
    have hh3 := hh2.set_ (0 + t) (.int .u64 (((x + y) % 4294967296 : Nat) : Int))
    rw [U64_set, Nat.zero_add, hset] at hh3
    have hS := hS3
    refine reg_seq ?_
    refine seq_is hS (by decide) (runs_move rfl) (fun a1 hS => ?_)
    refine seq_is hS (by decide) (runs_add rfl rfl ((IntWalk.i64_in _ (by omega)).trans (show (t : Int) + 1 = ((t + 1 : Nat) : Int) by omega))) (fun a1 hS => ?_)
    refine seq_is hS (by decide) (runs_assign rfl) (fun a1 hS => ?_)
    refine nil_ok ⟨8 - (t + 1), by omega, t + 1, by omega, rfl, hS.only _ ⟨rfl, rfl, rfl, rfl, rfl, rfl, trivial⟩, ?_, by rw [Nat.zero_add]; exact hh3⟩
    have hG2 : V.grownBy w2 (some hb) := by
      obtain ⟨k, rfl⟩ := hw2
      exact ⟨hG.os, hG.tape, hG.output, hG.size, hG.block⟩
    exact grown_trans' hG2 (grown_set hh2.lt _ _) hh2.lt
end Go.Proofs.YtooeahpkhocaeaaGreatDoor
/- The document's own Of: a block's 64 numbers. Conditions: bytes. -/
namespace Go.Proofs.YtooeahpkhocaeaaGreatDoor
open Go.RowKit
set_option maxRecDepth 100000

theorem quo64 (x c : Nat) (d : Int) (hd : d = (c : Int)) (hx : x < 4294967296) : IntKind.u64.wrap ((x : Int).tdiv d) = ((x / c : Nat) : Int) := by
  subst hd
  rw [Int.tdiv_eq_ediv_of_nonneg (by omega), show (x : Int) / (c : Int) = ((x / c : Nat) : Int) by simp]
  exact u64_nat _ (by have := Nat.div_le_self x c; omega)
set_option maxRecDepth 100000 in
set_option maxHeartbeats 1000000 in
theorem of_word (N R : Act → World → Prop) (X : Nat → Act → World → Prop) (M : List Nat) (t A g2 ml cap2 : Nat) (s6 s7 v9 : Value) (V0 w : World) (a : Act) (ht : t < 16) (hA : A + 64 ≤ M.length) (hml : M.length = ml) (hmc : ml ≤ cap2) (hml2 : ml ≤ 2000) (hby : Sha.Bytes M) (hg2 : g2 < V0.heap.size)
    (hS : Sees 304 [(9, v9), (10, .int .i64 (t : Int)), (3, .slice (some ⟨g2, 0, none⟩) ml cap2), (8, .int .i64 (A : Int)), (6, s6), (7, s7)] a) (hM : V0.rangeAt g2 0 (U8 M)) (hown : w.ownsRow V0.heap.size tyU64 1 v9 t (U64 (Sha.sched ((M.drop A).take 64) t))) (hB : Below V0.heap.size V0 w)
    (h : ∀ a' w' v', Sees 304 [(9, v'), (10, .int .i64 (t : Int)), (3, .slice (some ⟨g2, 0, none⟩) ml cap2), (8, .int .i64 (A : Int)), (6, s6), (7, s7)] a' → w'.ownsRow V0.heap.size tyU64 1 v' (t + 1) (U64 (Sha.sched ((M.drop A).take 64) (t + 1))) → Below V0.heap.size V0 w' → v' ≠ .slice none 0 0 → N a' w') :
    (ofBlk 7).wp Tryz.prog (Qx N X R) a w := by
  have hcell : ∀ j, j < 4 → w.cell? ⟨g2, 0 + (A + 4 * t) + j, none⟩ = some (.int .u8 (((M.drop A).take 64).getD (4 * t + j) 0 : Nat)) := fun j hj => by
    rw [block_get _ _ _ (by omega), show 0 + (A + 4 * t) + j = 0 + (A + (4 * t + j)) by omega]
    exact range_below hM hB hg2 _ _ (U8_get (by omega))
  have hbb := block_bytes hby A
  have c0 := hcell 0 (by omega)
  have c1 := hcell 1 (by omega)
  have c2 := hcell 2 (by omega)
  have c3 := hcell 3 (by omega)
  have b0 := hbb.getD (4 * t + 0)
  have b1 := hbb.getD (4 * t + 1)
  have b2 := hbb.getD (4 * t + 2)
  have b3 := hbb.getD (4 * t + 3)
  have hX := sched_more ((M.drop A).take 64) t ht
  rw [show ((M.drop A).take 64).getD (4 * t) 0 = ((M.drop A).take 64).getD (4 * t + 0) 0 from rfl] at hX
  generalize ((M.drop A).take 64).getD (4 * t + 0) 0 = x0 at *
  generalize ((M.drop A).take 64).getD (4 * t + 1) 0 = x1 at *
  generalize ((M.drop A).take 64).getD (4 * t + 2) 0 = x2 at *
  generalize ((M.drop A).take 64).getD (4 * t + 3) 0 = x3 at *
  clear hcell hbb
  show Code.wp _ (Code.block 7 _) _ _ _
  refine qx_block (qx_seq (qx_seq (reg_seq ?_)))
  refine seq_is hS (by decide) (runs_move rfl) (fun a1 hS => ?_)
  refine seq_is hS (by decide) (runs_lss (r := true) rfl rfl (by simp; omega)) (fun a1 hS => ?_)
  refine nil_ok (wp_cond_true (hS.eval rfl) (qx_seq (reg_seq ?_)))
  refine seq_is hS (by decide) (runs_move rfl) (fun a1 hS => ?_)
  refine seq_is hS (by decide) (runs_move rfl) (fun a1 hS => ?_)
  refine seq_is hS (by decide) (runs_move rfl) (fun a1 hS => ?_)
  refine seq_is hS (by decide) (runs_mul rfl rfl (IntWalk.i64_in _ (by omega))) (fun a1 hS => ?_)
  refine seq_is hS (by decide) (runs_add rfl rfl (IntWalk.i64_in _ (by omega))) (fun a1 hS => ?_)
  refine seq_is hS (by decide) (runs_move rfl) (fun a1 hS => ?_)
  refine seq_is hS (by decide) (runs_move rfl) (fun a1 hS => ?_)
  refine seq_is hS (by decide) (runs_mul rfl rfl (IntWalk.i64_in _ (by omega))) (fun a1 hS => ?_)
  refine seq_is hS (by decide) (runs_add rfl rfl (IntWalk.i64_in _ (by omega))) (fun a1 hS => ?_)
  refine seq_is hS (by decide) (runs_add rfl rfl (IntWalk.i64_in _ (by omega))) (fun a1 hS => ?_)
  refine seq_is hS (by decide) (runs_slice (l := A + 4 * t) (h := A + 4 * t + 4) rfl rfl rfl (by omega) (by omega) undBytes infByteS (by omega) (by omega) (by omega)) (fun a1 hS => ?_)
  refine seq_is hS (by decide) (runs_assign rfl) (fun a1 hS => ?_)
  refine nil_ok (qx_seq ?_)
  refine reg_tail1 (Drawn w) 23 3 mixed rfl rfl (by decide) rfl (by omega) (by kernel_rfl) (by kernel_rfl) (by kernel_rfl) (by kernel_rfl) hS (Drawn.refl w) (fun _ h => h.drew) ?_
  refine qs_skip rfl ?_
  refine qs_is rfl (fun w hw => runs_move rfl) ?_
  refine qs_is rfl (fun w hw => runs_indexAddr (j := 0) rfl rfl undBytes infByteS rfl (by omega)) ?_
  refine qs_is rfl (fun w hw => runs_load rfl rfl (hw.cell c0)) ?_
  refine qs_is rfl (fun w hw => runs_convInt rfl rfl undU64 (IntWalk.u64_in _ (by omega))) ?_
  refine qs_is rfl (fun w hw => runs_mul rfl rfl (IntWalk.u64_in _ (by omega))) ?_
  refine qs_is rfl (fun w hw => runs_move rfl) ?_
  refine qs_is rfl (fun w hw => runs_indexAddr (j := 1) rfl rfl undBytes infByteS rfl (by omega)) ?_
  refine qs_is rfl (fun w hw => runs_load rfl rfl (hw.cell c1)) ?_
  refine qs_is rfl (fun w hw => runs_convInt rfl rfl undU64 (IntWalk.u64_in _ (by omega))) ?_
  refine qs_is rfl (fun w hw => runs_mul rfl rfl (IntWalk.u64_in _ (by omega))) ?_
  refine qs_is rfl (fun w hw => runs_add rfl rfl (IntWalk.u64_in _ (by omega))) ?_
  refine qs_is rfl (fun w hw => runs_move rfl) ?_
  refine qs_is rfl (fun w hw => runs_indexAddr (j := 2) rfl rfl undBytes infByteS rfl (by omega)) ?_
  refine qs_is rfl (fun w hw => runs_load rfl rfl (hw.cell c2)) ?_
  refine qs_is rfl (fun w hw => runs_convInt rfl rfl undU64 (IntWalk.u64_in _ (by omega))) ?_
  refine qs_is rfl (fun w hw => runs_mul rfl rfl (IntWalk.u64_in _ (by omega))) ?_
  refine qs_is rfl (fun w hw => runs_add rfl rfl (IntWalk.u64_in _ (by omega))) ?_
  refine qs_is rfl (fun w hw => runs_move rfl) ?_
  refine qs_is rfl (fun w hw => runs_indexAddr (j := 3) rfl rfl undBytes infByteS rfl (by omega)) ?_
  refine qs_is rfl (fun w hw => runs_load rfl rfl (hw.cell c3)) ?_
  refine qs_is rfl (fun w hw => runs_convInt rfl rfl undU64 (IntWalk.u64_in _ (by omega))) ?_
  refine qs_is rfl (fun w hw => runs_add rfl rfl ((IntWalk.u64_in _ (by omega)).trans (show _ = ((x0 * 16777216 + x1 * 65536 + x2 * 256 + x3 : Nat) : Int) by omega))) ?_
  refine (fun a5 w5 hS5 hw5 => ?_)
  obtain ⟨i0, hi, hz0, hzs, hzb⟩ := info_parts infU64b
  refine tail_op 23 (by kernel_rfl) rfl hS5 (by decide) (runs_buildSlice (pv := [(0, .int .u64 ((x0 * 16777216 + x1 * 65536 + x2 * 256 + x3 : Nat) : Int))]) rfl undU64s hi hz0 hzs (by omega) (by omega) (cells := (U64 [x0 * 16777216 + x1 * 65536 + x2 * 256 + x3]).toArray) (by kernel_rfl)) (fun v w6 a6 hp hS6 => ⟨trivial, ?_⟩)
  obtain ⟨rfl, rfl⟩ := hp
  have hB5 : Below V0.heap.size V0 (w5.alloc (.cells (U64 [x0 * 16777216 + x1 * 65536 + x2 * 256 + x3]).toArray tyU64)) := (hB.trans ((hw5.below _).mono (Nat.le_refl _))).alloc (by have := hw5.size; have := hB.size; omega) _
  refine tail_op 24 (by kernel_rfl) rfl hS6 (by decide) (runs_append undU64s hi hz0 hzs hzb rfl rfl (World.ownsRow.alloc (w := w5) (hw5.owns hown) _) rfl rfl (news := U64 [x0 * 16777216 + x1 * 65536 + x2 * 256 + x3]) (fun j u hj => by rw [add_zero_addr, Nat.zero_add, (Has.new w5 tyU64 (U64 [x0 * 16777216 + x1 * 65536 + x2 * 256 + x3])).cell]; exact hj) (U64_one _) (by unfold maxLen; omega) (by omega) (by have := hB5.size; omega) (by omega)) (fun v' w7 a7 hp hS7 => ⟨trivial, ?_⟩)
  obtain ⟨hown7, hgr7, hne7⟩ := hp
  refine tail_op 25 (by kernel_rfl) rfl hS7 (by decide) (runs_assign rfl) (fun v w8 a8 hp hS8 => ⟨trivial, ?_⟩)
  obtain ⟨rfl, rfl⟩ := hp
  refine wpAnyH_done (by kernel_rfl) ?_ _
  rw [← U64_append] at hown7
  have hB7 := below_grown hB5 hgr7 (fun g hg => (hown.lt g hg).1) (by have := hB5.size; omega)
  rw [← hX] at hown7
  exact qx_exit (.inl ⟨rfl, h a8 _ _ (hS8.only _ ⟨rfl, rfl, rfl, rfl, rfl, rfl, trivial⟩) hown7 hB7 hne7⟩)
set_option maxRecDepth 100000 in
set_option maxHeartbeats 1000000 in
theorem of_more (N R : Act → World → Prop) (X : Nat → Act → World → Prop) (M : List Nat) (t A g2 ml cap2 : Nat) (s6 s7 v9 : Value) (V0 w : World) (a : Act) (ht : 16 ≤ t) (ht2 : t < 64) (hby : Sha.Bytes M) (hne : v9 ≠ .slice none 0 0)
    (hS : Sees 304 [(9, v9), (10, .int .i64 (t : Int)), (3, .slice (some ⟨g2, 0, none⟩) ml cap2), (8, .int .i64 (A : Int)), (6, s6), (7, s7)] a) (hown : w.ownsRow V0.heap.size tyU64 1 v9 t (U64 (Sha.sched ((M.drop A).take 64) t))) (hB : Below V0.heap.size V0 w)
    (h : ∀ a' w' v', Sees 304 [(9, v'), (10, .int .i64 (t : Int)), (3, .slice (some ⟨g2, 0, none⟩) ml cap2), (8, .int .i64 (A : Int)), (6, s6), (7, s7)] a' → w'.ownsRow V0.heap.size tyU64 1 v' (t + 1) (U64 (Sha.sched ((M.drop A).take 64) (t + 1))) → Below V0.heap.size V0 w' → v' ≠ .slice none 0 0 → N a' w') :
    (ofBlk 7).wp Tryz.prog (Qx N X R) a w := by
  have hsl : (Sha.sched ((M.drop A).take 64) t).length = t := Sha.sched_length _ _
  obtain ⟨g9, c9, rfl, hg9b, hg9, hc9, hc9m, hra⟩ := own_form hown hne
  have hX := sched_more' ((M.drop A).take 64) t ht
  have hbd : ∀ j, (Sha.sched ((M.drop A).take 64) t).getD j 0 < 4294967296 := fun j => Sha.sched_lt (block_bytes hby A) t j
  have c16 := hra (t - 16) _ (U64_get (by omega))
  have c15 := hra (t - 15) _ (U64_get (by omega))
  have c7 := hra (t - 7) _ (U64_get (by omega))
  have c2 := hra (t - 2) _ (U64_get (by omega))
  have b16 := hbd (t - 16)
  have b15 := hbd (t - 15)
  have b7 := hbd (t - 7)
  have b2 := hbd (t - 2)
  generalize (Sha.sched ((M.drop A).take 64) t).getD (t - 16) 0 = y16 at *
  generalize (Sha.sched ((M.drop A).take 64) t).getD (t - 15) 0 = x15 at *
  generalize (Sha.sched ((M.drop A).take 64) t).getD (t - 7) 0 = y7 at *
  generalize (Sha.sched ((M.drop A).take 64) t).getD (t - 2) 0 = x2 at *
  have hs0 := Sha.s0_lt b15
  have hs1 := Sha.s1_lt b2
  clear hbd
  show Code.wp _ (Code.block 7 _) _ _ _
  refine qx_block (qx_seq (qx_seq (reg_seq ?_)))
  refine seq_is hS (by decide) (runs_move rfl) (fun a1 hS => ?_)
  refine seq_is hS (by decide) (runs_lss (r := false) rfl rfl (by simp; omega)) (fun a1 hS => ?_)
  refine nil_ok (wp_cond_false (hS.eval rfl) (wp_skip ?_))
  refine qx_seq (reg_quiet (Drawn w) mixed (by kernel_rfl) hS (Drawn.refl w) (fun _ h => h.drew) ?_)
  refine qs_is rfl (fun w hw => runs_move rfl) ?_
  refine qs_is rfl (fun w hw => runs_move rfl) ?_
  refine qs_is rfl (fun w hw => runs_sub rfl rfl (IntWalk.i64_in _ (by omega))) ?_
  refine qs_is rfl (fun w hw => runs_indexAddr (j := t - 15) rfl rfl undU64s infU64 (by omega) (by omega)) ?_
  refine qs_is rfl (fun w hw => runs_load rfl rfl (hw.cell c15)) ?_
  refine qs_is rfl (fun w hw => runs_move rfl) ?_
  refine qs_is rfl (fun w hw => runs_move rfl) ?_
  refine qs_is rfl (fun w hw => runs_sub rfl rfl (IntWalk.i64_in _ (by omega))) ?_
  refine qs_is rfl (fun w hw => runs_indexAddr (j := t - 2) rfl rfl undU64s infU64 (by omega) (by omega)) ?_
  refine qs_is rfl (fun w hw => runs_load rfl rfl (hw.cell c2)) ?_
  refine qs_is rfl (fun w hw => runs_assign rfl) ?_
  refine qs_is rfl (fun w hw => runs_assign rfl) ?_
  refine (fun a2 w2 hS2 hw2 => ?_)
  replace hS2 := hS2.only [(12, .int .u64 (x15 : Int)), (13, .int .u64 (x2 : Int)), (9, .slice (some ⟨g9, 0, none⟩) t c9), (10, .int .i64 (t : Int)), (3, .slice (some ⟨g2, 0, none⟩) ml cap2), (8, .int .i64 (A : Int)), (6, s6), (7, s7)] ⟨rfl, rfl, rfl, rfl, rfl, rfl, rfl, rfl, trivial⟩
  refine reg_tail1 (Drawn w) 31 3 mixed rfl rfl (by decide) rfl (by omega) (by kernel_rfl) (by kernel_rfl) (by kernel_rfl) (by kernel_rfl) hS2 hw2 (fun _ h => h.drew) ?_
  refine qs_skip rfl ?_
  refine qs_is rfl (fun w hw => runs_move rfl) ?_
  refine qs_is rfl (fun w hw => runs_move rfl) ?_
  refine qs_is rfl (fun w hw => runs_sub rfl rfl (IntWalk.i64_in _ (by omega))) ?_
  refine qs_is rfl (fun w hw => runs_indexAddr (j := t - 16) rfl rfl undU64s infU64 (by omega) (by omega)) ?_
  refine qs_is rfl (fun w hw => runs_load rfl rfl (hw.cell c16)) ?_
  refine qs_is rfl (fun w hw => runs_move rfl) ?_
  refine qs_is rfl (fun w hw => runs_move rfl) ?_
  refine qs_is rfl (fun w hw => runs_sub rfl rfl (IntWalk.i64_in _ (by omega))) ?_
  refine qs_is rfl (fun w hw => runs_indexAddr (j := t - 7) rfl rfl undU64s infU64 (by omega) (by omega)) ?_
  refine qs_is rfl (fun w hw => runs_load rfl rfl (hw.cell c7)) ?_
  refine qs_is rfl (fun w hw => runs_add rfl rfl ((IntWalk.u64_in _ (by omega)).trans (show _ = ((y16 + y7 : Nat) : Int) from rfl))) ?_
  refine qs_is rfl (fun w hw => runs_move rfl) ?_
  refine qs_op rfl (fun w hw => turn_run 7 hw rfl rfl rfl b15 (by omega) (by omega)) ?_
  refine qs_is rfl (fun w hw => runs_move rfl) ?_
  refine qs_op rfl (fun w hw => turn_run 18 hw rfl rfl rfl b15 (by omega) (by omega)) ?_
  refine qs_is rfl (fun w hw => runs_xor rfl rfl (x64 _ _ (Sha.rotr_lt (by omega) b15) (Sha.rotr_lt (by omega) b15))) ?_
  refine qs_is rfl (fun w hw => runs_move rfl) ?_
  refine qs_is rfl (fun w hw => runs_quo rfl rfl (by decide) (quo64 x15 8 8 rfl b15)) ?_
  refine qs_is rfl (fun w hw => runs_xor rfl rfl (x64 _ _ (Sha.xor_lt (Sha.rotr_lt (by omega) b15) (Sha.rotr_lt (by omega) b15)) (by omega))) ?_
  refine qs_is rfl (fun w hw => runs_add rfl rfl ((IntWalk.u64_in _ (by show _ ∧ _ + ((Sha.s0 x15 : Nat) : Int) ≤ _; omega)).trans (show _ = ((y16 + y7 + Sha.s0 x15 : Nat) : Int) from rfl))) ?_
  refine qs_is rfl (fun w hw => runs_move rfl) ?_
  refine qs_op rfl (fun w hw => turn_run 17 hw rfl rfl rfl b2 (by omega) (by omega)) ?_
  refine qs_is rfl (fun w hw => runs_move rfl) ?_
  refine qs_op rfl (fun w hw => turn_run 19 hw rfl rfl rfl b2 (by omega) (by omega)) ?_
  refine qs_is rfl (fun w hw => runs_xor rfl rfl (x64 _ _ (Sha.rotr_lt (by omega) b2) (Sha.rotr_lt (by omega) b2))) ?_
  refine qs_is rfl (fun w hw => runs_move rfl) ?_
  refine qs_is rfl (fun w hw => runs_quo rfl rfl (by decide) (quo64 x2 1024 1024 rfl b2)) ?_
  refine qs_is rfl (fun w hw => runs_xor rfl rfl (x64 _ _ (Sha.xor_lt (Sha.rotr_lt (by omega) b2) (Sha.rotr_lt (by omega) b2)) (by omega))) ?_
  refine qs_is rfl (fun w hw => runs_add rfl rfl ((IntWalk.u64_in _ (by show _ ∧ _ + ((Sha.s1 x2 : Nat) : Int) ≤ _; omega)).trans (show _ = ((y16 + y7 + Sha.s0 x15 + Sha.s1 x2 : Nat) : Int) from rfl))) ?_
  refine qs_op rfl (fun w hw => cut_run hw rfl) ?_
  refine (fun a5 w5 hS5 hw5 => ?_)
  obtain ⟨i0, hi, hz0, hzs, hzb⟩ := info_parts infU64b
  refine tail_op 31 (by kernel_rfl) rfl hS5 (by decide) (runs_buildSlice (pv := [(0, .int .u64 (((y16 + y7 + Sha.s0 x15 + Sha.s1 x2) % 4294967296 : Nat) : Int))]) rfl undU64s hi hz0 hzs (by omega) (by omega) (cells := (U64 [(y16 + y7 + Sha.s0 x15 + Sha.s1 x2) % 4294967296]).toArray) (by kernel_rfl)) (fun v w6 a6 hp hS6 => ⟨trivial, ?_⟩)
  obtain ⟨rfl, rfl⟩ := hp
  have hB5 : Below V0.heap.size V0 (w5.alloc (.cells (U64 [(y16 + y7 + Sha.s0 x15 + Sha.s1 x2) % 4294967296]).toArray tyU64)) := (hB.trans ((hw5.below _).mono (Nat.le_refl _))).alloc (by have := hw5.size; have := hB.size; omega) _
  refine tail_op 32 (by kernel_rfl) rfl hS6 (by decide) (runs_append undU64s hi hz0 hzs hzb rfl rfl (World.ownsRow.alloc (w := w5) (hw5.owns hown) _) rfl rfl (news := U64 [(y16 + y7 + Sha.s0 x15 + Sha.s1 x2) % 4294967296]) (fun j u hj => by rw [add_zero_addr, Nat.zero_add, (Has.new w5 tyU64 (U64 [(y16 + y7 + Sha.s0 x15 + Sha.s1 x2) % 4294967296])).cell]; exact hj) (U64_one _) (by unfold maxLen; omega) (by omega) (by have := hB5.size; omega) (by omega)) (fun v' w7 a7 hp hS7 => ⟨trivial, ?_⟩)
  obtain ⟨hown7, hgr7, hne7⟩ := hp
  refine tail_op 33 (by kernel_rfl) rfl hS7 (by decide) (runs_assign rfl) (fun v w8 a8 hp hS8 => ⟨trivial, ?_⟩)
  obtain ⟨rfl, rfl⟩ := hp
  refine wpAnyH_done (by kernel_rfl) ?_ _
  rw [← U64_append] at hown7
  have hB7 := below_grown hB5 hgr7 (fun g hg => (hown.lt g hg).1) (by have := hB5.size; omega)
  rw [← hX] at hown7
  exact h a8 _ _ (hS8.only _ ⟨rfl, rfl, rfl, rfl, rfl, rfl, trivial⟩) hown7 hB7 hne7
set_option maxRecDepth 100000 in
set_option maxHeartbeats 1000000 in
theorem of_sched (N R : Act → World → Prop) (X : Nat → Act → World → Prop) (M : List Nat) (A g2 ml cap2 : Nat) (s6 s7 v9 : Value) (V0 w : World) (a : Act) (hA : A + 64 ≤ M.length) (hml : M.length = ml) (hmc : ml ≤ cap2) (hml2 : ml ≤ 2000) (hby : Sha.Bytes M) (hg2 : g2 < V0.heap.size) (hne : v9 ≠ .slice none 0 0)
    (hS : Sees 304 [(9, v9), (10, .int .i64 0), (3, .slice (some ⟨g2, 0, none⟩) ml cap2), (8, .int .i64 (A : Int)), (6, s6), (7, s7)] a) (hM : V0.rangeAt g2 0 (U8 M)) (hown : w.ownsRow V0.heap.size tyU64 1 v9 0 []) (hB : Below V0.heap.size V0 w)
    (h : ∀ a' w' g9 c9, Sees 304 [(9, .slice (some ⟨g9, 0, none⟩) 64 c9), (3, .slice (some ⟨g2, 0, none⟩) ml cap2), (8, .int .i64 (A : Int)), (6, s6), (7, s7)] a' → V0.heap.size ≤ g9 → g9 < w'.heap.size → w'.rangeAt g9 0 (U64 (Sha.sched ((M.drop A).take 64) 64)) → Below V0.heap.size V0 w' → N a' w') :
    (ofBlk 6).wp Tryz.prog (Qx N X R) a w := by
  refine qx_for (fun m a w => ∃ t v9, t ≤ 64 ∧ m = 64 - t ∧ v9 ≠ Value.slice none 0 0 ∧ Sees 304 [(9, v9), (10, .int .i64 (t : Int)), (3, .slice (some ⟨g2, 0, none⟩) ml cap2), (8, .int .i64 (A : Int)), (6, s6), (7, s7)] a ∧ w.ownsRow V0.heap.size tyU64 1 v9 t (U64 (Sha.sched ((M.drop A).take 64) t)) ∧ Below V0.heap.size V0 w) 64 ⟨0, v9, by omega, rfl, hne, hS, hown, hB⟩ ?_
  rintro m a w ⟨t, v9, ht, rfl, hne, hS, hown, hB⟩
  refine reg_seq ?_
  refine seq_is hS (by decide) (runs_move rfl) (fun a1 hS => ?_)
  refine seq_is hS (by decide) (runs_lss rfl rfl rfl) (fun a1 hS => ?_)
  refine nil_ok ⟨_, hS.eval rfl, fun hf => ?_, fun htr => ?_⟩
  · have : t = 64 := by simp at hf; omega
    subst this
    obtain ⟨g9, c9, rfl, hg9b, hg9, hc9, hc9m, hra⟩ := own_form hown hne
    exact h a1 w g9 c9 (hS.only _ ⟨rfl, rfl, rfl, rfl, rfl, trivial⟩) hg9b hg9 hra hB
  · have htt : t < 64 := by simp at htr; omega
    have cont : ∀ a' w' v', Sees 304 [(9, v'), (10, .int .i64 (t : Int)), (3, .slice (some ⟨g2, 0, none⟩) ml cap2), (8, .int .i64 (A : Int)), (6, s6), (7, s7)] a' → w'.ownsRow V0.heap.size tyU64 1 v' (t + 1) (U64 (Sha.sched ((M.drop A).take 64) (t + 1))) → Below V0.heap.size V0 w' → v' ≠ .slice none 0 0 →
        (ofReg 17).wp Tryz.prog (Qx (fun a2 w2 => ∃ m', m' < 64 - t ∧ ∃ t v9, t ≤ 64 ∧ m' = 64 - t ∧ v9 ≠ Value.slice none 0 0 ∧ Sees 304 [(9, v9), (10, .int .i64 (t : Int)), (3, .slice (some ⟨g2, 0, none⟩) ml cap2), (8, .int .i64 (A : Int)), (6, s6), (7, s7)] a2 ∧ w2.ownsRow V0.heap.size tyU64 1 v9 t (U64 (Sha.sched ((M.drop A).take 64) t)) ∧ Below V0.heap.size V0 w2) (fun i a2 w2 => (i = 6 ∧ N a2 w2) ∨ (i ≠ 6 ∧ X i a2 w2)) R) a' w' := fun a' w' v' hS hown hB hne => by
      refine reg_seq ?_
      refine seq_is hS (by decide) (runs_move rfl) (fun a1 hS => ?_)
      refine seq_is hS (by decide) (runs_add rfl rfl ((IntWalk.i64_in _ (by omega)).trans (show (t : Int) + 1 = ((t + 1 : Nat) : Int) by omega))) (fun a1 hS => ?_)
      refine seq_is hS (by decide) (runs_assign rfl) (fun a1 hS => ?_)
      exact nil_ok ⟨64 - (t + 1), by omega, t + 1, v', by omega, rfl, hne, hS.only _ ⟨rfl, rfl, rfl, rfl, rfl, rfl, trivial⟩, hown, hB⟩
    refine qx_seq ?_
    by_cases h16 : t < 16
    · exact of_word _ _ _ M t A g2 ml cap2 s6 s7 v9 V0 w a1 h16 hA hml hmc hml2 hby hg2 (hS.only _ ⟨rfl, rfl, rfl, rfl, rfl, rfl, trivial⟩) hM hown hB cont
    · exact of_more _ _ _ M t A g2 ml cap2 s6 s7 v9 V0 w a1 (by omega) htt hby hne (hS.only _ ⟨rfl, rfl, rfl, rfl, rfl, rfl, trivial⟩) hown hB cont
end Go.Proofs.YtooeahpkhocaeaaGreatDoor
/- The document's own Of: all blocks, one behind another. Conditions: at most 2000 bytes, a multiple of 64. -/
namespace Go.Proofs.YtooeahpkhocaeaaGreatDoor
open Go.RowKit
set_option maxRecDepth 100000

theorem range_lt {w : World} {b o : Nat} {v : Value} {cs : List Value} (h : w.rangeAt b o (v :: cs)) : b < w.heap.size := by
  have h0 := h 0 v rfl
  apply Classical.byContradiction
  intro hge
  have : w.heap[b]? = none := Array.getElem?_eq_none (by omega)
  simp [World.cell?, this] at h0
set_option maxRecDepth 100000 in
set_option maxHeartbeats 1000000 in
theorem of_blocks (N R : Act → World → Prop) (X : Nat → Act → World → Prop) (M : List Nat) (nb g2 gk hb ml cap2 : Nat) (V : World) (a : Act) (hml : M.length = ml) (hnb : ml = 64 * nb) (hmc : ml ≤ cap2) (hml2 : ml ≤ 2000) (hby : Sha.Bytes M)
    (hg2 : g2 < V.heap.size) (hg2h : g2 ≠ hb) (hgk : gk < V.heap.size) (hgkh : gk ≠ hb) (hS : Sees 304 [(8, .int .i64 0), (3, .slice (some ⟨g2, 0, none⟩) ml cap2), (6, .slice (some ⟨gk, 0, none⟩) 64 64), (7, .slice (some ⟨hb, 0, none⟩) 8 8)] a)
    (hM : V.rangeAt g2 0 (U8 M)) (hK : V.rangeAt gk 0 (U64 Sha.K)) (hh : Has V hb tyU64 (U64 Sha.init.list))
    (h : ∀ a' w', V.grownBy w' (some hb) → Sees 304 [(7, .slice (some ⟨hb, 0, none⟩) 8 8)] a' → Has w' hb tyU64 (U64 (Sha.run nb Sha.init M).list) → N a' w') :
    (ofBlk 4).wp Tryz.prog (Qx N X R) a V := by
  have hhV := hh.lt
  refine qx_for (fun m a w => ∃ n, n ≤ nb ∧ m = nb - n ∧ Sees 304 [(8, .int .i64 ((64 * n : Nat) : Int)), (3, .slice (some ⟨g2, 0, none⟩) ml cap2), (6, .slice (some ⟨gk, 0, none⟩) 64 64), (7, .slice (some ⟨hb, 0, none⟩) 8 8)] a ∧ V.grownBy w (some hb) ∧ Has w hb tyU64 (U64 (Sha.run n Sha.init M).list)) nb ⟨0, by omega, rfl, hS, grown_below (Below.refl _ _) _, hh⟩ ?_
  rintro m a w ⟨n, hn, rfl, hS, hG, hh⟩
  refine reg_seq ?_
  refine seq_is hS (by decide) (runs_move rfl) (fun a1 hS => ?_)
  refine seq_is hS (by decide) (runs_move rfl) (fun a1 hS => ?_)
  refine seq_is hS (by decide) (runs_len rfl undBytes) (fun a1 hS => ?_)
  refine seq_is hS (by decide) (runs_lss rfl rfl rfl) (fun a1 hS => ?_)
  refine nil_ok ⟨_, hS.eval rfl, fun hf => ?_, fun htr => ?_⟩
  · have : n = nb := by simp at hf; omega
    subst this
    exact h a1 w hG (hS.only _ ⟨rfl, trivial⟩) hh
  · have hnn : n < nb := by simp at htr; omega
    have hGs := hG.size
    have hsok : (Sha.run n Sha.init M).Ok := Sha.run_ok n Sha.init_ok
    generalize hsn : Sha.run n Sha.init M = s at *
    refine qx_seq (qx_block (qx_seq (reg_seq ?_)))
    obtain ⟨i0, hi, hz0, hzs, hzb⟩ := info_parts infU64b
    refine seq_op hS (by decide) (runs_buildNone undU64s hi) (fun v w1 a1 hp hS => ?_)
    obtain ⟨rfl, rfl⟩ := hp
    refine seq_is hS (by decide) (runs_assign rfl) (fun a1 hS => ?_)
    refine nil_ok (qx_seq (qx_seq (reg_seq ?_)))
    refine seq_is hS (by decide) (runs_assign rfl) (fun a1 hS => ?_)
    refine nil_ok ?_
    refine of_sched _ _ _ M (64 * n) g2 ml cap2 (.slice (some ⟨gk, 0, none⟩) 64 64) (.slice (some ⟨hb, 0, none⟩) 8 8) _ w _ a1 (by omega) hml hmc hml2 hby (by omega) (by simp) (hS.only _ ⟨rfl, rfl, rfl, rfl, rfl, rfl, trivial⟩) (range_grown hM hG hg2h hg2) (World.ownsRow_made w #[] 0 (Nat.le_refl _) (by unfold maxLen; omega) rfl) ((Below.refl _ _).alloc (Nat.le_refl _) _) ?_
    intro a4 w4 g9 c9 hS4 hg9b hg9 hra hB4
    have hh4 : Has w4 hb tyU64 (U64 s.list) := hh.below hB4 hh.lt
    have hB4s := hB4.size
    refine qx_seq (reg_seq ?_)
    refine seq_op hS4 (by decide) (runs_buildNone undU64s hi) (fun v w1 a1 hp hS => ?_)
    obtain ⟨rfl, rfl⟩ := hp
    refine seq_is hS (by decide) (runs_move rfl) (fun a1 hS => ?_)
    have hhl := hh.lt
    refine seq_op hS (by decide) (runs_append undU64s hi hz0 hzs hzb rfl rfl (World.ownsRow_made (base := w4.heap.size) w4 #[] 0 (Nat.le_refl _) (by unfold maxLen; omega) rfl) rfl (by rfl) (news := U64 s.list) (fun j u hj => by rw [add_zero_addr, Nat.zero_add, (hh4.alloc _).cell]; exact hj) (U64_one _) (by unfold maxLen; omega) (by omega) (by simp) (by omega)) (fun v' w5 a5 hp hS => ?_)
    obtain ⟨hown5, hgr5, hne5⟩ := hp
    rw [List.nil_append] at hown5
    have hB5 : Below w4.heap.size w4 w5 := below_grown ((Below.refl _ _).alloc (Nat.le_refl _) _) hgr5 (fun g hg => Nat.le_of_eq (by simpa [Value.ownBlock] using hg)) (by simp)
    obtain ⟨gv, cv, rfl, hgvb, hgv, hcv, hcvm, hrv⟩ := own_form hown5 hne5
    refine seq_is hS (by decide) (runs_assign rfl) (fun a1 hS => ?_)
    refine nil_ok (qx_seq (qx_seq (reg_seq ?_)))
    refine seq_is hS (by decide) (runs_assign rfl) (fun a1 hS => ?_)
    refine nil_ok ?_
    have hB5s := hB5.size
    have hgV4 : V.grownBy w4 (some hb) := grown_trans' hG (grown_below hB4 _) hh.lt
    have hgV5 : V.grownBy w5 (some hb) := grown_trans' hgV4 (grown_below hB5 _) hh4.lt
    refine of_rounds _ _ _ s (Sha.sched ((M.drop (64 * n)).take 64) 64) hb gk g9 gv c9 cv (.slice (some ⟨g2, 0, none⟩) ml cap2) (.slice (some ⟨hb, 0, none⟩) 8 8) (.int .i64 ((64 * n : Nat) : Int)) w5 a1 hsok (Sha.sched_length _ _) (fun i => Sha.sched_lt (block_bytes hby _) 64 i) hcv (by omega) (by omega) (hS.only _ ⟨rfl, rfl, rfl, rfl, rfl, rfl, rfl, trivial⟩) (by omega) (by omega) (range_grown hK hgV5 hgkh hgk) (range_below hra hB5 hg9) hrv ?_
    intro a6 w6 gv' cv' hB6 hcv6 hne6 hS6 hr6
    have hB6s := hB6.size
    have hh5 : Has w5 hb tyU64 (U64 s.list) := hh4.below hB5 hh4.lt
    have hh6 : Has w6 hb tyU64 (U64 s.list) := hh5.below hB6 hh5.lt
    have hgV6 : V.grownBy w6 (some hb) := grown_trans' hgV5 (grown_below hB6 _) hh5.lt
    refine qx_seq (reg_seq ?_)
    refine seq_is hS6 (by decide) (runs_assign rfl) (fun a1 hS => ?_)
    refine nil_ok ?_
    refine of_plus _ _ _ s (Sha.rounds (Sha.sched ((M.drop (64 * n)).take 64) 64) 64 s) hb gv' cv' (.slice (some ⟨g2, 0, none⟩) ml cap2) (.slice (some ⟨gk, 0, none⟩) 64 64) (.int .i64 ((64 * n : Nat) : Int)) w6 a1 hsok (Sha.rounds_ok hsok _) hcv6 hne6 (range_lt hr6) (hS.only _ ⟨rfl, rfl, rfl, rfl, rfl, rfl, trivial⟩) hh6 hr6 ?_
    intro a7 w7 hG7 hS7 hh7
    refine reg_seq ?_
    refine seq_is hS7 (by decide) (runs_move rfl) (fun a1 hS => ?_)
    refine seq_is hS (by decide) (runs_add rfl rfl ((IntWalk.i64_in _ (by omega)).trans (show ((64 * n : Nat) : Int) + 64 = ((64 * (n + 1) : Nat) : Int) by omega))) (fun a1 hS => ?_)
    refine seq_is hS (by decide) (runs_assign rfl) (fun a1 hS => ?_)
    refine nil_ok ⟨nb - (n + 1), by omega, n + 1, by omega, rfl, hS.only _ ⟨rfl, rfl, rfl, rfl, trivial⟩, grown_trans' hgV6 hG7 hh6.lt, ?_⟩
    rw [Sha.run_succ, hsn]
    exact hh7
end Go.Proofs.YtooeahpkhocaeaaGreatDoor
/- The document's own Of: the contract. Conditions: at most 1000 bytes. -/
namespace Go.Proofs.YtooeahpkhocaeaaGreatDoor
open Go.RowKit
set_option maxRecDepth 100000

theorem rem64 (y c : Nat) (d : Int) (hd : d = (c : Int)) : (y : Int).tmod d = ((y % c : Nat) : Int) := by
  subst hd
  rw [Int.tmod_eq_emod_of_nonneg (by omega)]; simp
theorem be4_step (l : List Nat) (i : Nat) (hi : i < l.length) : (l.take (i + 1)).flatMap Sha.be4 = (l.take i).flatMap Sha.be4 ++ Sha.be4 (l.getD i 0) := by
  rw [List.take_add_one, List.getElem?_eq_getElem hi, List.flatMap_append, List.getD_eq_getElem?_getD, List.getElem?_eq_getElem hi]
  simp
theorem be4_length (l : List Nat) : (l.flatMap Sha.be4).length = 4 * l.length := by
  induction l with
  | nil => rfl
  | cons x l ih => rw [List.flatMap_cons, List.length_append, ih]; simp [Sha.be4]; omega
set_option maxRecDepth 100000 in
set_option maxHeartbeats 1000000 in
theorem of_out (N R : Act → World → Prop) (X : Nat → Act → World → Prop) (l : List Nat) (hb : Nat) (v23 : Value) (V w : World) (a : Act) (hl : l.length = 8) (hlt : ∀ i, l.getD i 0 < 4294967296) (hne : v23 ≠ .slice none 0 0) (hhb : hb < V.heap.size)
    (hS : Sees 304 [(23, v23), (24, .int .i64 0), (7, .slice (some ⟨hb, 0, none⟩) 8 8)] a) (hh : Has V hb tyU64 (U64 l)) (hown : w.ownsRow V.heap.size tyByte 1 v23 0 []) (hB : Below V.heap.size V w)
    (h : ∀ a' w' v', v' ≠ .slice none 0 0 → Sees 304 [(23, v')] a' → w'.ownsRow V.heap.size tyByte 1 v' 32 (U8 (l.flatMap Sha.be4)) → Below V.heap.size V w' → N a' w') :
    (ofBlk 12).wp Tryz.prog (Qx N X R) a w := by
  refine qx_for (fun m a w => ∃ t v23, t ≤ 8 ∧ m = 8 - t ∧ v23 ≠ Value.slice none 0 0 ∧ Sees 304 [(23, v23), (24, .int .i64 (t : Int)), (7, .slice (some ⟨hb, 0, none⟩) 8 8)] a ∧ w.ownsRow V.heap.size tyByte 1 v23 (4 * t) (U8 ((l.take t).flatMap Sha.be4)) ∧ Below V.heap.size V w) 8 ⟨0, v23, by omega, rfl, hne, hS, hown, hB⟩ ?_
  rintro m a w ⟨t, v23, ht, rfl, hne, hS, hown, hB⟩
  refine reg_seq ?_
  refine seq_is hS (by decide) (runs_move rfl) (fun a1 hS => ?_)
  refine seq_is hS (by decide) (runs_lss rfl rfl rfl) (fun a1 hS => ?_)
  refine nil_ok ⟨_, hS.eval rfl, fun hf => ?_, fun htr => ?_⟩
  · have : t = 8 := by simp at hf; omega
    subst this
    rw [List.take_of_length_le (by omega)] at hown
    exact h a1 w v23 hne (hS.only _ ⟨rfl, trivial⟩) hown hB
  · have htt : t < 8 := by simp at htr; omega
    have hx := hlt t
    have cx : w.cell? ⟨hb, 0 + t, none⟩ = some (.int .u64 ((l.getD t 0 : Nat) : Int)) := by
      rw [Nat.zero_add, (hh.below hB hhb).cell]; exact U64_get (by omega)
    have hst := be4_step l t (by omega)
    generalize l.getD t 0 = x at *
    refine qx_seq (qx_block (reg_tail1 (Drawn w) 27 3 mixed rfl rfl (by decide) rfl (by omega) (by kernel_rfl) (by kernel_rfl) (by kernel_rfl) (by kernel_rfl) hS (Drawn.refl w) (fun _ h => h.drew) ?_))
    refine qs_skip rfl ?_
    refine qs_is rfl (fun w hw => runs_move rfl) ?_
    refine qs_is rfl (fun w hw => runs_move rfl) ?_
    refine qs_is rfl (fun w hw => runs_indexAddr (j := t) rfl rfl undU64s infU64 rfl (by omega)) ?_
    refine qs_is rfl (fun w hw => runs_load rfl rfl (hw.cell cx)) ?_
    refine qs_is rfl (fun w hw => runs_quo rfl rfl (by decide) (quo64 x 16777216 16777216 rfl hx)) ?_
    refine qs_is rfl (fun w hw => runs_convInt rfl rfl undByte (IntWalk.u8_in _ (by omega))) ?_
    refine qs_is rfl (fun w hw => runs_move rfl) ?_
    refine qs_is rfl (fun w hw => runs_move rfl) ?_
    refine qs_is rfl (fun w hw => runs_indexAddr (j := t) rfl rfl undU64s infU64 rfl (by omega)) ?_
    refine qs_is rfl (fun w hw => runs_load rfl rfl (hw.cell cx)) ?_
    refine qs_is rfl (fun w hw => runs_quo rfl rfl (by decide) (quo64 x 65536 65536 rfl hx)) ?_
    refine qs_is rfl (fun w hw => runs_rem rfl rfl (by decide) (rem64 (x / 65536) 256 256 rfl)) ?_
    refine qs_is rfl (fun w hw => runs_convInt rfl rfl undByte (IntWalk.u8_in _ (by omega))) ?_
    refine qs_is rfl (fun w hw => runs_move rfl) ?_
    refine qs_is rfl (fun w hw => runs_move rfl) ?_
    refine qs_is rfl (fun w hw => runs_indexAddr (j := t) rfl rfl undU64s infU64 rfl (by omega)) ?_
    refine qs_is rfl (fun w hw => runs_load rfl rfl (hw.cell cx)) ?_
    refine qs_is rfl (fun w hw => runs_quo rfl rfl (by decide) (quo64 x 256 256 rfl hx)) ?_
    refine qs_is rfl (fun w hw => runs_rem rfl rfl (by decide) (rem64 (x / 256) 256 256 rfl)) ?_
    refine qs_is rfl (fun w hw => runs_convInt rfl rfl undByte (IntWalk.u8_in _ (by omega))) ?_
    refine qs_is rfl (fun w hw => runs_move rfl) ?_
    refine qs_is rfl (fun w hw => runs_move rfl) ?_
    refine qs_is rfl (fun w hw => runs_indexAddr (j := t) rfl rfl undU64s infU64 rfl (by omega)) ?_
    refine qs_is rfl (fun w hw => runs_load rfl rfl (hw.cell cx)) ?_
    refine qs_is rfl (fun w hw => runs_rem rfl rfl (by decide) (rem64 x 256 256 rfl)) ?_
    refine qs_is rfl (fun w hw => runs_convInt rfl rfl undByte (IntWalk.u8_in _ (by omega))) ?_
    refine (fun a5 w5 hS5 hw5 => ?_)
    obtain ⟨i0, hi, hz0, hzs, hzb⟩ := info_parts info5b
    refine tail_op 27 (by kernel_rfl) rfl hS5 (by decide) (runs_buildSlice (pv := [(0, .int .u8 ((x / 16777216 : Nat) : Int)), (1, .int .u8 ((x / 65536 % 256 : Nat) : Int)), (2, .int .u8 ((x / 256 % 256 : Nat) : Int)), (3, .int .u8 ((x % 256 : Nat) : Int))]) rfl undBytes hi hz0 hzs (by omega) (by omega) (cells := (U8 (Sha.be4 x)).toArray) (by kernel_rfl)) (fun v w6 a6 hp hS6 => ⟨trivial, ?_⟩)
    obtain ⟨rfl, rfl⟩ := hp
    have hB5 : Below V.heap.size V (w5.alloc (.cells (U8 (Sha.be4 x)).toArray tyByte)) := (hB.trans ((hw5.below _).mono (Nat.le_refl _))).alloc (by have := hw5.size; have := hB.size; omega) _
    refine tail_op 28 (by kernel_rfl) rfl hS6 (by decide) (runs_append undBytes hi hz0 hzs hzb rfl rfl (World.ownsRow.alloc (w := w5) (hw5.owns hown) _) rfl rfl (news := U8 (Sha.be4 x)) (fun j u hj => by rw [add_zero_addr, Nat.zero_add, (Has.new w5 tyByte (U8 (Sha.be4 x))).cell]; exact hj) (U8_one _) (by unfold maxLen; omega) (by omega) (by have := hB5.size; omega) (by omega)) (fun v' w7 a7 hp hS7 => ⟨trivial, ?_⟩)
    obtain ⟨hown7, hgr7, hne7⟩ := hp
    refine tail_op 29 (by kernel_rfl) rfl hS7 (by decide) (runs_assign rfl) (fun v w8 a8 hp hS8 => ⟨trivial, ?_⟩)
    obtain ⟨rfl, rfl⟩ := hp
    refine wpAnyH_done (by kernel_rfl) ?_ _
    rw [← U8_append, ← hst, show 4 * t + 4 = 4 * (t + 1) by omega] at hown7
    have hB7 := below_grown hB5 hgr7 (fun g hg => (hown.lt g hg).1) (by have := hB5.size; omega)
    refine reg_seq ?_
    refine seq_is hS8 (by decide) (runs_move rfl) (fun a1 hS => ?_)
    refine seq_is hS (by decide) (runs_add rfl rfl ((IntWalk.i64_in _ (by omega)).trans (show (t : Int) + 1 = ((t + 1 : Nat) : Int) by omega))) (fun a1 hS => ?_)
    refine seq_is hS (by decide) (runs_assign rfl) (fun a1 hS => ?_)
    exact nil_ok ⟨8 - (t + 1), by omega, t + 1, _, by omega, rfl, hne7, hS.only _ ⟨rfl, rfl, rfl, trivial⟩, hown7, hB7⟩
end Go.Proofs.YtooeahpkhocaeaaGreatDoor
