/- The document's own Of: one of the 64 rounds of a block. Conditions: the numbers have 32 bits. -/
import Derived.Test.YtlldcicnakdjmaaDoorOfTab
namespace Go.Proofs.YtlldcicnakdjmaaDoor
open Go.RowKit

set_option maxRecDepth 100000 in
set_option maxHeartbeats 1000000 in
theorem of_round (N R : Act → World → Prop) (X : Nat → Act → World → Prop) (r : Sha.St) (t k x gk gw gv cw cv : Nat) (B : Value) (s7 s8 : Value) (V w : World) (a : Act) (hr : r.Ok) (ht : t < 64) (hk : k < 4294967296) (hx : x < 4294967296) (_hcv : 8 ≤ cv)
    (hS : Sees 304 [(14, .slice (some ⟨gv, 0, none⟩) 8 cv), (15, .int .i64 (t : Int)), (9, .slice (some ⟨gw, 0, none⟩) 64 cw), (6, .slice (some ⟨gk, 0, none⟩) 64 64), (3, B), (7, s7), (8, s8)] a) (hw : Drawn V w)
    (hv : V.rangeAt gv 0 (U64 r.list)) (ck : V.cell? ⟨gk, t, none⟩ = some (.int .u64 (k : Int))) (cww : V.cell? ⟨gw, t, none⟩ = some (.int .u64 (x : Int)))
    (h : ∀ a' w1, Drawn V w1 → Sees 304 [(14, .slice (some ⟨w1.heap.size, 0, none⟩) 8 8), (15, .int .i64 (t : Int)), (9, .slice (some ⟨gw, 0, none⟩) 64 cw), (6, .slice (some ⟨gk, 0, none⟩) 64 64), (3, B), (7, s7), (8, s8)] a' → N a' (w1.alloc (.cells (U64 (Sha.rnd k x r).list).toArray tyU64))) :
    (ofBlk 9).wp Tryd.prog (Qx N X R) a w := by
  have h0 := hr.a
  have h1 := hr.b
  have h2 := hr.c
  have h3 := hr.d
  have h4 := hr.e
  have h5 := hr.f
  have h6 := hr.g
  have h7 := hr.h
  have c0 : V.cell? ⟨gv, 0 + 0, none⟩ = some (.int .u64 (r.a : Int)) := hv 0 _ rfl
  have c1 : V.cell? ⟨gv, 0 + 1, none⟩ = some (.int .u64 (r.b : Int)) := hv 1 _ rfl
  have c2 : V.cell? ⟨gv, 0 + 2, none⟩ = some (.int .u64 (r.c : Int)) := hv 2 _ rfl
  have c3 : V.cell? ⟨gv, 0 + 3, none⟩ = some (.int .u64 (r.d : Int)) := hv 3 _ rfl
  have c4 : V.cell? ⟨gv, 0 + 4, none⟩ = some (.int .u64 (r.e : Int)) := hv 4 _ rfl
  have c5 : V.cell? ⟨gv, 0 + 5, none⟩ = some (.int .u64 (r.f : Int)) := hv 5 _ rfl
  have c6 : V.cell? ⟨gv, 0 + 6, none⟩ = some (.int .u64 (r.g : Int)) := hv 6 _ rfl
  have c7 : V.cell? ⟨gv, 0 + 7, none⟩ = some (.int .u64 (r.h : Int)) := hv 7 _ rfl
  have he1 := Sha.e1_lt h4
  have he0 := Sha.e0_lt h0
  have hch := Sha.ch_lt (f := r.f) h4 h6
  have hmj := Sha.maj_lt (c := r.c) h0 h1
  have ht1 : Sha.t1 k x r = r.h + Sha.e1 r.e + Sha.ch r.e r.f r.g + k + x := rfl
  have ht2 : Sha.t2 r = Sha.e0 r.a + Sha.maj r.a r.b r.c := rfl
  show Code.wp _ (Code.block 9 _) _ _ _
  refine qx_block (qx_seq (reg_quiet (Drawn V) mixed (by kernel_rfl) hS hw (fun _ h => h.drew) ?_))
  refine qs_is rfl (fun w hw => runs_move rfl) ?_
  refine qs_is rfl (fun w hw => runs_indexAddr (j := 0) rfl rfl undU64s infU64 rfl (by omega)) ?_
  refine qs_is rfl (fun w hw => runs_load rfl rfl (hw.cell c0)) ?_
  refine qs_is rfl (fun w hw => runs_move rfl) ?_
  refine qs_is rfl (fun w hw => runs_indexAddr (j := 4) rfl rfl undU64s infU64 rfl (by omega)) ?_
  refine qs_is rfl (fun w hw => runs_load rfl rfl (hw.cell c4)) ?_
  refine qs_is rfl (fun w hw => runs_assign rfl) ?_
  refine qs_is rfl (fun w hw => runs_assign rfl) ?_
  refine (fun a1 w1 hS1 hw1 => ?_)
  replace hS1 := hS1.only [(16, .int .u64 (r.a : Int)), (17, .int .u64 (r.e : Int)), (14, .slice (some ⟨gv, 0, none⟩) 8 cv), (15, .int .i64 (t : Int)), (9, .slice (some ⟨gw, 0, none⟩) 64 cw), (6, .slice (some ⟨gk, 0, none⟩) 64 64), (3, B), (7, s7), (8, s8)] ⟨rfl, rfl, rfl, rfl, rfl, rfl, rfl, rfl, rfl, trivial⟩
  clear hS hw
  refine qx_seq (reg_quiet (Drawn V) mixed (by kernel_rfl) hS1 hw1 (fun _ h => h.drew) ?_)
  refine qs_is rfl (fun w hw => runs_move rfl) ?_
  refine qs_is rfl (fun w hw => runs_move rfl) ?_
  refine qs_is rfl (fun w hw => runs_indexAddr (j := 5) rfl rfl undU64s infU64 rfl (by omega)) ?_
  refine qs_is rfl (fun w hw => runs_load rfl rfl (hw.cell c5)) ?_
  refine qs_is rfl (fun w hw => runs_and rfl rfl (a64 _ _ h4 h5)) ?_
  refine qs_is rfl (fun w hw => runs_move rfl) ?_
  refine qs_is rfl (fun w hw => runs_sub rfl rfl ((IntWalk.u64_in _ (by omega)).trans (show _ = ((4294967295 - r.e : Nat) : Int) by omega))) ?_
  refine qs_is rfl (fun w hw => runs_move rfl) ?_
  refine qs_is rfl (fun w hw => runs_indexAddr (j := 6) rfl rfl undU64s infU64 rfl (by omega)) ?_
  refine qs_is rfl (fun w hw => runs_load rfl rfl (hw.cell c6)) ?_
  refine qs_is rfl (fun w hw => runs_and rfl rfl (a64 _ _ (by omega) h6)) ?_
  refine qs_is rfl (fun w hw => runs_xor rfl rfl (x64 _ _ (Sha.and_lt h5) (Sha.and_lt h6))) ?_
  refine qs_is rfl (fun w hw => runs_assign rfl) ?_
  refine (fun a2 w2 hS2 hw2 => ?_)
  replace hS2 := hS2.only [(18, .int .u64 ((Sha.ch r.e r.f r.g : Nat) : Int)), (16, .int .u64 (r.a : Int)), (17, .int .u64 (r.e : Int)), (14, .slice (some ⟨gv, 0, none⟩) 8 cv), (15, .int .i64 (t : Int)), (9, .slice (some ⟨gw, 0, none⟩) 64 cw), (6, .slice (some ⟨gk, 0, none⟩) 64 64), (3, B), (7, s7), (8, s8)] ⟨rfl, rfl, rfl, rfl, rfl, rfl, rfl, rfl, rfl, rfl, trivial⟩
  clear hS1 hw1
  refine qx_seq (reg_quiet (Drawn V) mixed (by kernel_rfl) hS2 hw2 (fun _ h => h.drew) ?_)
  refine qs_is rfl (fun w hw => runs_move rfl) ?_
  refine qs_is rfl (fun w hw => runs_move rfl) ?_
  refine qs_is rfl (fun w hw => runs_indexAddr (j := 1) rfl rfl undU64s infU64 rfl (by omega)) ?_
  refine qs_is rfl (fun w hw => runs_load rfl rfl (hw.cell c1)) ?_
  refine qs_is rfl (fun w hw => runs_and rfl rfl (a64 _ _ h0 h1)) ?_
  refine qs_is rfl (fun w hw => runs_move rfl) ?_
  refine qs_is rfl (fun w hw => runs_move rfl) ?_
  refine qs_is rfl (fun w hw => runs_indexAddr (j := 2) rfl rfl undU64s infU64 rfl (by omega)) ?_
  refine qs_is rfl (fun w hw => runs_load rfl rfl (hw.cell c2)) ?_
  refine qs_is rfl (fun w hw => runs_and rfl rfl (a64 _ _ h0 h2)) ?_
  refine qs_is rfl (fun w hw => runs_xor rfl rfl (x64 _ _ (Sha.and_lt h1) (Sha.and_lt h2))) ?_
  refine qs_is rfl (fun w hw => runs_move rfl) ?_
  refine qs_is rfl (fun w hw => runs_indexAddr (j := 1) rfl rfl undU64s infU64 rfl (by omega)) ?_
  refine qs_is rfl (fun w hw => runs_load rfl rfl (hw.cell c1)) ?_
  refine qs_is rfl (fun w hw => runs_move rfl) ?_
  refine qs_is rfl (fun w hw => runs_indexAddr (j := 2) rfl rfl undU64s infU64 rfl (by omega)) ?_
  refine qs_is rfl (fun w hw => runs_load rfl rfl (hw.cell c2)) ?_
  refine qs_is rfl (fun w hw => runs_and rfl rfl (a64 _ _ h1 h2)) ?_
  refine qs_is rfl (fun w hw => runs_xor rfl rfl (x64 _ _ (Sha.xor_lt (Sha.and_lt h1) (Sha.and_lt h2)) (Sha.and_lt h2))) ?_
  refine qs_is rfl (fun w hw => runs_assign rfl) ?_
  refine (fun a3 w3 hS3 hw3 => ?_)
  replace hS3 := hS3.only [(19, .int .u64 ((Sha.maj r.a r.b r.c : Nat) : Int)), (18, .int .u64 ((Sha.ch r.e r.f r.g : Nat) : Int)), (16, .int .u64 (r.a : Int)), (17, .int .u64 (r.e : Int)), (14, .slice (some ⟨gv, 0, none⟩) 8 cv), (15, .int .i64 (t : Int)), (9, .slice (some ⟨gw, 0, none⟩) 64 cw), (6, .slice (some ⟨gk, 0, none⟩) 64 64), (3, B), (7, s7), (8, s8)] ⟨rfl, rfl, rfl, rfl, rfl, rfl, rfl, rfl, rfl, rfl, rfl, trivial⟩
  clear hS2 hw2
  refine qx_seq (reg_quiet (Drawn V) mixed (by kernel_rfl) hS3 hw3 (fun _ h => h.drew) ?_)
  refine qs_is rfl (fun w hw => runs_move rfl) ?_
  refine qs_is rfl (fun w hw => runs_indexAddr (j := 7) rfl rfl undU64s infU64 rfl (by omega)) ?_
  refine qs_is rfl (fun w hw => runs_load rfl rfl (hw.cell c7)) ?_
  refine qs_is rfl (fun w hw => runs_move rfl) ?_
  refine qs_op rfl (fun w hw => turn_run 6 hw rfl rfl rfl h4 (by omega) (by omega)) ?_
  refine qs_is rfl (fun w hw => runs_move rfl) ?_
  refine qs_op rfl (fun w hw => turn_run 11 hw rfl rfl rfl h4 (by omega) (by omega)) ?_
  refine qs_is rfl (fun w hw => runs_xor rfl rfl (x64 _ _ (Sha.rotr_lt (by omega) h4) (Sha.rotr_lt (by omega) h4))) ?_
  refine qs_is rfl (fun w hw => runs_move rfl) ?_
  refine qs_op rfl (fun w hw => turn_run 25 hw rfl rfl rfl h4 (by omega) (by omega)) ?_
  refine qs_is rfl (fun w hw => runs_xor rfl rfl (x64 _ _ (Sha.xor_lt (Sha.rotr_lt (by omega) h4) (Sha.rotr_lt (by omega) h4)) (Sha.rotr_lt (by omega) h4))) ?_
  refine qs_is rfl (fun w hw => runs_add rfl rfl ((IntWalk.u64_in _ (by show _ ∧ (r.h : Int) + ((Sha.e1 r.e : Nat) : Int) ≤ _; omega)).trans (show _ = ((r.h + Sha.e1 r.e : Nat) : Int) from rfl))) ?_
  refine qs_is rfl (fun w hw => runs_move rfl) ?_
  refine qs_is rfl (fun w hw => runs_add rfl rfl ((IntWalk.u64_in _ (by omega)).trans (show _ = ((r.h + Sha.e1 r.e + Sha.ch r.e r.f r.g : Nat) : Int) from rfl))) ?_
  refine qs_is rfl (fun w hw => runs_move rfl) ?_
  refine qs_is rfl (fun w hw => runs_move rfl) ?_
  refine qs_is rfl (fun w hw => runs_indexAddr (j := t) rfl rfl undU64s infU64 rfl ht) ?_
  refine qs_is rfl (fun w hw => runs_load rfl rfl (hw.cell (by rw [Nat.zero_add]; exact ck))) ?_
  refine qs_is rfl (fun w hw => runs_add rfl rfl ((IntWalk.u64_in _ (by omega)).trans (show _ = ((r.h + Sha.e1 r.e + Sha.ch r.e r.f r.g + k : Nat) : Int) from rfl))) ?_
  refine qs_is rfl (fun w hw => runs_move rfl) ?_
  refine qs_is rfl (fun w hw => runs_move rfl) ?_
  refine qs_is rfl (fun w hw => runs_indexAddr (j := t) rfl rfl undU64s infU64 rfl ht) ?_
  refine qs_is rfl (fun w hw => runs_load rfl rfl (hw.cell (by rw [Nat.zero_add]; exact cww))) ?_
  refine qs_is rfl (fun w hw => runs_add rfl rfl ((IntWalk.u64_in _ (by omega)).trans (show _ = ((Sha.t1 k x r : Nat) : Int) from rfl))) ?_
  refine qs_is rfl (fun w hw => runs_assign rfl) ?_
  refine (fun a4 w4 hS4 hw => ?_)
  have hS := hS4.only [(20, .int .u64 ((Sha.t1 k x r : Nat) : Int)), (19, .int .u64 ((Sha.maj r.a r.b r.c : Nat) : Int)), (16, .int .u64 (r.a : Int)), (17, .int .u64 (r.e : Int)), (14, .slice (some ⟨gv, 0, none⟩) 8 cv), (15, .int .i64 (t : Int)), (9, .slice (some ⟨gw, 0, none⟩) 64 cw), (6, .slice (some ⟨gk, 0, none⟩) 64 64), (3, B), (7, s7), (8, s8)] ⟨rfl, rfl, rfl, rfl, rfl, rfl, rfl, rfl, rfl, rfl, rfl, trivial⟩
  clear hS3 hw3 hS4
  refine qx_seq (reg_seq ?_)
  refine seq_is hS (by decide) (runs_move rfl) (fun a1 hS => ?_)
  refine seq_op hS (by decide) (turn_run 2 hw rfl rfl rfl h0 (by omega) (by omega)) (fun v w1 a1 hp hS => ?_)
  obtain ⟨rfl, hw⟩ := hp
  refine seq_is hS (by decide) (runs_move rfl) (fun a1 hS => ?_)
  refine seq_op hS (by decide) (turn_run 13 hw rfl rfl rfl h0 (by omega) (by omega)) (fun v w1 a1 hp hS => ?_)
  obtain ⟨rfl, hw⟩ := hp
  refine seq_is hS (by decide) (runs_xor rfl rfl (x64 _ _ (Sha.rotr_lt (by omega) h0) (Sha.rotr_lt (by omega) h0))) (fun a1 hS => ?_)
  refine seq_is hS (by decide) (runs_move rfl) (fun a1 hS => ?_)
  refine seq_op hS (by decide) (turn_run 22 hw rfl rfl rfl h0 (by omega) (by omega)) (fun v w1 a1 hp hS => ?_)
  obtain ⟨rfl, hw⟩ := hp
  refine seq_is hS (by decide) (runs_xor rfl rfl (x64 _ _ (Sha.xor_lt (Sha.rotr_lt (by omega) h0) (Sha.rotr_lt (by omega) h0)) (Sha.rotr_lt (by omega) h0))) (fun a1 hS => ?_)
  refine seq_is hS (by decide) (runs_move rfl) (fun a1 hS => ?_)
  refine seq_is hS (by decide) (runs_add rfl rfl ((IntWalk.u64_in _ (by show _ ∧ ((Sha.e0 r.a : Nat) : Int) + _ ≤ _; omega)).trans (show _ = ((Sha.t2 r : Nat) : Int) from rfl))) (fun a1 hS => ?_)
  refine seq_is hS (by decide) (runs_assign rfl) (fun a1 hS => ?_)
  refine wpList_nil ?_
  replace hS := hS.only [(21, .int .u64 ((Sha.t2 r : Nat) : Int)), (20, .int .u64 ((Sha.t1 k x r : Nat) : Int)), (16, .int .u64 (r.a : Int)), (17, .int .u64 (r.e : Int)), (14, .slice (some ⟨gv, 0, none⟩) 8 cv), (15, .int .i64 (t : Int)), (9, .slice (some ⟨gw, 0, none⟩) 64 cw), (6, .slice (some ⟨gk, 0, none⟩) 64 64), (3, B), (7, s7), (8, s8)] ⟨rfl, rfl, rfl, rfl, rfl, rfl, rfl, rfl, rfl, rfl, rfl, trivial⟩
  refine reg_tail (Drawn V) 24 2 mixed rfl (by kernel_rfl) hS hw (fun _ h => h.drew) ?_
  refine qs_is rfl (fun w hw => runs_move rfl) ?_
  refine qs_is rfl (fun w hw => runs_move rfl) ?_
  refine qs_is rfl (fun w hw => runs_add rfl rfl ((IntWalk.u64_in _ (by omega)).trans (show _ = ((Sha.t1 k x r + Sha.t2 r : Nat) : Int) from rfl))) ?_
  refine qs_op rfl (fun w hw => cut_run hw rfl) ?_
  refine qs_is rfl (fun w hw => runs_move rfl) ?_
  refine qs_is rfl (fun w hw => runs_move rfl) ?_
  refine qs_is rfl (fun w hw => runs_indexAddr (j := 1) rfl rfl undU64s infU64 rfl (by omega)) ?_
  refine qs_is rfl (fun w hw => runs_load rfl rfl (hw.cell c1)) ?_
  refine qs_is rfl (fun w hw => runs_move rfl) ?_
  refine qs_is rfl (fun w hw => runs_indexAddr (j := 2) rfl rfl undU64s infU64 rfl (by omega)) ?_
  refine qs_is rfl (fun w hw => runs_load rfl rfl (hw.cell c2)) ?_
  refine qs_is rfl (fun w hw => runs_move rfl) ?_
  refine qs_is rfl (fun w hw => runs_indexAddr (j := 3) rfl rfl undU64s infU64 rfl (by omega)) ?_
  refine qs_is rfl (fun w hw => runs_load rfl rfl (hw.cell c3)) ?_
  refine qs_is rfl (fun w hw => runs_move rfl) ?_
  refine qs_is rfl (fun w hw => runs_add rfl rfl ((IntWalk.u64_in _ (by omega)).trans (show _ = ((r.d + Sha.t1 k x r : Nat) : Int) from rfl))) ?_
  refine qs_op rfl (fun w hw => cut_run hw rfl) ?_
  refine qs_is rfl (fun w hw => runs_move rfl) ?_
  refine qs_is rfl (fun w hw => runs_move rfl) ?_
  refine qs_is rfl (fun w hw => runs_indexAddr (j := 5) rfl rfl undU64s infU64 rfl (by omega)) ?_
  refine qs_is rfl (fun w hw => runs_load rfl rfl (hw.cell c5)) ?_
  refine qs_is rfl (fun w hw => runs_move rfl) ?_
  refine qs_is rfl (fun w hw => runs_indexAddr (j := 6) rfl rfl undU64s infU64 rfl (by omega)) ?_
  refine qs_is rfl (fun w hw => runs_load rfl rfl (hw.cell c6)) ?_
  refine (fun a5 w5 hS5 hw5 => ?_)
  obtain ⟨i0, hi, hz0, hzs, hzb⟩ := info_parts infU64b
  refine tail_op 24 (by kernel_rfl) rfl hS5 (by decide) (runs_buildSlice (pv := [(0, .int .u64 (((Sha.t1 k x r + Sha.t2 r) % 4294967296 : Nat) : Int)), (1, .int .u64 (r.a : Int)), (2, .int .u64 (r.b : Int)), (3, .int .u64 (r.c : Int)), (4, .int .u64 (((r.d + Sha.t1 k x r) % 4294967296 : Nat) : Int)), (5, .int .u64 (r.e : Int)), (6, .int .u64 (r.f : Int)), (7, .int .u64 (r.g : Int))]) rfl undU64s hi hz0 hzs (by omega) (by omega) (cells := (U64 (Sha.rnd k x r).list).toArray) (by kernel_rfl)) (fun v w6 a6 hp hS6 => ⟨trivial, ?_⟩)
  obtain ⟨rfl, rfl⟩ := hp
  refine tail_op 25 (by kernel_rfl) rfl hS6 (by decide) (runs_assign rfl) (fun v w7 a7 hp hS7 => ⟨trivial, ?_⟩)
  obtain ⟨rfl, rfl⟩ := hp
  refine wpAnyH_done (by kernel_rfl) ?_ _
  exact h a7 w5 hw5 (hS7.only [(14, .slice (some ⟨w5.heap.size, 0, none⟩) 8 8), (15, .int .i64 (t : Int)), (9, .slice (some ⟨gw, 0, none⟩) 64 cw), (6, .slice (some ⟨gk, 0, none⟩) 64 64), (3, B), (7, s7), (8, s8)] ⟨rfl, rfl, rfl, rfl, rfl, rfl, rfl, trivial⟩)
end Go.Proofs.YtlldcicnakdjmaaDoor
