/- The document's own Of: a block's 64 numbers. Conditions: bytes. -/
import Derived.Test.YtlldcicnakdjmaaDoorOf5b
namespace Go.Proofs.YtlldcicnakdjmaaDoor
open Go.RowKit

theorem quo64 (x c : Nat) (d : Int) (hd : d = (c : Int)) (hx : x < 4294967296) : IntKind.u64.wrap ((x : Int).tdiv d) = ((x / c : Nat) : Int) := by
  subst hd
  rw [Int.tdiv_eq_ediv_of_nonneg (by omega), show (x : Int) / (c : Int) = ((x / c : Nat) : Int) by simp]
  exact u64_nat _ (by have := Nat.div_le_self x c; omega)
set_option maxRecDepth 100000 in
set_option maxHeartbeats 1000000 in
theorem of_word (N R : Act → World → Prop) (X : Nat → Act → World → Prop) (M : List Nat) (t A g2 ml cap2 : Nat) (s6 s7 v9 : Value) (V0 w : World) (a : Act) (ht : t < 16) (hA : A + 64 ≤ M.length) (hml : M.length = ml) (hmc : ml ≤ cap2) (hml2 : ml ≤ 2000) (hby : Sha.Bytes M) (hg2 : g2 < V0.heap.size)
    (hS : Sees 304 [(9, v9), (10, .int .i64 (t : Int)), (3, .slice (some ⟨g2, 0, none⟩) ml cap2), (8, .int .i64 (A : Int)), (6, s6), (7, s7)] a) (hM : V0.rangeAt g2 0 (U8 M)) (hown : w.ownsRow V0.heap.size tyU64 1 v9 t (U64 (Sha.sched ((M.drop A).take 64) t))) (hB : Below V0.heap.size V0 w)
    (h : ∀ a' w' v', Sees 304 [(9, v'), (10, .int .i64 (t : Int)), (3, .slice (some ⟨g2, 0, none⟩) ml cap2), (8, .int .i64 (A : Int)), (6, s6), (7, s7)] a' → w'.ownsRow V0.heap.size tyU64 1 v' (t + 1) (U64 (Sha.sched ((M.drop A).take 64) (t + 1))) → Below V0.heap.size V0 w' → v' ≠ .slice none 0 0 → N a' w') :
    (ofBlk 7).wp Tryd.prog (Qx N X R) a w := by
  have hcell : ∀ j, j < 4 → w.cell? ⟨g2, 0 + (A + 4 * t) + j, none⟩ = some (.int .u8 (((M.drop A).take 64).getD (4 * t + j) 0 : Nat)) := fun j hj => by
    rw [block_get _ _ _ (by omega), show 0 + (A + 4 * t) + j = 0 + (A + (4 * t + j)) by omega]
    exact range_below hM hB hg2 _ _ (U8_get (by omega))
  have hbb := block_bytes hby A
  have c0 := hcell 0 (by omega)
  have c1 := hcell 1 (by omega)
  have c2 := hcell 2 (by omega)
  have c3 := hcell 3 (by omega)
  have b0 := hbb.getD (4 * t + 0)
  have b1 := hbb.getD (4 * t + 1)
  have b2 := hbb.getD (4 * t + 2)
  have b3 := hbb.getD (4 * t + 3)
  have hX := sched_more ((M.drop A).take 64) t ht
  rw [show ((M.drop A).take 64).getD (4 * t) 0 = ((M.drop A).take 64).getD (4 * t + 0) 0 from rfl] at hX
  generalize ((M.drop A).take 64).getD (4 * t + 0) 0 = x0 at *
  generalize ((M.drop A).take 64).getD (4 * t + 1) 0 = x1 at *
  generalize ((M.drop A).take 64).getD (4 * t + 2) 0 = x2 at *
  generalize ((M.drop A).take 64).getD (4 * t + 3) 0 = x3 at *
  clear hcell hbb
  show Code.wp _ (Code.block 7 _) _ _ _
  refine qx_block (qx_seq (qx_seq (reg_seq ?_)))
  refine seq_is hS (by decide) (runs_move rfl) (fun a1 hS => ?_)
  refine seq_is hS (by decide) (runs_lss (r := true) rfl rfl (by simp; omega)) (fun a1 hS => ?_)
  refine nil_ok (wp_cond_true (hS.eval rfl) (qx_seq (reg_seq ?_)))
  refine seq_is hS (by decide) (runs_move rfl) (fun a1 hS => ?_)
  refine seq_is hS (by decide) (runs_move rfl) (fun a1 hS => ?_)
  refine seq_is hS (by decide) (runs_move rfl) (fun a1 hS => ?_)
  refine seq_is hS (by decide) (runs_mul rfl rfl (IntWalk.i64_in _ (by omega))) (fun a1 hS => ?_)
  refine seq_is hS (by decide) (runs_add rfl rfl (IntWalk.i64_in _ (by omega))) (fun a1 hS => ?_)
  refine seq_is hS (by decide) (runs_move rfl) (fun a1 hS => ?_)
  refine seq_is hS (by decide) (runs_move rfl) (fun a1 hS => ?_)
  refine seq_is hS (by decide) (runs_mul rfl rfl (IntWalk.i64_in _ (by omega))) (fun a1 hS => ?_)
  refine seq_is hS (by decide) (runs_add rfl rfl (IntWalk.i64_in _ (by omega))) (fun a1 hS => ?_)
  refine seq_is hS (by decide) (runs_add rfl rfl (IntWalk.i64_in _ (by omega))) (fun a1 hS => ?_)
  refine seq_is hS (by decide) (runs_slice (l := A + 4 * t) (h := A + 4 * t + 4) rfl rfl rfl (by omega) (by omega) undBytes infByteS (by omega) (by omega) (by omega)) (fun a1 hS => ?_)
  refine seq_is hS (by decide) (runs_assign rfl) (fun a1 hS => ?_)
  refine nil_ok (qx_seq ?_)
  refine reg_tail1 (Drawn w) 23 3 mixed rfl rfl (by decide) rfl (by omega) (by kernel_rfl) (by kernel_rfl) (by kernel_rfl) (by kernel_rfl) hS (Drawn.refl w) (fun _ h => h.drew) ?_
  refine qs_skip rfl ?_
  refine qs_is rfl (fun w hw => runs_move rfl) ?_
  refine qs_is rfl (fun w hw => runs_indexAddr (j := 0) rfl rfl undBytes infByteS rfl (by omega)) ?_
  refine qs_is rfl (fun w hw => runs_load rfl rfl (hw.cell c0)) ?_
  refine qs_is rfl (fun w hw => runs_convInt rfl rfl undU64 (IntWalk.u64_in _ (by omega))) ?_
  refine qs_is rfl (fun w hw => runs_mul rfl rfl (IntWalk.u64_in _ (by omega))) ?_
  refine qs_is rfl (fun w hw => runs_move rfl) ?_
  refine qs_is rfl (fun w hw => runs_indexAddr (j := 1) rfl rfl undBytes infByteS rfl (by omega)) ?_
  refine qs_is rfl (fun w hw => runs_load rfl rfl (hw.cell c1)) ?_
  refine qs_is rfl (fun w hw => runs_convInt rfl rfl undU64 (IntWalk.u64_in _ (by omega))) ?_
  refine qs_is rfl (fun w hw => runs_mul rfl rfl (IntWalk.u64_in _ (by omega))) ?_
  refine qs_is rfl (fun w hw => runs_add rfl rfl (IntWalk.u64_in _ (by omega))) ?_
  refine qs_is rfl (fun w hw => runs_move rfl) ?_
  refine qs_is rfl (fun w hw => runs_indexAddr (j := 2) rfl rfl undBytes infByteS rfl (by omega)) ?_
  refine qs_is rfl (fun w hw => runs_load rfl rfl (hw.cell c2)) ?_
  refine qs_is rfl (fun w hw => runs_convInt rfl rfl undU64 (IntWalk.u64_in _ (by omega))) ?_
  refine qs_is rfl (fun w hw => runs_mul rfl rfl (IntWalk.u64_in _ (by omega))) ?_
  refine qs_is rfl (fun w hw => runs_add rfl rfl (IntWalk.u64_in _ (by omega))) ?_
  refine qs_is rfl (fun w hw => runs_move rfl) ?_
  refine qs_is rfl (fun w hw => runs_indexAddr (j := 3) rfl rfl undBytes infByteS rfl (by omega)) ?_
  refine qs_is rfl (fun w hw => runs_load rfl rfl (hw.cell c3)) ?_
  refine qs_is rfl (fun w hw => runs_convInt rfl rfl undU64 (IntWalk.u64_in _ (by omega))) ?_
  refine qs_is rfl (fun w hw => runs_add rfl rfl ((IntWalk.u64_in _ (by omega)).trans (show _ = ((x0 * 16777216 + x1 * 65536 + x2 * 256 + x3 : Nat) : Int) by omega))) ?_
  refine (fun a5 w5 hS5 hw5 => ?_)
  obtain ⟨i0, hi, hz0, hzs, hzb⟩ := info_parts infU64b
  refine tail_op 23 (by kernel_rfl) rfl hS5 (by decide) (runs_buildSlice (pv := [(0, .int .u64 ((x0 * 16777216 + x1 * 65536 + x2 * 256 + x3 : Nat) : Int))]) rfl undU64s hi hz0 hzs (by omega) (by omega) (cells := (U64 [x0 * 16777216 + x1 * 65536 + x2 * 256 + x3]).toArray) (by kernel_rfl)) (fun v w6 a6 hp hS6 => ⟨trivial, ?_⟩)
  obtain ⟨rfl, rfl⟩ := hp
  have hB5 : Below V0.heap.size V0 (w5.alloc (.cells (U64 [x0 * 16777216 + x1 * 65536 + x2 * 256 + x3]).toArray tyU64)) := (hB.trans ((hw5.below _).mono (Nat.le_refl _))).alloc (by have := hw5.size; have := hB.size; omega) _
  refine tail_op 24 (by kernel_rfl) rfl hS6 (by decide) (runs_append undU64s hi hz0 hzs hzb rfl rfl (World.ownsRow.alloc (w := w5) (hw5.owns hown) _) rfl rfl (news := U64 [x0 * 16777216 + x1 * 65536 + x2 * 256 + x3]) (fun j u hj => by rw [add_zero_addr, Nat.zero_add, (Has.new w5 tyU64 (U64 [x0 * 16777216 + x1 * 65536 + x2 * 256 + x3])).cell]; exact hj) (U64_one _) (by unfold maxLen; omega) (by omega) (by have := hB5.size; omega) (by omega)) (fun v' w7 a7 hp hS7 => ⟨trivial, ?_⟩)
  obtain ⟨hown7, hgr7, hne7⟩ := hp
  refine tail_op 25 (by kernel_rfl) rfl hS7 (by decide) (runs_assign rfl) (fun v w8 a8 hp hS8 => ⟨trivial, ?_⟩)
  obtain ⟨rfl, rfl⟩ := hp
  refine wpAnyH_done (by kernel_rfl) ?_ _
  rw [← U64_append] at hown7
  have hB7 := below_grown hB5 hgr7 (fun g hg => (hown.lt g hg).1) (by have := hB5.size; omega)
  rw [← hX] at hown7
  exact qx_exit (.inl ⟨rfl, h a8 _ _ (hS8.only _ ⟨rfl, rfl, rfl, rfl, rfl, rfl, trivial⟩) hown7 hB7 hne7⟩)
set_option maxRecDepth 100000 in
set_option maxHeartbeats 1000000 in
theorem of_more (N R : Act → World → Prop) (X : Nat → Act → World → Prop) (M : List Nat) (t A g2 ml cap2 : Nat) (s6 s7 v9 : Value) (V0 w : World) (a : Act) (ht : 16 ≤ t) (ht2 : t < 64) (hby : Sha.Bytes M) (hne : v9 ≠ .slice none 0 0)
    (hS : Sees 304 [(9, v9), (10, .int .i64 (t : Int)), (3, .slice (some ⟨g2, 0, none⟩) ml cap2), (8, .int .i64 (A : Int)), (6, s6), (7, s7)] a) (hown : w.ownsRow V0.heap.size tyU64 1 v9 t (U64 (Sha.sched ((M.drop A).take 64) t))) (hB : Below V0.heap.size V0 w)
    (h : ∀ a' w' v', Sees 304 [(9, v'), (10, .int .i64 (t : Int)), (3, .slice (some ⟨g2, 0, none⟩) ml cap2), (8, .int .i64 (A : Int)), (6, s6), (7, s7)] a' → w'.ownsRow V0.heap.size tyU64 1 v' (t + 1) (U64 (Sha.sched ((M.drop A).take 64) (t + 1))) → Below V0.heap.size V0 w' → v' ≠ .slice none 0 0 → N a' w') :
    (ofBlk 7).wp Tryd.prog (Qx N X R) a w := by
  have hsl : (Sha.sched ((M.drop A).take 64) t).length = t := Sha.sched_length _ _
  obtain ⟨g9, c9, rfl, hg9b, hg9, hc9, hc9m, hra⟩ := own_form hown hne
  have hX := sched_more' ((M.drop A).take 64) t ht
  have hbd : ∀ j, (Sha.sched ((M.drop A).take 64) t).getD j 0 < 4294967296 := fun j => Sha.sched_lt (block_bytes hby A) t j
  have c16 := hra (t - 16) _ (U64_get (by omega))
  have c15 := hra (t - 15) _ (U64_get (by omega))
  have c7 := hra (t - 7) _ (U64_get (by omega))
  have c2 := hra (t - 2) _ (U64_get (by omega))
  have b16 := hbd (t - 16)
  have b15 := hbd (t - 15)
  have b7 := hbd (t - 7)
  have b2 := hbd (t - 2)
  generalize (Sha.sched ((M.drop A).take 64) t).getD (t - 16) 0 = y16 at *
  generalize (Sha.sched ((M.drop A).take 64) t).getD (t - 15) 0 = x15 at *
  generalize (Sha.sched ((M.drop A).take 64) t).getD (t - 7) 0 = y7 at *
  generalize (Sha.sched ((M.drop A).take 64) t).getD (t - 2) 0 = x2 at *
  have hs0 := Sha.s0_lt b15
  have hs1 := Sha.s1_lt b2
  clear hbd
  show Code.wp _ (Code.block 7 _) _ _ _
  refine qx_block (qx_seq (qx_seq (reg_seq ?_)))
  refine seq_is hS (by decide) (runs_move rfl) (fun a1 hS => ?_)
  refine seq_is hS (by decide) (runs_lss (r := false) rfl rfl (by simp; omega)) (fun a1 hS => ?_)
  refine nil_ok (wp_cond_false (hS.eval rfl) (wp_skip ?_))
  refine qx_seq (reg_quiet (Drawn w) mixed (by kernel_rfl) hS (Drawn.refl w) (fun _ h => h.drew) ?_)
  refine qs_is rfl (fun w hw => runs_move rfl) ?_
  refine qs_is rfl (fun w hw => runs_move rfl) ?_
  refine qs_is rfl (fun w hw => runs_sub rfl rfl (IntWalk.i64_in _ (by omega))) ?_
  refine qs_is rfl (fun w hw => runs_indexAddr (j := t - 15) rfl rfl undU64s infU64 (by omega) (by omega)) ?_
  refine qs_is rfl (fun w hw => runs_load rfl rfl (hw.cell c15)) ?_
  refine qs_is rfl (fun w hw => runs_move rfl) ?_
  refine qs_is rfl (fun w hw => runs_move rfl) ?_
  refine qs_is rfl (fun w hw => runs_sub rfl rfl (IntWalk.i64_in _ (by omega))) ?_
  refine qs_is rfl (fun w hw => runs_indexAddr (j := t - 2) rfl rfl undU64s infU64 (by omega) (by omega)) ?_
  refine qs_is rfl (fun w hw => runs_load rfl rfl (hw.cell c2)) ?_
  refine qs_is rfl (fun w hw => runs_assign rfl) ?_
  refine qs_is rfl (fun w hw => runs_assign rfl) ?_
  refine (fun a2 w2 hS2 hw2 => ?_)
  replace hS2 := hS2.only [(12, .int .u64 (x15 : Int)), (13, .int .u64 (x2 : Int)), (9, .slice (some ⟨g9, 0, none⟩) t c9), (10, .int .i64 (t : Int)), (3, .slice (some ⟨g2, 0, none⟩) ml cap2), (8, .int .i64 (A : Int)), (6, s6), (7, s7)] ⟨rfl, rfl, rfl, rfl, rfl, rfl, rfl, rfl, trivial⟩
  refine reg_tail1 (Drawn w) 31 3 mixed rfl rfl (by decide) rfl (by omega) (by kernel_rfl) (by kernel_rfl) (by kernel_rfl) (by kernel_rfl) hS2 hw2 (fun _ h => h.drew) ?_
  refine qs_skip rfl ?_
  refine qs_is rfl (fun w hw => runs_move rfl) ?_
  refine qs_is rfl (fun w hw => runs_move rfl) ?_
  refine qs_is rfl (fun w hw => runs_sub rfl rfl (IntWalk.i64_in _ (by omega))) ?_
  refine qs_is rfl (fun w hw => runs_indexAddr (j := t - 16) rfl rfl undU64s infU64 (by omega) (by omega)) ?_
  refine qs_is rfl (fun w hw => runs_load rfl rfl (hw.cell c16)) ?_
  refine qs_is rfl (fun w hw => runs_move rfl) ?_
  refine qs_is rfl (fun w hw => runs_move rfl) ?_
  refine qs_is rfl (fun w hw => runs_sub rfl rfl (IntWalk.i64_in _ (by omega))) ?_
  refine qs_is rfl (fun w hw => runs_indexAddr (j := t - 7) rfl rfl undU64s infU64 (by omega) (by omega)) ?_
  refine qs_is rfl (fun w hw => runs_load rfl rfl (hw.cell c7)) ?_
  refine qs_is rfl (fun w hw => runs_add rfl rfl ((IntWalk.u64_in _ (by omega)).trans (show _ = ((y16 + y7 : Nat) : Int) from rfl))) ?_
  refine qs_is rfl (fun w hw => runs_move rfl) ?_
  refine qs_op rfl (fun w hw => turn_run 7 hw rfl rfl rfl b15 (by omega) (by omega)) ?_
  refine qs_is rfl (fun w hw => runs_move rfl) ?_
  refine qs_op rfl (fun w hw => turn_run 18 hw rfl rfl rfl b15 (by omega) (by omega)) ?_
  refine qs_is rfl (fun w hw => runs_xor rfl rfl (x64 _ _ (Sha.rotr_lt (by omega) b15) (Sha.rotr_lt (by omega) b15))) ?_
  refine qs_is rfl (fun w hw => runs_move rfl) ?_
  refine qs_is rfl (fun w hw => runs_quo rfl rfl (by decide) (quo64 x15 8 8 rfl b15)) ?_
  refine qs_is rfl (fun w hw => runs_xor rfl rfl (x64 _ _ (Sha.xor_lt (Sha.rotr_lt (by omega) b15) (Sha.rotr_lt (by omega) b15)) (by omega))) ?_
  refine qs_is rfl (fun w hw => runs_add rfl rfl ((IntWalk.u64_in _ (by show _ ∧ _ + ((Sha.s0 x15 : Nat) : Int) ≤ _; omega)).trans (show _ = ((y16 + y7 + Sha.s0 x15 : Nat) : Int) from rfl))) ?_
  refine qs_is rfl (fun w hw => runs_move rfl) ?_
  refine qs_op rfl (fun w hw => turn_run 17 hw rfl rfl rfl b2 (by omega) (by omega)) ?_
  refine qs_is rfl (fun w hw => runs_move rfl) ?_
  refine qs_op rfl (fun w hw => turn_run 19 hw rfl rfl rfl b2 (by omega) (by omega)) ?_
  refine qs_is rfl (fun w hw => runs_xor rfl rfl (x64 _ _ (Sha.rotr_lt (by omega) b2) (Sha.rotr_lt (by omega) b2))) ?_
  refine qs_is rfl (fun w hw => runs_move rfl) ?_
  refine qs_is rfl (fun w hw => runs_quo rfl rfl (by decide) (quo64 x2 1024 1024 rfl b2)) ?_
  refine qs_is rfl (fun w hw => runs_xor rfl rfl (x64 _ _ (Sha.xor_lt (Sha.rotr_lt (by omega) b2) (Sha.rotr_lt (by omega) b2)) (by omega))) ?_
  refine qs_is rfl (fun w hw => runs_add rfl rfl ((IntWalk.u64_in _ (by show _ ∧ _ + ((Sha.s1 x2 : Nat) : Int) ≤ _; omega)).trans (show _ = ((y16 + y7 + Sha.s0 x15 + Sha.s1 x2 : Nat) : Int) from rfl))) ?_
  refine qs_op rfl (fun w hw => cut_run hw rfl) ?_
  refine (fun a5 w5 hS5 hw5 => ?_)
  obtain ⟨i0, hi, hz0, hzs, hzb⟩ := info_parts infU64b
  refine tail_op 31 (by kernel_rfl) rfl hS5 (by decide) (runs_buildSlice (pv := [(0, .int .u64 (((y16 + y7 + Sha.s0 x15 + Sha.s1 x2) % 4294967296 : Nat) : Int))]) rfl undU64s hi hz0 hzs (by omega) (by omega) (cells := (U64 [(y16 + y7 + Sha.s0 x15 + Sha.s1 x2) % 4294967296]).toArray) (by kernel_rfl)) (fun v w6 a6 hp hS6 => ⟨trivial, ?_⟩)
  obtain ⟨rfl, rfl⟩ := hp
  have hB5 : Below V0.heap.size V0 (w5.alloc (.cells (U64 [(y16 + y7 + Sha.s0 x15 + Sha.s1 x2) % 4294967296]).toArray tyU64)) := (hB.trans ((hw5.below _).mono (Nat.le_refl _))).alloc (by have := hw5.size; have := hB.size; omega) _
  refine tail_op 32 (by kernel_rfl) rfl hS6 (by decide) (runs_append undU64s hi hz0 hzs hzb rfl rfl (World.ownsRow.alloc (w := w5) (hw5.owns hown) _) rfl rfl (news := U64 [(y16 + y7 + Sha.s0 x15 + Sha.s1 x2) % 4294967296]) (fun j u hj => by rw [add_zero_addr, Nat.zero_add, (Has.new w5 tyU64 (U64 [(y16 + y7 + Sha.s0 x15 + Sha.s1 x2) % 4294967296])).cell]; exact hj) (U64_one _) (by unfold maxLen; omega) (by omega) (by have := hB5.size; omega) (by omega)) (fun v' w7 a7 hp hS7 => ⟨trivial, ?_⟩)
  obtain ⟨hown7, hgr7, hne7⟩ := hp
  refine tail_op 33 (by kernel_rfl) rfl hS7 (by decide) (runs_assign rfl) (fun v w8 a8 hp hS8 => ⟨trivial, ?_⟩)
  obtain ⟨rfl, rfl⟩ := hp
  refine wpAnyH_done (by kernel_rfl) ?_ _
  rw [← U64_append] at hown7
  have hB7 := below_grown hB5 hgr7 (fun g hg => (hown.lt g hg).1) (by have := hB5.size; omega)
  rw [← hX] at hown7
  exact h a8 _ _ (hS8.only _ ⟨rfl, rfl, rfl, rfl, rfl, rfl, trivial⟩) hown7 hB7 hne7
set_option maxRecDepth 100000 in
set_option maxHeartbeats 1000000 in
theorem of_sched (N R : Act → World → Prop) (X : Nat → Act → World → Prop) (M : List Nat) (A g2 ml cap2 : Nat) (s6 s7 v9 : Value) (V0 w : World) (a : Act) (hA : A + 64 ≤ M.length) (hml : M.length = ml) (hmc : ml ≤ cap2) (hml2 : ml ≤ 2000) (hby : Sha.Bytes M) (hg2 : g2 < V0.heap.size) (hne : v9 ≠ .slice none 0 0)
    (hS : Sees 304 [(9, v9), (10, .int .i64 0), (3, .slice (some ⟨g2, 0, none⟩) ml cap2), (8, .int .i64 (A : Int)), (6, s6), (7, s7)] a) (hM : V0.rangeAt g2 0 (U8 M)) (hown : w.ownsRow V0.heap.size tyU64 1 v9 0 []) (hB : Below V0.heap.size V0 w)
    (h : ∀ a' w' g9 c9, Sees 304 [(9, .slice (some ⟨g9, 0, none⟩) 64 c9), (3, .slice (some ⟨g2, 0, none⟩) ml cap2), (8, .int .i64 (A : Int)), (6, s6), (7, s7)] a' → V0.heap.size ≤ g9 → g9 < w'.heap.size → w'.rangeAt g9 0 (U64 (Sha.sched ((M.drop A).take 64) 64)) → Below V0.heap.size V0 w' → N a' w') :
    (ofBlk 6).wp Tryd.prog (Qx N X R) a w := by
  refine qx_for (fun m a w => ∃ t v9, t ≤ 64 ∧ m = 64 - t ∧ v9 ≠ Value.slice none 0 0 ∧ Sees 304 [(9, v9), (10, .int .i64 (t : Int)), (3, .slice (some ⟨g2, 0, none⟩) ml cap2), (8, .int .i64 (A : Int)), (6, s6), (7, s7)] a ∧ w.ownsRow V0.heap.size tyU64 1 v9 t (U64 (Sha.sched ((M.drop A).take 64) t)) ∧ Below V0.heap.size V0 w) 64 ⟨0, v9, by omega, rfl, hne, hS, hown, hB⟩ ?_
  rintro m a w ⟨t, v9, ht, rfl, hne, hS, hown, hB⟩
  refine reg_seq ?_
  refine seq_is hS (by decide) (runs_move rfl) (fun a1 hS => ?_)
  refine seq_is hS (by decide) (runs_lss rfl rfl rfl) (fun a1 hS => ?_)
  refine nil_ok ⟨_, hS.eval rfl, fun hf => ?_, fun htr => ?_⟩
  · have : t = 64 := by simp at hf; omega
    subst this
    obtain ⟨g9, c9, rfl, hg9b, hg9, hc9, hc9m, hra⟩ := own_form hown hne
    exact h a1 w g9 c9 (hS.only _ ⟨rfl, rfl, rfl, rfl, rfl, trivial⟩) hg9b hg9 hra hB
  · have htt : t < 64 := by simp at htr; omega
    have cont : ∀ a' w' v', Sees 304 [(9, v'), (10, .int .i64 (t : Int)), (3, .slice (some ⟨g2, 0, none⟩) ml cap2), (8, .int .i64 (A : Int)), (6, s6), (7, s7)] a' → w'.ownsRow V0.heap.size tyU64 1 v' (t + 1) (U64 (Sha.sched ((M.drop A).take 64) (t + 1))) → Below V0.heap.size V0 w' → v' ≠ .slice none 0 0 →
        (ofReg 17).wp Tryd.prog (Qx (fun a2 w2 => ∃ m', m' < 64 - t ∧ ∃ t v9, t ≤ 64 ∧ m' = 64 - t ∧ v9 ≠ Value.slice none 0 0 ∧ Sees 304 [(9, v9), (10, .int .i64 (t : Int)), (3, .slice (some ⟨g2, 0, none⟩) ml cap2), (8, .int .i64 (A : Int)), (6, s6), (7, s7)] a2 ∧ w2.ownsRow V0.heap.size tyU64 1 v9 t (U64 (Sha.sched ((M.drop A).take 64) t)) ∧ Below V0.heap.size V0 w2) (fun i a2 w2 => (i = 6 ∧ N a2 w2) ∨ (i ≠ 6 ∧ X i a2 w2)) R) a' w' := fun a' w' v' hS hown hB hne => by
      refine reg_seq ?_
      refine seq_is hS (by decide) (runs_move rfl) (fun a1 hS => ?_)
      refine seq_is hS (by decide) (runs_add rfl rfl ((IntWalk.i64_in _ (by omega)).trans (show (t : Int) + 1 = ((t + 1 : Nat) : Int) by omega))) (fun a1 hS => ?_)
      refine seq_is hS (by decide) (runs_assign rfl) (fun a1 hS => ?_)
      exact nil_ok ⟨64 - (t + 1), by omega, t + 1, v', by omega, rfl, hne, hS.only _ ⟨rfl, rfl, rfl, rfl, rfl, rfl, trivial⟩, hown, hB⟩
    refine qx_seq ?_
    by_cases h16 : t < 16
    · exact of_word _ _ _ M t A g2 ml cap2 s6 s7 v9 V0 w a1 h16 hA hml hmc hml2 hby hg2 (hS.only _ ⟨rfl, rfl, rfl, rfl, rfl, rfl, trivial⟩) hM hown hB cont
    · exact of_more _ _ _ M t A g2 ml cap2 s6 s7 v9 V0 w a1 (by omega) htt hby hne (hS.only _ ⟨rfl, rfl, rfl, rfl, rfl, rfl, trivial⟩) hown hB cont
end Go.Proofs.YtlldcicnakdjmaaDoor
