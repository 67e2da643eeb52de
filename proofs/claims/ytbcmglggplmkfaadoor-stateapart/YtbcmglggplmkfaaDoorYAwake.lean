/- Layer 10: what the example fixes. Conditions: none of our own. -/
import Derived.Test.YtbcmglggplmkfaaDoorYPut
import Derived.Test.YtbcmglggplmkfaaDoorYGet
import Derived.Test.YtbcmglggplmkfaaDoorYRows
import Derived.Test.YtbcmglggplmkfaaDoorYRoot
import Derived.Test.YtbcmglggplmkfaaDoorYOwn
import Derived.Test.YtbcmglggplmkfaaDoorTRefB
import Derived.Test.YtbcmglggplmkfaaDoorTCheck
import Derived.Test.YtbcmglggplmkfaaDoorJI
namespace Go.Proofs.YtbcmglggplmkfaaDoor
open Go.RowKit
set_option maxRecDepth 100000

theorem ex_right : rightX (⟨1, (-1), true, false, 0⟩ : Vx) = true := by decide
theorem ex_bytes : bytesX (⟨1, (-1), true, false, 0⟩ : Vx) = [1, 1, 1, 0, 0] := by
  show Wire.num 1 ++ Wire.num 1 ++ [1] ++ [0] ++ Wire.num 0 = _
  rw [Wire.num_lt (by omega), Wire.num_lt (by omega)]; rfl
theorem ex_put : putX (⟨1, (-1), true, false, 0⟩ : Vx) = (⟨#[1, 1, 1, 0, 0]⟩ : ByteArray) := by
  unfold putX; rw [if_pos ex_right, ex_bytes]; rfl
theorem ex_get : getX (bl (⟨#[1, 1, 1, 0, 0]⟩ : ByteArray)) = ((⟨1, (-1), true, false, 0⟩ : Vx), 0) := by
  rw [← ex_put]
  unfold putX; rw [if_pos ex_right, bl_S (bytesX_lt _)]
  exact getX_bytes ex_right
theorem ex_own : ownX 1 0 [(⟨1, (-1), true, false, 0⟩ : Vx)] = [(⟨1, (-1), true, false, 0⟩ : Vx)] := by
  have h := Part.own_range (v := 1) (k := 1) (by omega) (by omega) (by omega)
  have e : Part.own 1 1 = 0 := by omega
  simp [ownX, e]
theorem strs_one {w : World} {g : Nat} {s : ByteArray} (h : Has w g 9 [.string s]) : Strs w (.slice (some ⟨g, 0, none⟩) 1 1) [s] :=
  ⟨some ⟨g, 0, none⟩, 1, rfl, Nat.le_refl _, by unfold maxLen; omega, fun _ => ⟨g, 0, rfl, h.lt, fun i hi => by
    obtain rfl : i = 0 := by simp at hi; omega
    exact h.cell 0⟩⟩
set_option maxHeartbeats 1000000 in
theorem sawake_any (w : World) (hk : Kept w) : Ans 10 [] w (fun u w' => u = .bool true ∧ Below w.heap.size w w') := by
  refine calls_qx (args := []) 48 Tryd.func10 rfl (by kernel_rfl) (by simp) (fun a hS => ?_)
  have hB := Below.refl w.heap.size w
  refine qx_seq (reg_seq ?_)
  refine sI hS (runs_assign rfl) fun _ hS => ?_
  refine nil_ok (qx_seq (reg_seq ?_))
  refine sI hS (runs_buildK (pv := [(0, .int .i64 1), (1, .int .i64 (-1)), (2, .bool true)]) (cells := (vc (⟨1, (-1), true, false, 0⟩ : Vx)).toArray) rfl (by kernel_rfl)) fun _ hS => ?_
  refine seq_op hS (by decide) (runs_allocB (cs := [.int .i64 0, .int .i64 0, .bool false, .bool false, .int .i64 0]) zo28 rfl) (fun v1 w1 a1 hp hS => ?_)
  obtain ⟨rfl, hM1, hB1⟩ := hp
  have hLhM1 : w.heap.size ≤ w.heap.size := hB.size
  have hB := hB.trans (hB1.mono hB.size)
  refine seq_none hS (runs_storeB (cs := vc (⟨1, (-1), true, false, 0⟩ : Vx)) rfl rfl hM1 rfl rfl sz28) (fun v3 w3 a1 hp hS => ?_)
  obtain ⟨hM1, hU3⟩ := hp
  have hB := But.new hB hU3 (fun i e => by rw [e]; exact hLhM1) (Nat.le_refl _)
  refine nil_ok (qx_seq (reg_seq ?_))
  refine seq_op hS (by decide) (runs_call (args := [.string ⟨#[1, 1, 1, 0, 0]⟩]) goes14 rfl (sget_any ⟨#[1, 1, 1, 0, 0]⟩ w3)) (fun v5 w5 a1 hp hS => ?_)
  rw [ex_get] at hp
  obtain ⟨rfl, hB5⟩ := hp
  have hB := hB.trans (hB5.mono hB.size)
  have hM1 := hM1.below hB5 hM1.lt
  refine sI hS (runs_move rfl) fun _ hS => ?_
  refine sI hS (runs_extract rfl rfl) fun _ hS => ?_
  refine sI hS (runs_extract rfl rfl) fun _ hS => ?_
  refine seq_op hS (by decide) (runs_allocB (cs := [.int .i64 0, .int .i64 0, .bool false, .bool false, .int .i64 0]) zo28 rfl) (fun v7 w7 a1 hp hS => ?_)
  obtain ⟨rfl, hM7, hB7⟩ := hp
  have hLhM7 : w.heap.size ≤ w5.heap.size := hB.size
  have hNhM1hM7 : w.heap.size ≠ w5.heap.size := by have := hM1.lt; omega
  have hB := hB.trans (hB7.mono hB.size)
  have hM1 := hM1.below hB7 hM1.lt
  refine seq_none hS (runs_storeB (cs := vc (⟨1, (-1), true, false, 0⟩ : Vx)) rfl rfl hM7 rfl rfl sz28) (fun v9 w9 a1 hp hS => ?_)
  obtain ⟨hM7, hU9⟩ := hp
  have hB := But.new hB hU9 (fun i e => by rw [e]; exact hLhM7) (Nat.le_refl _)
  have hM1 := hM1.but hU9 (hNhM1hM7)
  refine sI hS (runs_assign rfl) fun _ hS => ?_
  refine nil_ok (qx_seq (reg_seq ?_))
  refine sI hS (runs_loadRow rfl hM1 Tryd.underlying23 rfl (by rw [sz28]; rfl)) fun _ hS => ?_
  refine seq_op hS (by decide) (runs_call (args := [.agg (vc (⟨1, (-1), true, false, 0⟩ : Vx)).toArray]) goes9 rfl (sput_any (⟨1, (-1), true, false, 0⟩ : Vx) w9)) (fun v11 w11 a1 hp hS => ?_)
  obtain ⟨rfl, hB11⟩ := hp
  have hB := hB.trans (hB11.mono hB.size)
  have hM1 := hM1.below hB11 hM1.lt
  have hM7 := hM7.below hB11 hM7.lt
  refine sI hS (runs_eqStr (r := true) rfl rfl (by rw [ex_put]; exact beq_iff_eq.2 rfl)) fun _ hS => ?_
  refine sI hS (runs_move rfl) fun _ hS => ?_
  refine sY hS (runs_loadRow rfl hM7 Tryd.underlying23 rfl (by rw [sz28]; rfl)) fun _ hS => ?_
  refine sY hS (runs_loadRow rfl hM1 Tryd.underlying23 rfl (by rw [sz28]; rfl)) fun _ hS => ?_
  refine sY hS (runs_eqV (a := (⟨1, (-1), true, false, 0⟩ : Vx)) (b := (⟨1, (-1), true, false, 0⟩ : Vx)) (r := true) rfl rfl (by simp)) fun _ hS => ?_
  refine sI hS (runs_pick rfl rfl) fun _ hS => ?_
  refine sI hS (runs_move rfl) fun _ hS => ?_
  refine sY hS (runs_move rfl) fun _ hS => ?_
  refine sY hS (runs_eql (r := true) rfl rfl rfl) fun _ hS => ?_
  refine sI hS (runs_pick rfl rfl) fun _ hS => ?_
  refine sI hS (runs_move rfl) fun _ hS => ?_
  refine sY hS (runs_loadRow rfl hM1 Tryd.underlying23 rfl (by rw [sz28]; rfl)) fun _ hS => ?_
  refine seq_yes hS (by decide) rfl (by decide) rfl (runs_call (args := [.agg (vc (⟨1, (-1), true, false, 0⟩ : Vx)).toArray]) goes13 rfl (scheck_any (⟨1, (-1), true, false, 0⟩ : Vx) w11)) (fun v13 w13 a1 hp hS => ?_)
  obtain ⟨rfl, hB13⟩ := hp
  have hB := hB.trans (hB13.mono hB.size)
  have hM1 := hM1.below hB13 hM1.lt
  refine sY hS (runs_eql (r := true) rfl rfl (by rw [if_pos ex_right]; rfl)) fun _ hS => ?_
  refine sI hS (runs_pick rfl rfl) fun _ hS => ?_
  refine sI hS (runs_move rfl) fun _ hS => ?_
  refine sY hS (runs_loadRow rfl hM1 Tryd.underlying23 rfl (by rw [sz28]; rfl)) fun _ hS => ?_
  refine seq_yes hS (by decide) rfl (by decide) rfl (runs_oneV (e := (⟨1, (-1), true, false, 0⟩ : Vx)) rfl) (fun v15 w15 a1 hp hS => ?_)
  obtain ⟨g1, rfl, hX, hB15⟩ := hp
  have hVg1 := verts_has (es := [(⟨1, (-1), true, false, 0⟩ : Vx)]) (by rw [cellsV_one]; exact hX) (by unfold maxLen; simp)
  have hB := hB.trans (hB15.mono hB.size)
  have hM1 := hM1.below hB15 hM1.lt
  refine seq_yes hS (by decide) rfl (by decide) rfl (runs_call (args := [.slice (some ⟨g1, 0, none⟩) 1 1]) goes18 rfl (sroot_any [(⟨1, (-1), true, false, 0⟩ : Vx)] _ w15 hVg1 (by simp) (hk.below hB hk.pos))) (fun v17 w17 a1 hp hS => ?_)
  obtain ⟨rfl, hB17⟩ := hp
  have hB := hB.trans (hB17.mono hB.size)
  have hM1 := hM1.below hB17 hM1.lt
  refine seq_yes hS (by decide) rfl (by decide) rfl (runs_oneSt (s := ⟨#[1, 1, 1, 0, 0]⟩) rfl) (fun v19 w19 a1 hp hS => ?_)
  obtain ⟨gs, rfl, hX, hB19⟩ := hp
  have hSs := strs_one hX
  have hB := hB.trans (hB19.mono hB.size)
  have hM1 := hM1.below hB19 hM1.lt
  refine seq_yes hS (by decide) rfl (by decide) rfl (runs_call (args := [.slice (some ⟨gs, 0, none⟩) 1 1]) goes27 rfl (hash_post (fun w' => Below w19.heap.size w19 w') (refRootH_any [⟨#[1, 1, 1, 0, 0]⟩] _ w19 hSs (by intro s hs; rw [List.mem_singleton] at hs; subst hs; decide) (by simp)) (fun _ h => h))) (fun v21 w21 a1 hp hS => ?_)
  obtain ⟨rfl, hB21⟩ := hp
  have hB := hB.trans (hB21.mono hB.size)
  have hM1 := hM1.below hB21 hM1.lt
  refine sY hS (runs_eqHash (r := true) rfl rfl (rootX_len _) (root_len _ _) (by unfold rootX rowsX; rw [List.map_singleton, ex_put]; exact beq_iff_eq.2 rfl)) fun _ hS => ?_
  refine sI hS (runs_pick rfl rfl) fun _ hS => ?_
  refine sI hS (runs_move rfl) fun _ hS => ?_
  refine sY hS (runs_loadRow rfl hM1 Tryd.underlying23 rfl (by rw [sz28]; rfl)) fun _ hS => ?_
  refine seq_yes hS (by decide) rfl (by decide) rfl (runs_oneV (e := (⟨1, (-1), true, false, 0⟩ : Vx)) rfl) (fun v23 w23 a1 hp hS => ?_)
  obtain ⟨g2, rfl, hX, hB23⟩ := hp
  have hVg2 := verts_has (es := [(⟨1, (-1), true, false, 0⟩ : Vx)]) (by rw [cellsV_one]; exact hX) (by unfold maxLen; simp)
  have hB := hB.trans (hB23.mono hB.size)
  have hM1 := hM1.below hB23 hM1.lt
  refine seq_yes hS (by decide) rfl (by decide) rfl (runs_call (args := [.slice (some ⟨g2, 0, none⟩) 1 1, .int .i64 1, .int .i64 0]) goes16 rfl (sown_any [(⟨1, (-1), true, false, 0⟩ : Vx)] _ 1 0 w23 hVg2 (by simp))) (fun v25 w25 a1 hp hS => ?_)
  obtain ⟨hown, hB25⟩ := hp
  rw [ex_own] at hown
  obtain ⟨A9, c9, rfl, _⟩ := verts_own hown rfl
  have hB := hB.trans (hB25.mono hB.size)
  have hM1 := hM1.below hB25 hM1.lt
  refine sY hS (runs_len rfl undVx) fun _ hS => ?_
  refine sY hS (runs_eql (r := true) rfl rfl rfl) fun _ hS => ?_
  refine sI hS (runs_pick rfl rfl) fun _ hS => ?_
  refine sI hS (runs_move rfl) fun _ hS => ?_
  refine sY hS (runs_loadRow rfl hM1 Tryd.underlying23 rfl (by rw [sz28]; rfl)) fun _ hS => ?_
  refine seq_yes hS (by decide) rfl (by decide) rfl (runs_oneV (e := (⟨1, (-1), true, false, 0⟩ : Vx)) rfl) (fun v27 w27 a1 hp hS => ?_)
  obtain ⟨g3, rfl, hX, hB27⟩ := hp
  have hVg3 := verts_has (es := [(⟨1, (-1), true, false, 0⟩ : Vx)]) (by rw [cellsV_one]; exact hX) (by unfold maxLen; simp)
  have hB := hB.trans (hB27.mono hB.size)
  refine seq_yes hS (by decide) rfl (by decide) rfl (runs_call (args := [.slice (some ⟨g3, 0, none⟩) 1 1]) goes17 rfl (srows_any [(⟨1, (-1), true, false, 0⟩ : Vx)] _ w27 hVg3 (by simp))) (fun v29 w29 a1 hp hS => ?_)
  obtain ⟨hS9, hB29⟩ := hp
  obtain ⟨A8, c8, rfl, _⟩ := hS9
  have hB := hB.trans (hB29.mono hB.size)
  refine sY hS (runs_len rfl undStrs) fun _ hS => ?_
  refine sY hS (runs_eql (r := true) rfl rfl rfl) fun _ hS => ?_
  refine sI hS (runs_pick rfl rfl) fun _ hS => ?_
  refine sI hS (runs_assign rfl) fun _ hS => ?_
  exact nil_ok (qx_ret (ret1 (t := 0) (by kernel_rfl) hS rfl ⟨_, rfl, rfl, hB⟩))
end Go.Proofs.YtbcmglggplmkfaaDoor
