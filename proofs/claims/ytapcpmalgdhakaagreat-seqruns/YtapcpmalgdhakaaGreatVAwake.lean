/- Layer 9: what the chapter's example fixes. Conditions: none of our own. -/
import Derived.Test.YtapcpmalgdhakaaGreatVRun
namespace Go.Proofs.YtapcpmalgdhakaaGreat
open Go.RowKit
set_option maxRecDepth 100000

section
variable {L : List (Nat × Value)} {w : World} {ty : TypeId}
/-- A slice of three edges, of three numbers. -/
theorem runs_threeE {x y z : Operand} {a b c : E} (hx : vals L x = some (.agg (encE a).toArray)) (hy : vals L y = some (.agg (encE b).toArray)) (hz : vals L z = some (.agg (encE c).toArray)) : Runs Tryz.prog (.buildSlice 22 3 #[(0, x), (1, y), (2, z)]) ty L w (fun v w' => ∃ g2, v = .slice (some ⟨g2, 0, none⟩) 3 3 ∧ Has w' g2 48 (cellsE [a, b, c]) ∧ Below w.heap.size w w') := by
  obtain ⟨i48, hi48, hz48, hs48, hb48⟩ := info_parts inf45
  exact (runs_buildSliceG (sz := 3) (pv := [(0, .agg (encE a).toArray), (1, .agg (encE b).toArray), (2, .agg (encE c).toArray)]) (by simp [hx, hy, hz]) und22 hi48 hz48 hs48 (by omega) (by omega) (cells := (cellsE [a, b, c]).toArray) (by kernel_rfl)).mono (by rintro v w5 ⟨rfl, rfl⟩; exact ⟨_, rfl, Has.new w 48 (cellsE [a, b, c]), (Below.refl _ _).alloc (Nat.le_refl _) _⟩)
theorem runs_threeN {x y z : Operand} {a b c : Int} (hx : vals L x = some (.int .i64 a)) (hy : vals L y = some (.int .i64 b)) (hz : vals L z = some (.int .i64 c)) : Runs Tryz.prog (.buildSlice 38 3 #[(0, x), (1, y), (2, z)]) ty L w (fun v w' => ∃ g2, v = .slice (some ⟨g2, 0, none⟩) 3 3 ∧ Has w' g2 2 (cellsI [a, b, c]) ∧ Below w.heap.size w w') := by
  obtain ⟨i48, hi48, hz48, hs48, hb48⟩ := info_parts infI64
  exact (runs_buildSliceG (sz := 1) (pv := [(0, .int .i64 a), (1, .int .i64 b), (2, .int .i64 c)]) (by simp [hx, hy, hz]) undI64 hi48 hz48 hs48 (by omega) (by omega) (cells := (cellsI [a, b, c]).toArray) (by kernel_rfl)).mono (by rintro v w5 ⟨rfl, rfl⟩; exact ⟨_, rfl, Has.new w 2 (cellsI [a, b, c]), (Below.refl _ _).alloc (Nat.le_refl _) _⟩)
end
theorem start_is {n : Int} {es : List E} {v : Value} {tg : ByteArray} {src steps : Int} {k : Nat} {l : List Vx} {e : Int} (w : World) (hE : Edges w v es) (hk : kindL tg.data.toList = k) (hl : (if jobB n es k src steps = true then startL n k src else []) = l) (he : (if jobB n es k src steps = true then 0 else 70) = e) :
    Ans 16 [gv n v, jv tg src steps] w (fun u w' => ∃ x, u = .tuple #[x, .int .i64 e] ∧ Verts w' x l ∧ Below w.heap.size w w') := by
  subst hk hl he
  refine Calls.mono (start_any n es v tg src steps w hE) ?_
  rintro e w' ⟨u, rfl, hb, x, rfl, h1, h2⟩
  refine ⟨_, rfl, x, rfl, ?_, hb⟩
  by_cases hj : jobB n es (kindL tg.data.toList) src steps = true
  · rw [if_pos hj]; exact verts_own (h1 hj) rfl
  · rw [if_neg hj, h2 (Bool.eq_false_iff.2 hj)]; exact verts_nil _
theorem next_is {n : Int} {es : List E} (hsm : es.length ≤ 100) {v : Value} {tg : ByteArray} {src steps at_ : Int} {l : List Vx} {lv : Value} {k : Nat} {l' : List Vx} {s : List E} {e : Int} (w : World) (hE : Edges w v es) (hV : Verts w lv l) (hk : kindL tg.data.toList = k) (h : nextL n es k src steps at_ l = (l', s, e)) :
    Ans 6 [gv n v, jv tg src steps, .int .i64 at_, lv] w (fun u w' => ∃ x y, u = .tuple #[x, y, .int .i64 e] ∧ Verts w' x l' ∧ Edges w' y s ∧ Below w.heap.size w w') := by
  subst hk
  have h9 := next_any n es hsm v tg src steps at_ l lv w hE hV
  rw [h] at h9
  exact h9
theorem whole_is {n : Int} {es : List E} (hsm : es.length ≤ 100) {v : Value} {tg : ByteArray} {src steps : Int} {k : Nat} {x : List Int} {s : Nat} {e : Int} (w : World) (hE : Edges w v es) (hk : kindL tg.data.toList = k) (h : wholeL n es k src steps = (x, s, e)) :
    Ans 17 [gv n v, jv tg src steps] w (fun u w' => ∃ y, u = .tuple #[y, .int .i64 (s : Int), .int .i64 e] ∧ Nums w' y x ∧ Below w.heap.size w w') := by
  subst hk
  have h9 := whole_any n es hsm v tg src steps w hE
  rw [h] at h9
  exact h9
abbrev ring3 : List E := [((0 : Int), ((1 : Int), (0 : Int))), ((1 : Int), ((2 : Int), (0 : Int))), ((2 : Int), ((0 : Int), (0 : Int)))]
theorem ring_start : (if jobB 3 ring3 2 0 9 = true then startL 3 2 0 else []) = [⟨0, 0, true, false, 0⟩, ⟨1, 1, true, false, 0⟩, ⟨2, 2, true, false, 0⟩] ∧ (if jobB 3 ring3 2 0 9 = true then (0 : Int) else 70) = 0 := by decide +kernel
theorem ring_next : nextL 3 ring3 2 0 9 0 [⟨0, 0, true, false, 0⟩, ⟨1, 1, true, false, 0⟩, ⟨2, 2, true, false, 0⟩] = ([⟨0, 0, false, true, 2⟩, ⟨1, 1, false, true, 0⟩, ⟨2, 2, false, true, 1⟩], [(2, 0, 2), (0, 1, 0), (1, 2, 1)], 0) := by decide +kernel
theorem ring_run : wholeL 3 ring3 2 0 9 = ([0, 0, 0], 4, 0) := by decide +kernel
theorem label_kind : kindL (⟨#[108, 97, 98, 101, 108]⟩ : ByteArray).data.toList = 2 := by decide
set_option maxHeartbeats 2000000 in
theorem awake_any (w : World) : Ans 5 [] w (fun u w' => u = .bool true ∧ Below w.heap.size w w') := by
  refine calls_qx (args := []) 89 Tryz.func5 rfl (by kernel_rfl) (by simp) (fun a hS => ?_)
  have hB := Below.refl w.heap.size w
  refine qx_seq (reg_seq ?_)
  refine sI hS (runs_assign rfl) fun _ hS => ?_
  refine nil_ok (qx_seq (reg_seq ?_))
  refine sI hS (runs_buildK (pv := [(0, .int .i64 0), (1, .int .i64 1)]) (cells := #[.int .i64 0, .int .i64 1, .int .i64 0]) rfl (by kernel_rfl)) fun _ hS => ?_
  refine sI hS (runs_buildK (pv := [(0, .int .i64 1), (1, .int .i64 2)]) (cells := #[.int .i64 1, .int .i64 2, .int .i64 0]) rfl (by kernel_rfl)) fun _ hS => ?_
  refine sI hS (runs_buildK (pv := [(0, .int .i64 2), (1, .int .i64 0)]) (cells := #[.int .i64 2, .int .i64 0, .int .i64 0]) rfl (by kernel_rfl)) fun _ hS => ?_
  refine seq_op hS (by decide) (runs_threeE (a := ((0 : Int), ((1 : Int), (0 : Int)))) (b := ((1 : Int), ((2 : Int), (0 : Int)))) (c := ((2 : Int), ((0 : Int), (0 : Int)))) rfl rfl rfl) (fun v1 w1 a1 hp hS => ?_)
  obtain ⟨g2, rfl, hX, hB1⟩ := hp
  have hB := hB.trans (hB1.mono hB.size)
  refine sI hS (runs_buildK (pv := [(0, .int .i64 3), (1, .slice (some ⟨g2, 0, none⟩) 3 3)]) (cells := #[.int .i64 3, .slice (some ⟨g2, 0, none⟩) 3 3]) rfl (by kernel_rfl)) fun _ hS => ?_
  refine seq_op hS (by decide) (runs_allocB (cs := [.int .i64 0, .slice none 0 0]) zo24 rfl) (fun v3 w3 a1 hp hS => ?_)
  obtain ⟨rfl, hM3, hB3⟩ := hp
  have hLhM3 : w.heap.size ≤ w1.heap.size := hB.size
  have hB := hB.trans (hB3.mono hB.size)
  have hX := hX.below hB3 hX.lt
  refine seq_none hS (runs_storeB (cs := [.int .i64 3, .slice (some ⟨g2, 0, none⟩) 3 3]) rfl rfl hM3 rfl rfl sz24) (fun v5 w5 a1 hp hS => ?_)
  have hQ5 := hM3
  obtain ⟨hM3, hU5⟩ := hp
  have hB := But.new hB hU5 (fun i e => by rw [e]; exact hLhM3) (Nat.le_refl _)
  have hX := hX.but hU5 (has_ne hX hQ5 (by decide))
  refine nil_ok (qx_seq (reg_seq ?_))
  refine sI hS (runs_buildK (pv := [(0, .string ⟨#[108, 97, 98, 101, 108]⟩), (2, .int .i64 9)]) (cells := #[.string ⟨#[108, 97, 98, 101, 108]⟩, .int .i64 0, .int .i64 9]) rfl (by kernel_rfl)) fun _ hS => ?_
  refine seq_op hS (by decide) (runs_allocB (cs := [.string ByteArray.empty, .int .i64 0, .int .i64 0]) zo26 rfl) (fun v7 w7 a1 hp hS => ?_)
  obtain ⟨rfl, hM7, hB7⟩ := hp
  have hLhM7 : w.heap.size ≤ w5.heap.size := hB.size
  have hB := hB.trans (hB7.mono hB.size)
  have hX := hX.below hB7 hX.lt
  have hM3 := hM3.below hB7 hM3.lt
  refine seq_none hS (runs_storeB (cs := [.string ⟨#[108, 97, 98, 101, 108]⟩, .int .i64 0, .int .i64 9]) rfl rfl hM7 rfl rfl sz26) (fun v9 w9 a1 hp hS => ?_)
  have hQ9 := hM7
  obtain ⟨hM7, hU9⟩ := hp
  have hB := But.new hB hU9 (fun i e => by rw [e]; exact hLhM7) (Nat.le_refl _)
  have hX := hX.but hU9 (has_ne hX hQ9 (by decide))
  have hM3 := hM3.but hU9 (has_ne hM3 hQ9 (by decide))
  refine nil_ok (qx_seq (?_))
  have hE : Edges w9 (.slice (some ⟨g2, 0, none⟩) 3 3) ring3 := edges_has hX (by unfold maxLen; decide)
  refine reg_seq ?_
  refine sI hS (runs_loadRow rfl hM3 Tryz.underlying24 rfl (by rw [sz24]; rfl)) fun _ hS => ?_
  refine sI hS (runs_loadRow rfl hM7 Tryz.underlying26 rfl (by rw [sz26]; rfl)) fun _ hS => ?_
  refine seq_op hS (by decide) (runs_call (args := [.agg #[.int .i64 3, .slice (some ⟨g2, 0, none⟩) 3 3], .agg #[.string ⟨#[108, 97, 98, 101, 108]⟩, .int .i64 0, .int .i64 9]]) goes16 rfl (start_is w9 hE label_kind ring_start.1 ring_start.2)) (fun v11 w11 a1 hp hS => ?_)
  obtain ⟨x1, rfl, hV1, hB11⟩ := hp
  obtain ⟨A1, c1, hs1, _⟩ := id hV1
  subst hs1
  have hB := hB.trans (hB11.mono hB.size)
  have hM3 := hM3.below hB11 hM3.lt
  have hM7 := hM7.below hB11 hM7.lt
  have hE := hE.kept hB11
  refine sI hS (runs_move rfl) fun _ hS => ?_
  refine sI hS (runs_extract rfl rfl) fun _ hS => ?_
  refine sI hS (runs_extract rfl rfl) fun _ hS => ?_
  refine sI hS (runs_assign rfl) fun _ hS => ?_
  refine sI hS (runs_assign rfl) fun _ hS => ?_
  refine nil_ok (qx_seq (reg_seq ?_))
  refine sI hS (runs_loadRow rfl hM3 Tryz.underlying24 rfl (by rw [sz24]; rfl)) fun _ hS => ?_
  refine sI hS (runs_loadRow rfl hM7 Tryz.underlying26 rfl (by rw [sz26]; rfl)) fun _ hS => ?_
  refine sI hS (runs_move rfl) fun _ hS => ?_
  refine seq_op hS (by decide) (runs_call (args := [.agg #[.int .i64 3, .slice (some ⟨g2, 0, none⟩) 3 3], .agg #[.string ⟨#[108, 97, 98, 101, 108]⟩, .int .i64 0, .int .i64 9], .int .i64 0, .slice A1 3 c1]) goes6 rfl (next_is (by decide) w11 hE hV1 label_kind ring_next)) (fun v13 w13 a1 hp hS => ?_)
  obtain ⟨x2, y2, rfl, hV2, hM2s, hB13⟩ := hp
  obtain ⟨A2, c2, hs2, _⟩ := id hV2
  subst hs2
  obtain ⟨A3, c3, hs3, _⟩ := id hM2s
  subst hs3
  have hB := hB.trans (hB13.mono hB.size)
  have hM3 := hM3.below hB13 hM3.lt
  have hM7 := hM7.below hB13 hM7.lt
  have hE := hE.kept hB13
  have hV1 := hV1.kept hB13
  refine sI hS (runs_move rfl) fun _ hS => ?_
  refine sI hS (runs_extract rfl rfl) fun _ hS => ?_
  refine sI hS (runs_extract rfl rfl) fun _ hS => ?_
  refine sI hS (runs_extract rfl rfl) fun _ hS => ?_
  refine sI hS (runs_assign rfl) fun _ hS => ?_
  refine sI hS (runs_assign rfl) fun _ hS => ?_
  refine sI hS (runs_assign rfl) fun _ hS => ?_
  refine nil_ok (qx_seq (reg_seq ?_))
  refine sI hS (runs_loadRow rfl hM3 Tryz.underlying24 rfl (by rw [sz24]; rfl)) fun _ hS => ?_
  refine sI hS (runs_loadRow rfl hM7 Tryz.underlying26 rfl (by rw [sz26]; rfl)) fun _ hS => ?_
  refine seq_op hS (by decide) (runs_call (args := [.agg #[.int .i64 3, .slice (some ⟨g2, 0, none⟩) 3 3], .agg #[.string ⟨#[108, 97, 98, 101, 108]⟩, .int .i64 0, .int .i64 9]]) goes17 rfl (whole_is (by decide) w13 hE label_kind ring_run)) (fun v15 w15 a1 hp hS => ?_)
  obtain ⟨x3, rfl, hN, hB15⟩ := hp
  have hB := hB.trans (hB15.mono hB.size)
  have hV1 := hV1.kept hB15
  have hV2 := hV2.kept hB15
  refine sI hS (runs_move rfl) fun _ hS => ?_
  refine sI hS (runs_extract rfl rfl) fun _ hS => ?_
  refine sI hS (runs_extract rfl rfl) fun _ hS => ?_
  refine sI hS (runs_extract rfl rfl) fun _ hS => ?_
  refine sI hS (runs_assign rfl) fun _ hS => ?_
  refine sI hS (runs_assign rfl) fun _ hS => ?_
  refine sI hS (runs_assign rfl) fun _ hS => ?_
  refine nil_ok (qx_seq (?_))
  obtain ⟨b, o, rfl, hbw, hr⟩ := verts_row hV2 (by decide)
  have hr1 := verts_at (i := 1) hr rfl
  refine reg_seq ?_
  refine sI hS (runs_move rfl) fun _ hS => ?_
  refine sI hS (runs_eql (r := true) rfl rfl rfl) fun _ hS => ?_
  refine sI hS (runs_move rfl) fun _ hS => ?_
  refine sY hS (runs_move rfl) fun _ hS => ?_
  refine sY hS (runs_len rfl undVx) fun _ hS => ?_
  refine sY hS (runs_eql (r := true) rfl rfl rfl) fun _ hS => ?_
  refine sI hS (runs_pick rfl rfl) fun _ hS => ?_
  refine sI hS (runs_move rfl) fun _ hS => ?_
  refine sY hS (runs_move rfl) fun _ hS => ?_
  refine sY hS (runs_eql (r := true) rfl rfl rfl) fun _ hS => ?_
  refine sI hS (runs_pick rfl rfl) fun _ hS => ?_
  refine sI hS (runs_move rfl) fun _ hS => ?_
  refine sY hS (runs_move rfl) fun _ hS => ?_
  refine sY hS (runs_len rfl undVx) fun _ hS => ?_
  refine sY hS (runs_eql (r := true) rfl rfl rfl) fun _ hS => ?_
  refine sI hS (runs_pick rfl rfl) fun _ hS => ?_
  refine sI hS (runs_move rfl) fun _ hS => ?_
  refine sY hS (runs_move rfl) fun _ hS => ?_
  refine sY hS (runs_len rfl und32) fun _ hS => ?_
  refine sY hS (runs_eql (r := true) rfl rfl rfl) fun _ hS => ?_
  refine sI hS (runs_pick rfl rfl) fun _ hS => ?_
  refine sI hS (runs_move rfl) fun _ hS => ?_
  refine sY hS (runs_move rfl) fun _ hS => ?_
  refine sY hS (runs_indexAddrG (j := 1) rfl rfl undVx sz28 rfl (by decide)) fun _ hS => ?_
  refine sY hS (runs_fieldK fo28_3 rfl) fun _ hS => ?_
  refine sY hS (runs_load rfl pl4 (hr1 3 _ rfl)) fun _ hS => ?_
  refine sI hS (runs_pick rfl rfl) fun _ hS => ?_
  refine sI hS (runs_move rfl) fun _ hS => ?_
  refine sY hS (runs_move rfl) fun _ hS => ?_
  refine seq_yes hS (by decide) rfl (by decide) rfl (runs_call (args := [.slice (some ⟨b, o, none⟩) 3 c2]) goes11 rfl (quiet_any _ _ w15 hV2)) (fun v17 w17 a1 hp hS => ?_)
  obtain ⟨rfl, hB17⟩ := hp
  have hB := hB.trans (hB17.mono hB.size)
  have hV1 := hV1.kept hB17
  have hN := hN.kept hB17
  rw [show quietL [⟨0, 0, false, true, 2⟩, ⟨1, 1, false, true, 0⟩, ⟨2, 2, false, true, 1⟩] = false by decide] at hS
  refine sY hS (runs_not (b := false) rfl) fun _ hS => ?_
  refine sI hS (runs_pick rfl rfl) fun _ hS => ?_
  refine sI hS (runs_move rfl) fun _ hS => ?_
  refine sY hS (runs_move rfl) fun _ hS => ?_
  refine seq_yes hS (by decide) rfl (by decide) rfl (runs_threeN (a := 0) (b := 0) (c := 0) rfl rfl rfl) (fun v19 w19 a1 hp hS => ?_)
  obtain ⟨gp, rfl, hXp, hB19⟩ := hp
  have hRp := nums_has hXp (by unfold maxLen; decide)
  have hB := hB.trans (hB19.mono hB.size)
  have hV1 := hV1.kept hB19
  have hN := hN.kept hB19
  refine seq_yes hS (by decide) rfl (by decide) rfl (runs_call (args := [x3, .slice (some ⟨gp, 0, none⟩) 3 3]) goes13 rfl (row_any ([0, 0, 0] : List Int) ([0, 0, 0] : List Int) _ _ w19 hN hRp)) (fun v21 w21 a1 hp hS => ?_)
  obtain ⟨rfl, hB21⟩ := hp
  have hB := hB.trans (hB21.mono hB.size)
  have hV1 := hV1.kept hB21
  rw [show decide (([0, 0, 0] : List Int) = ([0, 0, 0] : List Int)) = true by decide] at hS
  refine sI hS (runs_pick rfl rfl) fun _ hS => ?_
  refine sI hS (runs_move rfl) fun _ hS => ?_
  refine sY hS (runs_move rfl) fun _ hS => ?_
  refine sY hS (runs_leq (r := true) rfl rfl rfl) fun _ hS => ?_
  refine sI hS (runs_pick rfl rfl) fun _ hS => ?_
  refine sI hS (runs_move rfl) fun _ hS => ?_
  refine sY hS (runs_move rfl) fun _ hS => ?_
  refine sY hS (runs_eql (r := true) rfl rfl rfl) fun _ hS => ?_
  refine sI hS (runs_pick rfl rfl) fun _ hS => ?_
  refine sI hS (runs_move rfl) fun _ hS => ?_
  refine sY hS (runs_move rfl) fun _ hS => ?_
  refine seq_yes hS (by decide) rfl (by decide) rfl (runs_call (args := [.slice A1 3 c1]) goes14 rfl (values_any _ _ w21 hV1 (by decide))) (fun v23 w23 a1 hp hS => ?_)
  obtain ⟨hown9, hB23⟩ := hp
  have hO9 := nums_own hown9 rfl
  have hB := hB.trans (hB23.mono hB.size)
  refine seq_yes hS (by decide) rfl (by decide) rfl (runs_threeN (a := 0) (b := 1) (c := 2) rfl rfl rfl) (fun v25 w25 a1 hp hS => ?_)
  obtain ⟨gq, rfl, hXq, hB25⟩ := hp
  have hRq := nums_has hXq (by unfold maxLen; decide)
  have hB := hB.trans (hB25.mono hB.size)
  have hO9 := hO9.kept hB25
  refine seq_yes hS (by decide) rfl (by decide) rfl (runs_call (args := [v23, .slice (some ⟨gq, 0, none⟩) 3 3]) goes13 rfl (row_any (valuesL [⟨0, 0, true, false, 0⟩, ⟨1, 1, true, false, 0⟩, ⟨2, 2, true, false, 0⟩]) ([0, 1, 2] : List Int) _ _ w25 hO9 hRq)) (fun v27 w27 a1 hp hS => ?_)
  obtain ⟨rfl, hB27⟩ := hp
  have hB := hB.trans (hB27.mono hB.size)
  rw [show decide ((valuesL [⟨0, 0, true, false, 0⟩, ⟨1, 1, true, false, 0⟩, ⟨2, 2, true, false, 0⟩]) = ([0, 1, 2] : List Int)) = true by decide] at hS
  refine sI hS (runs_pick rfl rfl) fun _ hS => ?_
  refine sI hS (runs_assign rfl) fun _ hS => ?_
  exact nil_ok (qx_ret (ret1 (t := 0) (by kernel_rfl) hS rfl ⟨_, rfl, rfl, hB⟩))
end Go.Proofs.YtapcpmalgdhakaaGreat
