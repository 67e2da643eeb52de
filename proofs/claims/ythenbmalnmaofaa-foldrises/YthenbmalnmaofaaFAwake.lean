/- Layer 8: what the chapter's example fixes. Conditions: none of our own. -/
import Derived.Test.YthenbmalnmaofaaFSplit
import Derived.Test.YthenbmalnmaofaaFSend
namespace Go.Proofs.Ythenbmalnmaofaa
open Go.RowKit
set_option maxRecDepth 100000

theorem edges_hasM {w : World} {g : Nat} {t : TypeId} {es : List E} (h : Has w g t (cellsE es)) (hc : es.length ≤ 1000) : Edges w (.slice (some ⟨g, 0, none⟩) es.length es.length) es :=
  ⟨_, _, rfl, Nat.le_refl _, by unfold maxLen; omega, fun _ => ⟨g, 0, rfl, h.lt, fun j v hv => by rw [Nat.zero_add, h.cell]; exact hv⟩⟩
section
variable {L : List (Nat × Value)} {w : World} {ty : TypeId}
theorem runs_twoM {x y : Operand} {a b : E} (hx : vals L x = some (.agg (encE a).toArray)) (hy : vals L y = some (.agg (encE b).toArray)) : Runs Try.prog (.buildSlice 22 2 #[(0, x), (1, y)]) ty L w (fun v w' => ∃ g, v = .slice (some ⟨g, 0, none⟩) 2 2 ∧ Has w' g 41 (cellsE [a, b]) ∧ Below w.heap.size w w') := by
  obtain ⟨i48, hi48, hz48, hs48, hb48⟩ := info_parts inf48
  exact (runs_buildSliceG (sz := 3) (pv := [(0, .agg (encE a).toArray), (1, .agg (encE b).toArray)]) (by simp [hx, hy]) und32 hi48 hz48 hs48 (by omega) (by omega) (cells := (cellsE [a, b]).toArray) (by kernel_rfl)).mono (by rintro v w5 ⟨rfl, rfl⟩; exact ⟨_, rfl, Has.new w 41 _, (Below.refl _ _).alloc (Nat.le_refl _) _⟩)
theorem runs_threeM {x y z : Operand} {a b c : E} (hx : vals L x = some (.agg (encE a).toArray)) (hy : vals L y = some (.agg (encE b).toArray)) (hz : vals L z = some (.agg (encE c).toArray)) : Runs Try.prog (.buildSlice 22 3 #[(0, x), (1, y), (2, z)]) ty L w (fun v w' => ∃ g, v = .slice (some ⟨g, 0, none⟩) 3 3 ∧ Has w' g 41 (cellsE [a, b, c]) ∧ Below w.heap.size w w') := by
  obtain ⟨i48, hi48, hz48, hs48, hb48⟩ := info_parts inf48
  exact (runs_buildSliceG (sz := 3) (pv := [(0, .agg (encE a).toArray), (1, .agg (encE b).toArray), (2, .agg (encE c).toArray)]) (by simp [hx, hy, hz]) und32 hi48 hz48 hs48 (by omega) (by omega) (cells := (cellsE [a, b, c]).toArray) (by kernel_rfl)).mono (by rintro v w5 ⟨rfl, rfl⟩; exact ⟨_, rfl, Has.new w 41 _, (Below.refl _ _).alloc (Nat.le_refl _) _⟩)
end
def exL : List E := [(1, 2, 3), (0, 2, 5), (3, 2, 4)]
def exS : List E := [(0, 2, 5), (1, 2, 3), (3, 2, 4)]
theorem ex_sort : sortM exL = exS := by decide
theorem ex_to : toL exL 2 = exS := by decide
theorem ex_from : fromL exL 3 = [(3, 2, 4)] := by decide
theorem ex_came : cameL (kindL (⟨#[109, 97, 120]⟩ : ByteArray).data.toList) exL 2 = (5, true, 0) := by decide
theorem ex_ok : splitOk 1 exL = true := by decide
theorem ex_split : splitL 1 exL = [exS] := by decide
theorem ex_sent : sentB 1 [] [] = true := by decide
set_option maxHeartbeats 1000000 in
theorem awake_any (w : World) : Ans 22 [] w (fun u w' => u = .bool true ∧ Below w.heap.size w w') := by
  refine calls_qx (args := []) 72 Try.func22 rfl (by kernel_rfl) (by simp) (fun a hS => ?_)
  have hB := Below.refl w.heap.size w
  refine qx_seq (reg_seq ?_)
  refine sI hS (runs_assign rfl) fun _ hS => ?_
  refine nil_ok (qx_seq (reg_seq ?_))
  refine sI hS (runs_buildK (pv := [(0, .int .i64 1), (1, .int .i64 2), (2, .int .i64 3)]) (cells := #[.int .i64 1, .int .i64 2, .int .i64 3]) rfl (by kernel_rfl)) fun _ hS => ?_
  refine sI hS (runs_buildK (pv := [(0, .int .i64 0), (1, .int .i64 2), (2, .int .i64 5)]) (cells := #[.int .i64 0, .int .i64 2, .int .i64 5]) rfl (by kernel_rfl)) fun _ hS => ?_
  refine sI hS (runs_buildK (pv := [(0, .int .i64 3), (1, .int .i64 2), (2, .int .i64 4)]) (cells := #[.int .i64 3, .int .i64 2, .int .i64 4]) rfl (by kernel_rfl)) fun _ hS => ?_
  refine seq_op hS (by decide) (runs_threeM (a := ((1 : Int), ((2 : Int), (3 : Int)))) (b := ((0 : Int), ((2 : Int), (5 : Int)))) (c := ((3 : Int), ((2 : Int), (4 : Int)))) rfl rfl rfl) (fun v1 w1 a1 hp hS => ?_)
  obtain ⟨g, rfl, hL0, hB1⟩ := hp
  have hL : Has w1 g 41 (cellsE exL) := hL0
  clear hL0
  have hB := hB.trans (hB1.mono hB.size)
  refine sI hS (runs_assign rfl) fun _ hS => ?_
  refine nil_ok (qx_seq (reg_seq ?_))
  refine sI hS (runs_move rfl) fun _ hS => ?_
  refine seq_op hS (by decide) (runs_call (args := [.string ⟨#[109, 97, 120]⟩, .slice (some ⟨g, 0, none⟩) 3 3, .int .i64 2]) goes24 rfl (came_any ⟨#[109, 97, 120]⟩ exL (by decide) 2 _ w1 (edges_hasM hL (by decide)))) (fun v3 w3 a1 hp hS => ?_)
  obtain ⟨rfl, hB3⟩ := hp
  rw [ex_came] at hS
  have hB := hB.trans (hB3.mono hB.size)
  have hL := hL.below hB3 hL.lt
  refine sI hS (runs_move rfl) fun _ hS => ?_
  refine sI hS (runs_extract rfl rfl) fun _ hS => ?_
  refine sI hS (runs_extract rfl rfl) fun _ hS => ?_
  refine sI hS (runs_extract rfl rfl) fun _ hS => ?_
  refine sI hS (runs_assign rfl) fun _ hS => ?_
  refine sI hS (runs_assign rfl) fun _ hS => ?_
  refine sI hS (runs_assign rfl) fun _ hS => ?_
  refine nil_ok (qx_seq (reg_seq ?_))
  refine sI hS (runs_move rfl) fun _ hS => ?_
  refine seq_op hS (by decide) (runs_call (args := [.int .i64 1, .slice (some ⟨g, 0, none⟩) 3 3]) goes20 rfl (split_any 1 exL (by decide) _ w3 (edges_hasM hL (by decide)))) (fun v5 w5 a1 hp hS => ?_)
  obtain ⟨hB5, xs, rfl, hx1, _⟩ := hp
  rw [ex_ok] at hS
  have hRw := hx1 ex_ok
  rw [ex_split] at hRw
  have hB := hB.trans (hB5.mono hB.size)
  have hL := hL.below hB5 hL.lt
  refine sI hS (runs_move rfl) fun _ hS => ?_
  refine sI hS (runs_extract rfl rfl) fun _ hS => ?_
  refine sI hS (runs_extract rfl rfl) fun _ hS => ?_
  refine sI hS (runs_assign rfl) fun _ hS => ?_
  refine sI hS (runs_assign rfl) fun _ hS => ?_
  refine nil_ok (qx_seq (reg_seq ?_))
  refine sI hS (runs_move rfl) fun _ hS => ?_
  refine sI hS (runs_eql (r := true) rfl rfl rfl) fun _ hS => ?_
  refine sI hS (runs_move rfl) fun _ hS => ?_
  refine sY hS (runs_move rfl) fun _ hS => ?_
  refine sI hS (runs_pick rfl rfl) fun _ hS => ?_
  refine sI hS (runs_move rfl) fun _ hS => ?_
  refine sY hS (runs_move rfl) fun _ hS => ?_
  refine sY hS (runs_eql (r := true) rfl rfl rfl) fun _ hS => ?_
  refine sI hS (runs_pick rfl rfl) fun _ hS => ?_
  refine sI hS (runs_move rfl) fun _ hS => ?_
  refine sY hS (runs_move rfl) fun _ hS => ?_
  refine seq_yes hS (by decide) rfl (by decide) rfl (runs_call (args := [.slice (some ⟨g, 0, none⟩) 3 3]) goes11 rfl (msort_any exL (by decide) _ w5 (edges_hasM hL (by decide)))) (fun v7 w7 a1 hp hS => ?_)
  obtain ⟨hB7, hSt⟩ := hp
  rw [ex_sort] at hSt
  obtain ⟨As, cs, rfl, _, _, k3⟩ := hSt.edges
  obtain ⟨b, o, rfl, hbw, hr⟩ := k3 (by decide)
  have hre := edges_at (i := 0) hr rfl
  have hB := hB.trans (hB7.mono hB.size)
  have hL := hL.below hB7 hL.lt
  have hRw := hRw.kept hB7
  refine sY hS (runs_indexAddrG (j := 0) rfl rfl und32 sz41 rfl (by decide)) fun _ hS => ?_
  refine sY hS (runs_fieldK fo41_0 rfl) fun _ hS => ?_
  refine sY hS (runs_load rfl pl3 (hre 0 _ rfl)) fun _ hS => ?_
  refine sY hS (runs_eql (r := true) rfl rfl rfl) fun _ hS => ?_
  refine sI hS (runs_pick rfl rfl) fun _ hS => ?_
  refine sI hS (runs_move rfl) fun _ hS => ?_
  refine sY hS (runs_move rfl) fun _ hS => ?_
  refine seq_yes hS (by decide) rfl (by decide) rfl (runs_call (args := [.slice (some ⟨g, 0, none⟩) 3 3, .int .i64 2]) goes14 rfl (to_any exL (by decide) 2 _ w7 (edges_hasM hL (by decide)))) (fun v9 w9 a1 hp hS => ?_)
  obtain ⟨hB9, hTo⟩ := hp
  rw [ex_to] at hTo
  obtain ⟨A5, c5, rfl, _, _, _⟩ := hTo.edges
  have hB := hB.trans (hB9.mono hB.size)
  have hL := hL.below hB9 hL.lt
  have hRw := hRw.kept hB9
  refine sY hS (runs_len rfl und32) fun _ hS => ?_
  refine sY hS (runs_eql (r := true) rfl rfl rfl) fun _ hS => ?_
  refine sI hS (runs_pick rfl rfl) fun _ hS => ?_
  refine sI hS (runs_move rfl) fun _ hS => ?_
  refine sY hS (runs_move rfl) fun _ hS => ?_
  refine seq_yes hS (by decide) rfl (by decide) rfl (runs_call (args := [.slice (some ⟨g, 0, none⟩) 3 3, .int .i64 3]) goes16 rfl (from_any exL (by decide) 3 _ w9 (edges_hasM hL (by decide)))) (fun v11 w11 a1 hp hS => ?_)
  obtain ⟨hB11, hTo⟩ := hp
  rw [ex_from] at hTo
  obtain ⟨A6, c6, rfl, _, _, _⟩ := hTo.edges
  have hB := hB.trans (hB11.mono hB.size)
  have hRw := hRw.kept hB11
  refine sY hS (runs_len rfl und32) fun _ hS => ?_
  refine sY hS (runs_eql (r := true) rfl rfl rfl) fun _ hS => ?_
  refine sI hS (runs_pick rfl rfl) fun _ hS => ?_
  refine sI hS (runs_move rfl) fun _ hS => ?_
  refine sY hS (runs_move rfl) fun _ hS => ?_
  refine sY hS (runs_eql (r := true) rfl rfl rfl) fun _ hS => ?_
  refine sI hS (runs_pick rfl rfl) fun _ hS => ?_
  refine sI hS (runs_move rfl) fun _ hS => ?_
  obtain ⟨gr, or, cr, rfl, _, hgr, vs, hvl, hvr, hve⟩ := hRw
  obtain ⟨u, hu⟩ : ∃ u, vs[0]? = some u := ⟨_, List.getElem?_eq_getElem (by rw [hvl]; decide)⟩
  obtain ⟨Au, cu, rfl, _, _, _⟩ := hve 0 u _ hu rfl
  have hcu := hvr 0 _ hu
  refine sY hS (runs_move rfl) fun _ hS => ?_
  refine sY hS (runs_len rfl undMM) fun _ hS => ?_
  refine sY hS (runs_eql (r := true) rfl rfl rfl) fun _ hS => ?_
  refine sI hS (runs_pick rfl rfl) fun _ hS => ?_
  refine sI hS (runs_move rfl) fun _ hS => ?_
  refine sY hS (runs_move rfl) fun _ hS => ?_
  refine sY hS (runs_indexAddrG (j := 0) rfl rfl undMM s1_22 rfl (by decide)) fun _ hS => ?_
  refine sY hS (runs_load rfl pl22 hcu) fun _ hS => ?_
  refine sY hS (runs_len rfl und32) fun _ hS => ?_
  refine sY hS (runs_eql (r := true) rfl rfl rfl) fun _ hS => ?_
  refine sI hS (runs_pick rfl rfl) fun _ hS => ?_
  refine sI hS (runs_move rfl) fun _ hS => ?_
  refine sY hS (runs_buildK (pv := [(0, .int .i64 1)]) (cells := #[.int .i64 1, .slice none 0 0]) rfl (by kernel_rfl)) fun _ hS => ?_
  refine seq_yes hS (by decide) rfl (by decide) rfl (runs_call (args := [gv 1 (.slice none 0 0), .slice none 0 0]) goes19 rfl (fcheck_any 1 [] _ [] (by decide) _ w11 (edges_nil _) (edges_nil _))) (fun v13 w13 a1 hp hS => ?_)
  rw [if_pos ex_sent] at hp
  obtain ⟨rfl, hB13⟩ := hp
  have hB := hB.trans (hB13.mono hB.size)
  refine sY hS (runs_eql (r := true) rfl rfl rfl) fun _ hS => ?_
  refine sI hS (runs_pick rfl rfl) fun _ hS => ?_
  refine sI hS (runs_assign rfl) fun _ hS => ?_
  exact nil_ok (qx_ret (ret1 (t := 0) (by kernel_rfl) hS rfl ⟨_, rfl, rfl, hB⟩))
set_option maxHeartbeats 1000000 in
theorem awakes_any (v : Value) (w : World) : Ans 9 [v] w (fun u w' => u = .bool true ∧ Below w.heap.size w w') := by
  refine calls_qx (args := [v]) 21 Try.func9 rfl (by kernel_rfl) (by simp) (fun a hS => ?_)
  have hB := Below.refl w.heap.size w
  refine qx_seq (reg_seq ?_)
  refine sI hS (runs_assign rfl) fun _ hS => ?_
  refine nil_ok (qx_seq (reg_seq ?_))
  refine sI hS (runs_buildK (pv := [(1, .int .i64 1)]) (cells := #[.int .i64 0, .int .i64 1, .int .i64 0]) rfl (by kernel_rfl)) fun _ hS => ?_
  refine sI hS (runs_buildK (pv := [(1, .int .i64 0)]) (cells := #[.int .i64 0, .int .i64 0, .int .i64 0]) rfl (by kernel_rfl)) fun _ hS => ?_
  refine seq_op hS (by decide) (runs_twoM (a := ((0 : Int), ((1 : Int), (0 : Int)))) (b := ((0 : Int), ((0 : Int), (0 : Int)))) rfl rfl) (fun v1 w1 a1 hp hS => ?_)
  obtain ⟨g, rfl, hL, hB1⟩ := hp
  have hB := hB.trans (hB1.mono hB.size)
  refine seq_op hS (by decide) (runs_call (args := [.slice (some ⟨g, 0, none⟩) 2 2]) goes11 rfl (msort_any [((0 : Int), ((1 : Int), (0 : Int))), ((0 : Int), ((0 : Int), (0 : Int)))] (by decide) _ w1 (edges_hasM hL (by decide)))) (fun v3 w3 a1 hp hS => ?_)
  obtain ⟨hB3, hSt⟩ := hp
  rw [show sortM [((0 : Int), ((1 : Int), (0 : Int))), ((0 : Int), ((0 : Int), (0 : Int)))] = [((0 : Int), ((0 : Int), (0 : Int))), ((0 : Int), ((1 : Int), (0 : Int)))] by decide] at hSt
  obtain ⟨As, cs, rfl, _, _, k3⟩ := hSt.edges
  obtain ⟨b, o, rfl, hbw, hr⟩ := k3 (by decide)
  have hre := edges_at (i := 1) hr rfl
  have hB := hB.trans (hB3.mono hB.size)
  refine sI hS (runs_assign rfl) fun _ hS => ?_
  refine nil_ok (qx_seq (reg_seq ?_))
  refine sI hS (runs_move rfl) fun _ hS => ?_
  refine sI hS (runs_len rfl und32) fun _ hS => ?_
  refine sI hS (runs_eql (r := true) rfl rfl rfl) fun _ hS => ?_
  refine sI hS (runs_move rfl) fun _ hS => ?_
  refine sY hS (runs_move rfl) fun _ hS => ?_
  refine sY hS (runs_indexAddrG (j := 1) rfl rfl und32 sz41 rfl (by decide)) fun _ hS => ?_
  refine sY hS (runs_fieldK fo41_1 rfl) fun _ hS => ?_
  refine sY hS (runs_load rfl pl3 (hre 1 _ rfl)) fun _ hS => ?_
  refine sY hS (runs_eql (r := true) rfl rfl rfl) fun _ hS => ?_
  refine sI hS (runs_pick rfl rfl) fun _ hS => ?_
  refine sI hS (runs_move rfl) fun _ hS => ?_
  refine seq_yes hS (by decide) rfl (by decide) rfl (runs_call (args := []) goes22 rfl (awake_any w3)) (fun v5 w5 a1 hp hS => ?_)
  obtain ⟨rfl, hB5⟩ := hp
  have hB := hB.trans (hB5.mono hB.size)
  refine sI hS (runs_pick rfl rfl) fun _ hS => ?_
  refine sI hS (runs_assign rfl) fun _ hS => ?_
  exact nil_ok (qx_ret (ret1 (t := 2) (by kernel_rfl) hS rfl ⟨_, rfl, rfl, hB⟩))
end Go.Proofs.Ythenbmalnmaofaa
