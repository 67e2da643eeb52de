/- Layer 10: the root of vertices, each proved in it: the law StateRoots, walked. Conditions: none of our own. -/
import Derived.Test.YtbcmglggplmkfaaDoorYLaws
import Derived.Test.YtbcmglggplmkfaaDoorTUps
import Derived.Test.YtbcmglggplmkfaaDoorTProve
import Derived.Test.YtbcmglggplmkfaaDoorTCheck
import Derived.Test.YtbcmglggplmkfaaDoorJI
namespace Go.Proofs.YtbcmglggplmkfaaDoor
open Go.RowKit
set_option maxRecDepth 100000

theorem run_neHash (a b : List Nat) (la : a.length = 32) (lb : b.length = 32) (w : World) : (binOp .neq 39 (.agg (U8 a).toArray) (.agg (U8 b).toArray)).run Tryd.prog w = .ok (.bool (a != b)) w := by
  rw [run_neq_struct]
  rw [run_eqArr 9998 a b la lb w]
  rfl
section
variable {L : List (Nat × Value)} {w : World} {ty : TypeId}
theorem runs_neHash {t' : TypeId} {X Y : Operand} {x y : List Nat} {r : Bool} (hx : vals L X = some (.agg (U8 x).toArray)) (hy : vals L Y = some (.agg (U8 y).toArray)) (lx : x.length = 32) (ly : y.length = 32) (hr : (x != y) = r) : Runs Tryd.prog (.binOp .neq 39 X Y t') ty L w (Is (.bool r) w) := fun o a K Q ho _ hL hK => by
  have ex := hL X (by simp [Op.operands]) _ hx
  have ey := hL Y (by simp [Op.operands]) _ hy
  have h := run_neHash x y lx ly w
  have hg : (eqGuard .neq 39 X Y (.agg (U8 x).toArray) (.agg (U8 y).toArray)).run Tryd.prog w = .ok () w := by
    have hp : Tryd.prog.eqGuardType Tryd.prog.depth 39 = false := by kernel_rfl
    simp [eqGuard, hp]
  unfold Oper.wp
  have : (execOp a.eval o).run Tryd.prog w = .ok (.value (.bool r)) w := by
    simp only [execOp, ho, ex, ey]
    simp only [Sem.run_bind, hg, Result.andThen_ok, h, hr, Sem.run_pure]
  rw [this]
  exact hK _ w ⟨rfl, rfl⟩
end
theorem zo39 : zeroOf Tryd.prog 39 = some (.agg (U8 (List.replicate 32 0)).toArray) := by kernel_rfl
theorem u8_one (l : List Nat) : (U8 l).all (·.oneCell') = true := by simp [U8, Value.oneCell']
theorem sprove_any {l : List Vx} {i : Nat} (h : i < l.length) (hl : l.length ≤ 30) (v : Value) (w : World) (hs : Strs w v (rowsX l)) (hk : Kept w) : Ans 20 [v, .int .i64 (i : Int)] w (fun u w' => ∃ A c, u = .tuple #[.slice A (proofOf ((rowsX l).map bl) i).length c, .int .i64 0] ∧ Hashes w' (.slice A (proofOf ((rowsX l).map bl) i).length c) (proofOf ((rowsX l).map bl) i) ∧ Below w.heap.size w w') := by
  have hpr := prove_any (rowsX l) v (i : Int) w hs (fun s hs => Nat.le_trans (rowsX_small l s hs) (by omega)) (by simp [rowsX]; omega) hk
  have hth : thereB ((rowsX l).length : Int) (i : Int) = true := by simp [thereB, rowsX]; omega
  rw [hth] at hpr
  refine hpr.mono ?_
  rintro e w' ⟨pv, rfl, hP, hB⟩
  obtain ⟨A, c, rfl, _⟩ := id hP
  exact ⟨_, rfl, A, c, rfl, hP, hB⟩
theorem tcheck_any {l : List Vx} {i : Nat} {x : Vx} (h : l[i]? = some x) (hl : l.length ≤ 30) (v : Value) (w : World) (hP : Hashes w v (proofOf ((rowsX l).map bl) i)) (hk : Kept w) : Ans 21 [.agg (U8 (rootX l)).toArray, .int .i64 (l.length : Int), .int .i64 (i : Int), .string (putX x), v] w (fun u w' => u = .bool true ∧ Below w.heap.size w w') := by
  have hi : i < l.length := (List.getElem?_eq_some_iff.1 h).1
  have hln : ((rowsX l).map bl).length = l.length := by simp [rowsX]
  have hcp := check_proof ((rowsX l).map bl) i (by rw [hln]; exact hi) (by rw [hln]; omega)
  have hch := check_any (rootX l) (l.length : Int) (i : Int) (putX x) v _ w (rootX_len l) hP (by
    have hpl5 := path_len 5 ((rowsX l).map bl).length 0 i (by rw [hln]; omega)
    unfold proofOf; rw [List.length_map]; omega) (Nat.le_trans (rowsX_small l _ (List.mem_map.2 ⟨x, List.mem_of_getElem? h, rfl⟩)) (by omega)) hk
  have hg : ((rowsX l).map bl).getD i [] = bl (putX x) := by simp [rowsX, List.getD, h]
  rw [hg, hln] at hcp
  have hrt : rootX l = Tree.root l.length (Tree.top ((rowsX l).map bl)) := by unfold rootX; rw [show (rowsX l).length = l.length by simp [rowsX]]
  rw [← hrt] at hcp
  rw [hcp] at hch
  exact hch.mono (by rintro e w' ⟨rfl, hB⟩; exact ⟨_, rfl, rfl, hB⟩)
theorem strs_row {w : World} {A : Option Addr} {n c : Nat} {ss : List ByteArray} (h : Strs w (.slice A n c) ss) (h0 : 0 < ss.length) : ∃ b o, A = some ⟨b, o, none⟩ ∧ b < w.heap.size ∧ ∀ i, i < ss.length → w.cell? ⟨b, o + i, none⟩ = some (.string (ss.getD i ByteArray.empty)) := by
  obtain ⟨A', c', e, _, _, hA⟩ := h
  simp only [Value.slice.injEq] at e
  obtain ⟨rfl, _, _⟩ := e
  exact hA h0
set_option maxHeartbeats 1000000 in
theorem roots_law (l : List Vx) (v : Value) (w : World) (hV : Verts w v l) (hk : Kept w) : Ans 8 [v] w (fun u w' => u = .bool true ∧ Below w.heap.size w w') := by
  obtain ⟨A, c, rfl, hc1, hc2, hA⟩ := hV
  have hV : Verts w (.slice A l.length c) l := ⟨A, c, rfl, hc1, hc2, hA⟩
  have hcm := hc2
  unfold maxLen at hcm
  refine calls_qx (args := [.slice A l.length c]) 74 Tryd.func8 rfl (by kernel_rfl) (by simp) (fun a hS => ?_)
  have hB := Below.refl w.heap.size w
  have hVb := hV
  refine qx_seq (reg_seq ?_)
  refine sI hS (runs_assign rfl) fun _ hS => ?_
  refine nil_ok (qx_seq (qx_seq (reg_seq ?_)))
  refine seq_op hS (by decide) (runs_call (args := []) goes10 rfl (sawake_any w (hk.below hB hk.pos))) (fun v1 w1 a1 hp hS => ?_)
  obtain ⟨rfl, hB1⟩ := hp
  have hB := hB.trans (hB1.mono hB.size)
  have hV := hVb.kept hB
  refine sI hS (runs_not (b := true) rfl) fun _ hS => ?_
  refine sI hS (runs_move rfl) fun _ hS => ?_
  refine sY hS (runs_move rfl) fun _ hS => ?_
  refine sY hS (runs_len rfl undVx) fun _ hS => ?_
  by_cases hbig : 30 < l.length
  · skip
    refine sY hS (gtrT rfl rfl (by omega)) fun _ hS => ?_
    refine sI hS (runs_pick rfl rfl) fun _ hS => ?_
    refine nil_ok (wp_cond_true (hS.eval rfl) (qx_seq (reg_seq ?_)))
    refine seq_op hS (by decide) (runs_call (args := []) goes10 rfl (sawake_any w1 (hk.below hB hk.pos))) (fun v3 w3 a1 hp hS => ?_)
    obtain ⟨rfl, hB3⟩ := hp
    have hB := hB.trans (hB3.mono hB.size)
    have hV := hVb.kept hB
    refine sI hS (runs_assign rfl) fun _ hS => ?_
    exact nil_ok (qx_ret (ret1 (t := 2) (by kernel_rfl) hS rfl ⟨_, rfl, rfl, hB⟩))
  refine sY hS (gtrF rfl rfl (by omega)) fun _ hS => ?_
  refine sI hS (runs_pick rfl rfl) fun _ hS => ?_
  refine nil_ok (wp_cond_false (hS.eval rfl) (wp_skip (qx_seq (reg_seq ?_))))
  refine seq_op hS (by decide) (none_ownV (B := w.heap.size) hB.size) (fun v5 w5 a1 hp hS => ?_)
  obtain ⟨⟨g0, rfl, h0⟩, hB5⟩ := hp
  have hB := hB.trans (hB5.mono hB.size)
  have hV := hVb.kept hB
  refine sI hS (runs_move rfl) fun _ hS => ?_
  refine seq_op hS (by decide) (copy_ownV (B := w.heap.size) hV (by omega) hB.size rfl h0 rfl) (fun v7 w7 a1 hp hS => ?_)
  obtain ⟨⟨g1, c1, rfl, _⟩, hown, hB7⟩ := hp
  have hVc := verts_own hown rfl
  have hB := hB.trans (hB7.mono hB.size)
  have hV := hVb.kept hB
  refine seq_op hS (by decide) (runs_call (args := [.slice (some ⟨g1, 0, none⟩) l.length c1]) goes17 rfl (srows_any l _ w7 hVc (by omega))) (fun v9 w9 a1 hp hS => ?_)
  obtain ⟨hSr, hB9⟩ := hp
  obtain ⟨Ar, cr, rfl, _⟩ := id hSr
  have hB := hB.trans (hB9.mono hB.size)
  have hV := hVb.kept hB
  refine sI hS (runs_assign rfl) fun _ hS => ?_
  refine nil_ok (qx_seq (reg_seq ?_))
  refine seq_op hS (by decide) (none_ownV (B := w.heap.size) hB.size) (fun v11 w11 a1 hp hS => ?_)
  obtain ⟨⟨g0, rfl, h0⟩, hB11⟩ := hp
  have hB := hB.trans (hB11.mono hB.size)
  have hV := hVb.kept hB
  have hSr := hSr.kept hB11
  refine sI hS (runs_move rfl) fun _ hS => ?_
  refine seq_op hS (by decide) (copy_ownV (B := w.heap.size) hV (by omega) hB.size rfl h0 rfl) (fun v13 w13 a1 hp hS => ?_)
  obtain ⟨⟨g1, c1, rfl, _⟩, hown, hB13⟩ := hp
  have hVc := verts_own hown rfl
  have hB := hB.trans (hB13.mono hB.size)
  have hV := hVb.kept hB
  have hSr := hSr.kept hB13
  refine seq_op hS (by decide) (runs_call (args := [.slice (some ⟨g1, 0, none⟩) l.length c1]) goes18 rfl (sroot_any l _ w13 hVc (by omega) (hk.below hB hk.pos))) (fun v15 w15 a1 hp hS => ?_)
  obtain ⟨rfl, hB15⟩ := hp
  have hB := hB.trans (hB15.mono hB.size)
  have hV := hVb.kept hB
  have hSr := hSr.kept hB15
  have hSr4 := hSr
  refine seq_op hS (by decide) (runs_allocB (cs := U8 (List.replicate 32 0)) zo39 rfl) (fun v17 w17 a1 hp hS => ?_)
  obtain ⟨rfl, hM17, hB17⟩ := hp
  have hLhM17 : w.heap.size ≤ w15.heap.size := hB.size
  have hB := hB.trans (hB17.mono hB.size)
  have hV := hVb.kept hB
  refine seq_none hS (runs_storeB (cs := U8 (rootX l)) rfl rfl hM17 (by simp [rootX_len]) (u8_one _) (by rw [infHash]; simp [rootX_len])) (fun v19 w19 a1 hp hS => ?_)
  obtain ⟨hM17, hU19⟩ := hp
  have hB := But.new hB hU19 (fun i e => by rw [e]; exact hLhM17) (Nat.le_refl _)
  have hV := hVb.kept hB
  have hSr := hSr4.kept (But.new hB17 hU19 (fun i e => by rw [e]; exact Nat.le_refl _) (Nat.le_refl _))
  refine nil_ok (qx_seq (qx_seq (reg_guard (fun w' => Below w19.heap.size w19 w') [.inl (.slice Ar ((l.map putX).length) cr), .inl (.int .i64 (((l.map putX).length : Nat) : Int)), .inl (.slice A l.length c), .inl (.int .i64 ((l.length : Nat) : Int)), .inl (.bool false), .inl (.bool false), .inl (.agg (U8 (rootX l)).toArray), .inl (.slice Ar ((l.map putX).length) cr), .inl (.agg (U8 (rootX l)).toArray), .inl (.bool false), .inl (.bool false)] 11 0 mixed rfl (by kernel_rfl) hS (Below.refl _ _) (fun _ h => h.drew) ?_)))
  refine hs_is rfl (fun w' hw => runs_move rfl) ?_
  refine hs_is rfl (fun w' hw => runs_len rfl undStrs) ?_
  refine hs_is rfl (fun w' hw => runs_move rfl) ?_
  refine hs_is rfl (fun w' hw => runs_len rfl undVx) ?_
  refine hs_is rfl (fun w' hw => runs_neq (r := false) rfl rfl (by simp)) ?_
  refine hs_is rfl (fun w' hw => runs_move rfl) ?_
  refine hs_yis rfl rfl (fun w' hw => runs_loadRow rfl (hM17.below hw hM17.lt) undHash rfl (by rw [infHash]; simp [rootX_len])) ?_
  refine hs_yis rfl rfl (fun w' hw => runs_move rfl) ?_
  refine hs_yval rfl rfl (fun w' hw hq => (runs_call (args := [.slice Ar ((l.map putX).length) cr]) goes19 rfl (hash_post (fun w2 => Below w'.heap.size w' w2) (root_any (rowsX l) _ w' (hSr.kept hw) (fun s hs => Nat.le_trans (rowsX_small l s hs) (by omega)) (by simp [rowsX]; omega) (hk.below (hB.trans (hw.mono hB.size)) hk.pos)) (fun _ h => h))).mono (by rintro u w3 ⟨rfl, h1⟩; exact ⟨rfl, hw.trans (h1.mono hw.size), h1⟩)) ?_
  refine hs_yis rfl rfl (fun w' hw => runs_neHash (r := false) rfl rfl (rootX_len l) (rootX_len l) (by simp)) ?_
  refine hs_is rfl (fun w' hw => runs_pick rfl rfl) ?_
  refine (fun a21 w21 hS hB21 hq => ?_)
  clear hq
  have hB := hB.trans (hB21.mono hB.size)
  have hM17 := hM17.below hB21 hM17.lt
  have hV := hVb.kept hB
  have hSr := hSr.kept hB21
  refine wpAnyH_done (by kernel_rfl) ?_ _
  refine wp_cond_false (hS.eval rfl) (wp_skip (qx_seq (qx_seq (reg_seq ?_))))
  refine sI hS (runs_assign rfl) fun _ hS => ?_
  refine nil_ok (?_)
  have hBo1 := hB
  refine qx_for (fun mm a w' => ∃ (i : Nat), i ≤ l.length ∧ mm = l.length - i ∧ Below w21.heap.size w21 w' ∧ Sees 74 [(5, .int .i64 (i : Int)), (4, .pointer (some ⟨w15.heap.size, 0, none⟩)), (3, .slice Ar ((l.map putX).length) cr), (0, .slice A l.length c)] a) l.length ⟨0, by omega, by omega, Below.refl _ _, hS.only _ ⟨rfl, rfl, rfl, rfl, trivial⟩⟩ ?_
  clear hS
  rintro mm a wl1 ⟨i, hi1, rfl, hBl1, hS⟩
  have hM17 := hM17.below hBl1 hM17.lt
  have hV := hV.kept hBl1
  have hSr := hSr.kept hBl1
  have hB := Below.refl wl1.heap.size wl1
  have hM17b1 := hM17
  have hVb1 := hV
  have hSrb1 := hSr
  refine reg_seq ?_
  refine sI hS (runs_move rfl) fun _ hS => ?_
  refine sI hS (runs_move rfl) fun _ hS => ?_
  refine sI hS (runs_len rfl undVx) fun _ hS => ?_
  by_cases hlt1 : i < l.length
  · skip
    refine sI hS (lssT rfl rfl (by omega)) fun _ hS => ?_
    refine nil_ok ⟨_, hS.eval rfl, fun h => by simp at h, fun _ => ?_⟩
    refine qx_seq (qx_block (qx_seq (reg_seq ?_)))
    refine sI hS (runs_move rfl) fun _ hS => ?_
    refine sI hS (runs_move rfl) fun _ hS => ?_
    refine seq_op hS (by decide) (runs_call (args := [.slice Ar ((l.map putX).length) cr, .int .i64 (i : Int)]) goes20 rfl (sprove_any hlt1 (by omega) _ wl1 hSr (hk.below (hBo1.trans ((hBl1.trans (hB.mono hBl1.size)).mono hBo1.size)) hk.pos))) (fun v23 w23 a1 hp hS => ?_)
    obtain ⟨Ap, cp, rfl, hP, hB23⟩ := hp
    have hB := hB.trans (hB23.mono hB.size)
    have hM17 := hM17b1.below hB hM17b1.lt
    have hV := hVb1.kept hB
    have hSr := hSrb1.kept hB
    refine sI hS (runs_move rfl) fun _ hS => ?_
    refine sI hS (runs_extract rfl rfl) fun _ hS => ?_
    refine sI hS (runs_extract rfl rfl) fun _ hS => ?_
    refine sI hS (runs_assign rfl) fun _ hS => ?_
    refine sI hS (runs_assign rfl) fun _ hS => ?_
    refine nil_ok (qx_seq (?_))
    obtain ⟨x, hx⟩ : ∃ x, l[i]? = some x := ⟨l[i], by simp [hlt1]⟩
    obtain ⟨b, o, rfl, hbw, hr⟩ := verts_row hV (by omega)
    have hrx := verts_at hr hx
    obtain ⟨br, ofr, rfl, hbr, hrr⟩ := strs_row hSr (by simp; omega)
    have hrc := hrr i (by simp; omega)
    rw [show (l.map putX).getD i ByteArray.empty = putX x by simp [List.getD, hx]] at hrc
    refine reg_guard (fun w' => Below w23.heap.size w23 w') [.inl (.int .i64 0), .inl (.bool false), .inl (.bool false), .inl (.slice (some ⟨br, ofr, none⟩) ((l.map putX).length) cr), .inl (.int .i64 (i : Int)), .inl (.pointer (some ⟨br, ofr + i * 1, none⟩)), .inl (.string (putX x)), .inl (.slice (some ⟨b, o, none⟩) l.length c), .inl (.int .i64 (i : Int)), .inl (.pointer (some ⟨b, o + i * 5, none⟩)), .inl (.agg (vc x).toArray), .inl (.string (putX x)), .inl (.bool false), .inl (.bool false), .inl (.bool false), .inl (.agg (U8 (rootX l)).toArray), .inl (.slice (some ⟨b, o, none⟩) l.length c), .inl (.int .i64 ((l.length : Nat) : Int)), .inl (.int .i64 (i : Int)), .inl (.slice (some ⟨br, ofr, none⟩) ((l.map putX).length) cr), .inl (.int .i64 (i : Int)), .inl (.pointer (some ⟨br, ofr + i * 1, none⟩)), .inl (.string (putX x)), .inl (.slice Ap (proofOf ((rowsX l).map bl) i).length cp), .inl (.bool true), .inl (.bool false), .inl (.bool false)] 27 0 mixed rfl (by kernel_rfl) hS (Below.refl _ _) (fun _ h => h.drew) ?_
    refine hs_is rfl (fun w' hw => runs_move rfl) ?_
    refine hs_is rfl (fun w' hw => runs_neq (r := false) rfl rfl rfl) ?_
    refine hs_is rfl (fun w' hw => runs_move rfl) ?_
    refine hs_yis rfl rfl (fun w' hw => runs_move rfl) ?_
    refine hs_yis rfl rfl (fun w' hw => runs_move rfl) ?_
    refine hs_yis rfl rfl (fun w' hw => runs_indexAddrG (j := i) rfl rfl undStrs infStr1 rfl (by simp; omega)) ?_
    refine hs_yis rfl rfl (fun w' hw => runs_load rfl pl9 (by rw [Nat.mul_one, hw.cell (p := ⟨br, ofr + i, none⟩) hbr]; exact hrc)) ?_
    refine hs_yis rfl rfl (fun w' hw => runs_move rfl) ?_
    refine hs_yis rfl rfl (fun w' hw => runs_move rfl) ?_
    refine hs_yis rfl rfl (fun w' hw => runs_indexAddrG (j := i) rfl rfl undVx sz28 rfl hlt1) ?_
    refine hs_yis rfl rfl (fun w' hw => runs_loadVx rfl (range_below hrx hw hbw)) ?_
    refine hs_yval rfl rfl (fun w' hw hq => (runs_call (args := [.agg (vc x).toArray]) goes9 rfl (sput_any x w')).mono (by rintro u w3 ⟨rfl, h1⟩; exact ⟨rfl, hw.trans (h1.mono hw.size), h1⟩)) ?_
    refine hs_yis rfl rfl (fun w' hw => runs_neStr (r := false) rfl rfl (by simp)) ?_
    refine hs_is rfl (fun w' hw => runs_pick rfl rfl) ?_
    refine hs_is rfl (fun w' hw => runs_move rfl) ?_
    refine hs_yis rfl rfl (fun w' hw => runs_loadRow rfl (hM17.below hw hM17.lt) undHash rfl (by rw [infHash]; simp [rootX_len])) ?_
    refine hs_yis rfl rfl (fun w' hw => runs_move rfl) ?_
    refine hs_yis rfl rfl (fun w' hw => runs_len rfl undVx) ?_
    refine hs_yis rfl rfl (fun w' hw => runs_move rfl) ?_
    refine hs_yis rfl rfl (fun w' hw => runs_move rfl) ?_
    refine hs_yis rfl rfl (fun w' hw => runs_move rfl) ?_
    refine hs_yis rfl rfl (fun w' hw => runs_indexAddrG (j := i) rfl rfl undStrs infStr1 rfl (by simp; omega)) ?_
    refine hs_yis rfl rfl (fun w' hw => runs_load rfl pl9 (by rw [Nat.mul_one, hw.cell (p := ⟨br, ofr + i, none⟩) hbr]; exact hrc)) ?_
    refine hs_yis rfl rfl (fun w' hw => runs_move rfl) ?_
    refine hs_yval rfl rfl (fun w' hw hq => (runs_call (args := [.agg (U8 (rootX l)).toArray, .int .i64 (l.length : Int), .int .i64 (i : Int), .string (putX x), .slice Ap (proofOf ((rowsX l).map bl) i).length cp]) goes21 rfl (tcheck_any hx (by omega) _ w' (hP.kept hw) (hk.below (hBo1.trans ((hBl1.trans ((hB.trans (hw.mono hB.size)).mono hBl1.size)).mono hBo1.size)) hk.pos))).mono (by rintro u w3 ⟨rfl, h1⟩; exact ⟨rfl, hw.trans (h1.mono hw.size), h1⟩)) ?_
    refine hs_yis rfl rfl (fun w' hw => runs_not (b := true) rfl) ?_
    refine hs_is rfl (fun w' hw => runs_pick rfl rfl) ?_
    refine (fun a25 w25 hS hB25 hq => ?_)
    clear hq
    have hB := hB.trans (hB25.mono hB.size)
    refine wpAnyH_done (by kernel_rfl) ?_ _
    refine wp_cond_false (hS.eval rfl) (wp_skip (reg_seq ?_))
    refine sI hS (runs_move rfl) fun _ hS => ?_
    refine sI hS (runs_add (r := ((i + 1 : Nat) : Int)) rfl rfl (by simp [IntKind.wrap, IntKind.bits, IntKind.signed]; omega)) fun _ hS => ?_
    refine sI hS (runs_assign rfl) fun _ hS => ?_
    exact nil_ok ⟨_, by omega, i + 1, by omega, rfl, hBl1.trans (hB.mono hBl1.size), hS.only _ ⟨rfl, rfl, rfl, rfl, trivial⟩⟩
  refine sI hS (lssF rfl rfl (by omega)) fun _ hS => ?_
  obtain rfl : i = l.length := by omega
  refine nil_ok ⟨_, hS.eval rfl, fun _ => ?_, fun h => by simp at h⟩
  have hB := hBo1.trans ((hBl1.trans (hB.mono hBl1.size)).mono hBo1.size)
  refine qx_seq (reg_seq ?_)
  refine sI hS (runs_assign rfl) fun _ hS => ?_
  exact nil_ok (qx_ret (ret1 (t := 2) (by kernel_rfl) hS rfl ⟨_, rfl, rfl, hB⟩))
end Go.Proofs.YtbcmglggplmkfaaDoor
