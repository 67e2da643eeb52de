/- Layer 12: the law's own copy; the document's Same, Right and Put. Conditions: at most 10000 batches. -/
import Derived.Test.YtooeahpkhocaeaaDoorJ26
import Derived.Test.YtooeahpkhocaeaaDoorJ20
import Derived.Test.YtooeahpkhocaeaaDoorJ14
import Derived.Test.YtooeahpkhocaeaaDoorHEq
namespace Go.Proofs.YtooeahpkhocaeaaDoor
open Go.RowKit
set_option maxRecDepth 100000

theorem goes10 : Goes Tryd.prog 10 := goes_of Tryd.func10 (by kernel_rfl) rfl
theorem goes11 : Goes Tryd.prog 11 := goes_of Tryd.func11 (by kernel_rfl) rfl
theorem goes13 : Goes Tryd.prog 13 := goes_of Tryd.func13 (by kernel_rfl) rfl
theorem goes14 : Goes Tryd.prog 14 := goes_of Tryd.func14 (by kernel_rfl) rfl
theorem goes28 : Goes Tryd.prog 28 := goes_of Tryd.func28 (by kernel_rfl) rfl
section
variable {P : Program} {L : List (Nat × Value)} {w : World} {ty : TypeId}
/-- []T{}. -/
theorem none_ownG {T SL : TypeId} {i : TypeInfo} {sz B : Nat} (hu : P.underlying SL = some (.slice T)) (hi : P.info? T = some i) (hB : B ≤ w.heap.size) : Runs P (.buildSlice SL 0 #[]) ty L w (fun v w' => (∃ g, v = .slice (some ⟨g, 0, none⟩) 0 0 ∧ w'.ownsRow B T sz v 0 []) ∧ Below w.heap.size w w') :=
  (runs_buildNone hu hi).mono (by
    rintro v w3 ⟨rfl, rfl⟩
    exact ⟨⟨_, rfl, ⟨by simp, .inr ⟨_, 0, #[], rfl, hB, heap_alloc_new _ _, Nat.le_refl _, by unfold maxLen; omega, by simp, by simp⟩⟩⟩, (Below.refl _ _).alloc (Nat.le_refl _) _⟩)
/-- append([]T{}, v...). -/
theorem copy_ownG {T SL : TypeId} {i : TypeInfo} {z v : Value} {sz bytes B n g : Nat} {s x : Operand} {cells : List Value} (hu : P.underlying SL = some (.slice T)) (hi : P.info? T = some i) (hz : i.zero = some z) (hs : i.size = sz) (hb : i.bytes = bytes) (hzs : z.cells.size = sz) (hsz : 0 < sz)
    (hR : ∃ A c, v = .slice A n c ∧ (0 < n → ∃ b o, A = some ⟨b, o, none⟩ ∧ b < w.heap.size ∧ w.rangeAt b o cells)) (hl : cells.length = n * sz) (hn : n ≤ 100000) (hbs : bytes ≤ 1000) (hB : B ≤ w.heap.size) (hs2 : vals L s = some (.slice (some ⟨g, 0, none⟩) 0 0)) (h0 : w.ownsRow B T sz (.slice (some ⟨g, 0, none⟩) 0 0) 0 []) (hx : vals L x = some v) :
    Runs P (.call { callee := .builtin .append, args := #[s, x], argTypes := #[SL, SL] }) ty L w (fun u w2 => (∃ g2 c2, u = .slice (some ⟨g2, 0, none⟩) n c2) ∧ w2.ownsRow B T sz u n cells ∧ Below w.heap.size w w2) := by
  obtain ⟨A, c, rfl, hA⟩ := hR
  by_cases hz0 : n = 0
  · subst hz0
    obtain rfl : cells = [] := List.eq_nil_of_length_eq_zero (by omega)
    exact (runs_appendNone hu hi hs2 (Nat.le_refl _) (by simp) hx).mono (by
      rintro u w2 ⟨rfl, rfl⟩
      exact ⟨⟨g, 0, rfl⟩, h0, Below.refl _ _⟩)
  · obtain ⟨b, o, rfl, hb, hr⟩ := hA (by omega)
    have hbb : n * bytes ≤ 100000 * 1000 := Nat.mul_le_mul hn hbs
    exact (runs_append0N (m := n) hu hi hz hs (by assumption) hzs hsz hs2 hx (news := cells) hl (fun j u hj => by rw [add_lit']; exact hr j u hj) (by unfold maxLen; omega) (by omega) (by omega)).mono (by
      rintro u w2 ⟨h3, h4⟩
      refine ⟨?_, owns_mono h3 hB, h4⟩
      rcases h3.2 with ⟨_, h5⟩ | ⟨g2, c2, _, rfl, _⟩
      · omega
      · exact ⟨g2, c2, rfl⟩)
/-- h[:] of an array that lies anywhere. -/
theorem runs_sliceArrO {t e : TypeId} {x : Operand} {g o' m : Nat} (hx : vals L x = some (.pointer (some ⟨g, o', none⟩))) (hu : P.underlying t = some (.array m e)) (hs : (P.info? e).map (·.size) = some 1) :
    Runs P (.slice t x none none none) ty L w (Is (.slice (some ⟨g, o', none⟩) m m) w) := fun o a K Q ho _ hL hK => by
  have ex := hL x (by simp [Op.operands]) _ hx
  obtain ⟨ie, hie⟩ : ∃ ie, P.info? e = some ie := by
    cases h : P.info? e with
    | none => rw [h] at hs; cases hs
    | some ie => exact ⟨ie, rfl⟩
  unfold Oper.wp
  have : (execOp a.eval o).run P w = .ok (.value (.slice (some ⟨g, o', none⟩) m m)) w := by
    simp [execOp, ho, ex, Instr.sliceAt, run_underlying hu, Instr.sureAddr, Instr.sliceBounds, sizeOf, typeInfo, hie]
    by_cases h0 : m = 0 <;> simp [Addr.add]
  rw [this]
  exact hK _ _ ⟨rfl, rfl⟩
end
section
variable {L : List (Nat × Value)} {w : World} {ty : TypeId}
/-- string(b) of bytes that lie anywhere. -/
theorem runs_convBytesR {x : Operand} {g o n c : Nat} {l : List Nat} (hx : vals L x = some (.slice (some ⟨g, o, none⟩) n c)) (hn : l.length = n) (hr : w.rangeAt g o (U8 l)) : Runs Tryd.prog (.convert 45 9 x) ty L w (Is (.string (S l)) w) := by
  refine runs_conv hx ?_
  subst hn
  have := run_convert_bytes_arg (P := Tryd.prog) (w := w) 45 5 und59 (by kernel_rfl) g o l.length c (l.map fun n : Nat => (n : Int)) (by simp) (fun i hi => by
    rw [hr i _ (U8_get hi)]
    simp [hi]) 9 und9
  rw [this]
  simp [strOfNums, S]
theorem run_neHash (a b : List Nat) (la : a.length = 32) (lb : b.length = 32) (w : World) : (binOp .neq 23 (.agg (U8 a).toArray) (.agg (U8 b).toArray)).run Tryd.prog w = .ok (.bool (!(a == b))) w := by
  rw [run_neq_struct]
  rw [run_eqArr 9998 a b la lb w]
  rfl
theorem runs_neHash {t' : TypeId} {X Y : Operand} {x y : List Nat} {r : Bool} (hx : vals L X = some (.agg (U8 x).toArray)) (hy : vals L Y = some (.agg (U8 y).toArray)) (lx : x.length = 32) (ly : y.length = 32) (hr : (!(x == y)) = r) : Runs Tryd.prog (.binOp .neq 23 X Y t') ty L w (Is (.bool r) w) := fun o a K Q ho _ hL hK => by
  have ex := hL X (by simp [Op.operands]) _ hx
  have ey := hL Y (by simp [Op.operands]) _ hy
  have h := run_neHash x y lx ly w
  have hg : (eqGuard .neq 23 X Y (.agg (U8 x).toArray) (.agg (U8 y).toArray)).run Tryd.prog w = .ok () w := by
    have hp : Tryd.prog.eqGuardType Tryd.prog.depth 23 = false := by kernel_rfl
    simp [eqGuard, hp]
  unfold Oper.wp
  have : (execOp a.eval o).run Tryd.prog w = .ok (.value (.bool r)) w := by
    simp only [execOp, ho, ex, ey]
    simp only [Sem.run_bind, hg, Result.andThen_ok, h, hr, Sem.run_pure]
  rw [this]
  exact hK _ w ⟨rfl, rfl⟩
theorem none_ownH {B : Nat} (hB : B ≤ w.heap.size) : Runs Tryd.prog (.buildSlice 24 0 #[]) ty L w (fun v w' => (∃ g, v = .slice (some ⟨g, 0, none⟩) 0 0 ∧ w'.ownsRow B 23 32 v 0 []) ∧ Below w.heap.size w w') := by
  obtain ⟨i48, hi48, hz48, hs48, hb48⟩ := info_parts infHashb
  exact none_ownG undHs hi48 hB
theorem copy_ownH {B g : Nat} {s x : Operand} {v : Value} {hs : List (List Nat)} (hH : Hashes w v hs) (hn : hs.length ≤ 100000) (hB : B ≤ w.heap.size) (hs2 : vals L s = some (.slice (some ⟨g, 0, none⟩) 0 0)) (h0 : w.ownsRow B 23 32 (.slice (some ⟨g, 0, none⟩) 0 0) 0 []) (hx : vals L x = some v) :
    Runs Tryd.prog (.call { callee := .builtin .append, args := #[s, x], argTypes := #[24, 24] }) ty L w (fun u w2 => (∃ g2 c2, u = .slice (some ⟨g2, 0, none⟩) hs.length c2) ∧ w2.ownsRow B 23 32 u hs.length (U8 hs.flatten) ∧ Below w.heap.size w w2) := by
  obtain ⟨i48, hi48, hz48, hs48, hb48⟩ := info_parts infHashb
  obtain ⟨A, c, rfl, h1, h2, h3, h4⟩ := hH
  exact copy_ownG undHs hi48 hz48 hs48 hb48 (by simp [Value.cells]) (by omega) ⟨A, c, rfl, h4⟩ (by rw [U8_length, flatten_len _ (fun x hx => (h3 x hx).1)]) hn (by omega) hB hs2 h0 hx
end
theorem szHs : (Tryd.prog.info? 23).map (·.size) = some 32 := infHash
theorem hashes_row {w : World} {A : Option Addr} {c : Nat} {hs : List (List Nat)} (h : Hashes w (.slice A hs.length c) hs) (h0 : 0 < hs.length) : ∃ b o, A = some ⟨b, o, none⟩ ∧ b < w.heap.size ∧ w.rangeAt b o (U8 hs.flatten) := by
  obtain ⟨A', c', e, _, _, _, hA⟩ := h
  simp only [Value.slice.injEq, true_and] at e
  obtain ⟨rfl, rfl⟩ := e
  exact hA h0
theorem hashes_at {w : World} {b o i : Nat} {hs : List (List Nat)} {x : List Nat} (h : w.rangeAt b o (U8 hs.flatten)) (hl : ∀ y ∈ hs, y.length = 32 ∧ Sha.Bytes y) (hi : hs[i]? = some x) : w.rangeAt b (o + i * 32) (U8 x) := by
  have h1 := range_sub h (i * 32) 32
  have h2 := flatten_get hs i (fun y hy => (hl y hy).1) (List.getElem?_eq_some_iff.1 hi).1
  rw [show List.getD hs i [] = x by rw [List.getD_eq_getElem?_getD, hi]; rfl, Nat.mul_comm] at h2
  rw [show ((U8 hs.flatten).drop (i * 32)).take 32 = U8 x by rw [← h2]; simp [U8, List.map_drop, List.map_take]] at h1
  exact h1
set_option maxHeartbeats 1000000 in
theorem own_any (c : Cm) (u : Value) (w : World) (hC : CmV w u c) (hn : c.bs.length ≤ 10000) : Ans 10 [u] w (fun r w' => CmV w' r c ∧ Below w.heap.size w w') := by
  obtain ⟨x, rfl, hH, hl, hby⟩ := hC
  obtain ⟨A, cc, rfl, hc1, hc2, hHo, hHr⟩ := id hH
  refine calls_qx (args := [.agg (cmc c (.slice A c.bs.length cc)).toArray]) 9 Tryd.func10 rfl (by kernel_rfl) (by simp) (fun a hS => ?_)
  have hB := Below.refl w.heap.size w
  have hHb := hH
  refine qx_seq (reg_seq ?_)
  refine seq_op hS (by decide) (runs_boxB (cs := cmc c (.slice A c.bs.length cc)) rfl rfl) (fun v1 w1 a1 hp hS => ?_)
  obtain ⟨rfl, hM1, hB1⟩ := hp
  have hLhM1 : w.heap.size ≤ w.heap.size := hB.size
  have hB := hB.trans (hB1.mono hB.size)
  have hH := hHb.kept hB
  refine seq_op hS (by decide) (runs_allocB (cs := cmc noCm (.slice none 0 0)) zoC rfl) (fun v3 w3 a1 hp hS => ?_)
  obtain ⟨rfl, hM3, hB3⟩ := hp
  have hLhM3 : w.heap.size ≤ w1.heap.size := hB.size
  have hNhM1hM3 : w.heap.size ≠ w1.heap.size := by have := hM1.lt; omega
  have hB := hB.trans (hB3.mono hB.size)
  have hM1 := hM1.below hB3 hM1.lt
  have hH := hHb.kept hB
  refine nil_ok (qx_seq (reg_seq ?_))
  refine seq_op hS (by decide) (none_ownH (B := w.heap.size) hB.size) (fun v5 w5 a1 hp hS => ?_)
  obtain ⟨⟨g0, rfl, h0⟩, hB5⟩ := hp
  have hB := hB.trans (hB5.mono hB.size)
  have hM1 := hM1.below hB5 hM1.lt
  have hM3 := hM3.below hB5 hM3.lt
  have hH := hHb.kept hB
  refine sI hS (runs_fieldK foC_3 rfl) fun _ hS => ?_
  refine sI hS (runs_load rfl pl924 (hM1.at (cm_v hl))) fun _ hS => ?_
  refine seq_op hS (by decide) (copy_ownH (B := w.heap.size) hH (by omega) hB.size rfl h0 rfl) (fun v7 w7 a1 hp hS => ?_)
  obtain ⟨⟨g2, c2, rfl⟩, hown, hB7⟩ := hp
  have hB := hB.trans (hB7.mono hB.size)
  have hM1 := hM1.below hB7 hM1.lt
  have hM3 := hM3.below hB7 hM3.lt
  refine sI hS (runs_fieldK foC_3 rfl) fun _ hS => ?_
  refine seq_none hS (runs_storeC rfl rfl rfl s1_924 hM1 (cm_v hl)) (fun v9 w9 a1 hp hS => ?_)
  have hQ9 := hM1
  obtain ⟨hM1, hU9⟩ := hp
  have hB := But.new hB hU9 (fun i e => by rw [e]; exact hLhM1) (Nat.le_refl _)
  have hM3 := hM3.but hU9 ((Ne.symm hNhM1hM3))
  have hown := owns_but hown hU9 (fun i old ho e => by subst e; exact has_ne ho hQ9 (by decide) rfl)
  rw [cm_set hl] at hM1
  refine nil_ok (qx_seq (reg_seq ?_))
  refine sI hS (runs_loadRow rfl hM1 Tryd.underlying26 rfl (by rw [szC, cmc_len hl])) fun _ hS => ?_
  refine seq_none hS (runs_storeB (cs := cmc c (.slice (some ⟨g2, 0, none⟩) c.bs.length c2)) rfl rfl hM3 ((cmc_len noCm_len).trans (cmc_len hl).symm) (cm_one rfl) (by rw [szC, cmc_len hl])) (fun v11 w11 a1 hp hS => ?_)
  have hQ11 := hM3
  obtain ⟨hM3, hU11⟩ := hp
  have hB := But.new hB hU11 (fun i e => by rw [e]; exact hLhM3) (Nat.le_refl _)
  have hown := owns_but hown hU11 (fun i old ho e => by subst e; exact has_ne ho hQ11 (by decide) rfl)
  have hH2 := hashes_own hown hHo
  exact nil_ok (qx_ret (retRow (t := 0) (p := 2) (by kernel_rfl) hS rfl hM3 rfl Tryd.underlying26 rfl (by rw [szC, cmc_len hl]) ⟨_, rfl, ⟨_, rfl, hH2, hl, hby⟩, hB⟩))
set_option maxHeartbeats 1000000 in
theorem rsame_any (c d : Cm) (u v : Value) (w : World) (hC : CmV w u c) (hD : CmV w v d) : Ans 14 [u, v] w (fun r w' => r = .bool (decide (c = d)) ∧ Below w.heap.size w w') := by
  obtain ⟨x, rfl, hH, hl, hby⟩ := hC
  obtain ⟨A, cc, rfl, hc1, hc2, hHo, hHr⟩ := id hH
  obtain ⟨xd, rfl, hHd, hld, hbyd⟩ := hD
  obtain ⟨Ad, ccd, rfl, hc1d, hc2d, hHod, hHrd⟩ := id hHd
  have hcm := hc2
  unfold maxLen at hcm
  refine calls_qx (args := [.agg (cmc c (.slice A c.bs.length cc)).toArray, .agg (cmc d (.slice Ad d.bs.length ccd)).toArray]) 52 Tryd.func14 rfl (by kernel_rfl) (by simp) (fun a hS => ?_)
  have hB := Below.refl w.heap.size w
  have hHb := hH
  have hHdb := hHd
  refine qx_seq (reg_seq ?_)
  refine seq_op hS (by decide) (runs_boxB (cs := cmc c (.slice A c.bs.length cc)) rfl rfl) (fun v1 w1 a1 hp hS => ?_)
  obtain ⟨rfl, hM1, hB1⟩ := hp
  have hB := hB.trans (hB1.mono hB.size)
  have hH := hHb.kept hB
  have hHd := hHdb.kept hB
  refine seq_op hS (by decide) (runs_boxB (cs := cmc d (.slice Ad d.bs.length ccd)) rfl rfl) (fun v3 w3 a1 hp hS => ?_)
  obtain ⟨rfl, hM3, hB3⟩ := hp
  have hB := hB.trans (hB3.mono hB.size)
  have hM1 := hM1.below hB3 hM1.lt
  have hH := hHb.kept hB
  have hHd := hHdb.kept hB
  refine sI hS (runs_assign rfl) fun _ hS => ?_
  refine nil_ok (qx_seq (qx_seq (reg_seq ?_)))
  refine sI hS (runs_fieldK foC_0 rfl) fun _ hS => ?_
  refine sI hS (runs_load rfl pl3 (hM1.at rfl)) fun _ hS => ?_
  refine sI hS (runs_fieldK foC_0 rfl) fun _ hS => ?_
  refine sI hS (runs_load rfl pl3 (hM3.at rfl)) fun _ hS => ?_
  by_cases h1 : c.w ≠ d.w
  · skip
    refine sI hS (runs_neq (r := true) rfl rfl (by simpa using h1)) fun _ hS => ?_
    refine sI hS (runs_move rfl) fun _ hS => ?_
    refine sN hS fun _ hS => ?_
    refine sN hS fun _ hS => ?_
    refine sN hS fun _ hS => ?_
    refine sN hS fun _ hS => ?_
    refine sN hS fun _ hS => ?_
    refine sI hS (runs_pick rfl rfl) fun _ hS => ?_
    refine sI hS (runs_move rfl) fun _ hS => ?_
    refine sN hS fun _ hS => ?_
    refine sN hS fun _ hS => ?_
    refine sN hS fun _ hS => ?_
    refine sN hS fun _ hS => ?_
    refine sN hS fun _ hS => ?_
    refine sI hS (runs_pick rfl rfl) fun _ hS => ?_
    refine sI hS (runs_move rfl) fun _ hS => ?_
    refine sN hS fun _ hS => ?_
    refine sN hS fun _ hS => ?_
    refine sN hS fun _ hS => ?_
    refine sN hS fun _ hS => ?_
    refine sN hS fun _ hS => ?_
    refine sN hS fun _ hS => ?_
    refine sN hS fun _ hS => ?_
    refine sI hS (runs_pick rfl rfl) fun _ hS => ?_
    refine nil_ok (wp_cond_true (hS.eval rfl) (qx_seq (reg_seq ?_)))
    refine sI hS (runs_assign rfl) fun _ hS => ?_
    exact nil_ok (qx_ret (ret1 (t := 4) (by kernel_rfl) hS rfl ⟨_, rfl, by rw [decide_eq_false (fun e => h1 (by rw [e]))], hB⟩))
  refine sI hS (runs_neq (r := false) rfl rfl (by simpa using h1)) fun _ hS => ?_
  refine sI hS (runs_move rfl) fun _ hS => ?_
  refine sY hS (runs_fieldK foC_1 rfl) fun _ hS => ?_
  refine sY hS (runs_load rfl pl3 (hM1.at rfl)) fun _ hS => ?_
  refine sY hS (runs_fieldK foC_1 rfl) fun _ hS => ?_
  refine sY hS (runs_load rfl pl3 (hM3.at rfl)) fun _ hS => ?_
  by_cases h2 : c.st ≠ d.st
  · skip
    refine sY hS (runs_neq (r := true) rfl rfl (by simpa using h2)) fun _ hS => ?_
    refine sI hS (runs_pick rfl rfl) fun _ hS => ?_
    refine sI hS (runs_move rfl) fun _ hS => ?_
    refine sN hS fun _ hS => ?_
    refine sN hS fun _ hS => ?_
    refine sN hS fun _ hS => ?_
    refine sN hS fun _ hS => ?_
    refine sN hS fun _ hS => ?_
    refine sI hS (runs_pick rfl rfl) fun _ hS => ?_
    refine sI hS (runs_move rfl) fun _ hS => ?_
    refine sN hS fun _ hS => ?_
    refine sN hS fun _ hS => ?_
    refine sN hS fun _ hS => ?_
    refine sN hS fun _ hS => ?_
    refine sN hS fun _ hS => ?_
    refine sN hS fun _ hS => ?_
    refine sN hS fun _ hS => ?_
    refine sI hS (runs_pick rfl rfl) fun _ hS => ?_
    refine nil_ok (wp_cond_true (hS.eval rfl) (qx_seq (reg_seq ?_)))
    refine sI hS (runs_assign rfl) fun _ hS => ?_
    exact nil_ok (qx_ret (ret1 (t := 4) (by kernel_rfl) hS rfl ⟨_, rfl, by rw [decide_eq_false (fun e => h2 (by rw [e]))], hB⟩))
  refine sY hS (runs_neq (r := false) rfl rfl (by simpa using h2)) fun _ hS => ?_
  refine sI hS (runs_pick rfl rfl) fun _ hS => ?_
  refine sI hS (runs_move rfl) fun _ hS => ?_
  refine sY hS (runs_fieldK foC_2 rfl) fun _ hS => ?_
  refine sY hS (runs_loadMid rfl (cm_root hM1 hl) Tryd.underlying23 rfl (by rw [infHash, U8_length, hl])) fun _ hS => ?_
  refine sY hS (runs_fieldK foC_2 rfl) fun _ hS => ?_
  refine sY hS (runs_loadMid rfl (cm_root hM3 hld) Tryd.underlying23 rfl (by rw [infHash, U8_length, hld])) fun _ hS => ?_
  by_cases h3 : c.root ≠ d.root
  · skip
    refine sY hS (runs_neHash (r := true) rfl rfl hl hld (by simpa using h3)) fun _ hS => ?_
    refine sI hS (runs_pick rfl rfl) fun _ hS => ?_
    refine sI hS (runs_move rfl) fun _ hS => ?_
    refine sN hS fun _ hS => ?_
    refine sN hS fun _ hS => ?_
    refine sN hS fun _ hS => ?_
    refine sN hS fun _ hS => ?_
    refine sN hS fun _ hS => ?_
    refine sN hS fun _ hS => ?_
    refine sN hS fun _ hS => ?_
    refine sI hS (runs_pick rfl rfl) fun _ hS => ?_
    refine nil_ok (wp_cond_true (hS.eval rfl) (qx_seq (reg_seq ?_)))
    refine sI hS (runs_assign rfl) fun _ hS => ?_
    exact nil_ok (qx_ret (ret1 (t := 4) (by kernel_rfl) hS rfl ⟨_, rfl, by rw [decide_eq_false (fun e => h3 (by rw [e]))], hB⟩))
  refine sY hS (runs_neHash (r := false) rfl rfl hl hld (by simpa using h3)) fun _ hS => ?_
  refine sI hS (runs_pick rfl rfl) fun _ hS => ?_
  refine sI hS (runs_move rfl) fun _ hS => ?_
  refine sY hS (runs_fieldK foC_3 rfl) fun _ hS => ?_
  refine sY hS (runs_load rfl pl924 (hM1.at (cm_v hl))) fun _ hS => ?_
  refine sY hS (runs_len rfl undHs) fun _ hS => ?_
  refine sY hS (runs_fieldK foC_3 rfl) fun _ hS => ?_
  refine sY hS (runs_load rfl pl924 (hM3.at (cm_v hld))) fun _ hS => ?_
  refine sY hS (runs_len rfl undHs) fun _ hS => ?_
  by_cases h4 : c.bs.length ≠ d.bs.length
  · skip
    refine sY hS (runs_neq (r := true) rfl rfl (by simp; omega)) fun _ hS => ?_
    refine sI hS (runs_pick rfl rfl) fun _ hS => ?_
    refine nil_ok (wp_cond_true (hS.eval rfl) (qx_seq (reg_seq ?_)))
    refine sI hS (runs_assign rfl) fun _ hS => ?_
    exact nil_ok (qx_ret (ret1 (t := 4) (by kernel_rfl) hS rfl ⟨_, rfl, by rw [decide_eq_false (fun e => h4 (by rw [e]))], hB⟩))
  refine sY hS (runs_neq (r := false) rfl rfl (by simp; omega)) fun _ hS => ?_
  refine sI hS (runs_pick rfl rfl) fun _ hS => ?_
  refine nil_ok (wp_cond_false (hS.eval rfl) (wp_skip (qx_seq (qx_seq (reg_seq ?_)))))
  refine sI hS (runs_assign rfl) fun _ hS => ?_
  refine nil_ok (?_)
  have h4e : c.bs.length = d.bs.length := Classical.not_not.1 h4
  have hBpre0 := hB
  have hB := Below.refl w3.heap.size w3
  have hM1b := hM1
  have hM3b := hM3
  have hHb := hH
  have hHdb := hHd
  refine qx_for (fun mm a w' => ∃ (i : Nat), i ≤ c.bs.length ∧ mm = c.bs.length - i ∧ Below w3.heap.size w3 w' ∧ c.bs.take i = d.bs.take i ∧ Sees 52 [(5, .int .i64 (i : Int)), (2, .pointer (some ⟨w.heap.size, 0, none⟩)), (3, .pointer (some ⟨w1.heap.size, 0, none⟩))] a) c.bs.length ⟨0, by omega, by omega, hB, by simp, hS.only _ ⟨rfl, rfl, rfl, trivial⟩⟩ ?_
  clear hS 
  rintro mm a wl1 ⟨i, hi1, rfl, hBb1, heq, hS⟩
  have hH := hHb.kept hBb1
  have hHd := hHdb.kept hBb1
  have hM1 := hM1b.below hBb1 hM1b.lt
  have hM3 := hM3b.below hBb1 hM3b.lt
  have hB := Below.refl wl1.heap.size wl1
  have hM1b1 := hM1
  have hM3b1 := hM3
  refine reg_seq ?_
  refine sI hS (runs_move rfl) fun _ hS => ?_
  refine sI hS (runs_fieldK foC_3 rfl) fun _ hS => ?_
  refine sI hS (runs_load rfl pl924 (hM1.at (cm_v hl))) fun _ hS => ?_
  refine sI hS (runs_len rfl undHs) fun _ hS => ?_
  by_cases hlt1 : i < c.bs.length
  · skip
    refine sI hS (lssT rfl rfl (by omega)) fun _ hS => ?_
    refine nil_ok ⟨_, hS.eval rfl, fun h => by simp at h, fun _ => ?_⟩
    have hSn := hS
    obtain ⟨x, hx⟩ : ∃ x, c.bs[i]? = some x := ⟨c.bs[i], by simp [hlt1]⟩
    obtain ⟨y, hy⟩ : ∃ y, d.bs[i]? = some y := ⟨d.bs[i]'(by omega), by simp [show i < d.bs.length by omega]⟩
    obtain ⟨b, o, hbe, hbw, hr⟩ := hashes_row hH (by omega)
    cases hbe
    obtain ⟨bd, od, hbe, hbwd, hrd⟩ := hashes_row hHd (by omega)
    cases hbe
    have hrx := hashes_at hr hHo hx
    have hry := hashes_at hrd hHod hy
    have hx32 := (hHo x (List.mem_of_getElem? hx)).1
    have hy32 := (hHod y (List.mem_of_getElem? hy)).1
    have hS := hSn
    refine qx_seq (qx_block (qx_seq (?_)))
    by_cases hxy : x = y
    · skip
      refine reg_guard (fun w' => Below wl1.heap.size wl1 w') [.inl (.pointer (some ⟨w.heap.size, 0 + 34, none⟩)), .inl (.slice (some ⟨b, o, none⟩) c.bs.length cc), .inl (.int .i64 (i : Int)), .inl (.pointer (some ⟨b, o + i * 32, none⟩)), .inl (.agg (U8 x).toArray), .inl (.pointer (some ⟨w1.heap.size, 0 + 34, none⟩)), .inl (.slice (some ⟨bd, od, none⟩) d.bs.length ccd), .inl (.int .i64 (i : Int)), .inl (.pointer (some ⟨bd, od + i * 32, none⟩)), .inl (.agg (U8 y).toArray), .inl (.bool false)] 11 0 mixed rfl (by kernel_rfl) hS (Below.refl _ _) (fun _ h => h.drew) ?_
      refine hs_is rfl (fun w' hw => runs_fieldK foC_3 rfl) ?_
      refine hs_is rfl (fun w' hw => runs_load rfl pl924 ((hM1.below hw hM1.lt).at (cm_v hl))) ?_
      refine hs_is rfl (fun w' hw => runs_move rfl) ?_
      refine hs_is rfl (fun w' hw => runs_indexAddrG (j := i) rfl rfl undHs szHs rfl hlt1) ?_
      refine hs_is rfl (fun w' hw => runs_loadMid rfl (range_below hrx hw hbw) Tryd.underlying23 rfl (by rw [infHash, U8_length, hx32])) ?_
      refine hs_is rfl (fun w' hw => runs_fieldK foC_3 rfl) ?_
      refine hs_is rfl (fun w' hw => runs_load rfl pl924 ((hM3.below hw hM3.lt).at (cm_v hld))) ?_
      refine hs_is rfl (fun w' hw => runs_move rfl) ?_
      refine hs_is rfl (fun w' hw => runs_indexAddrG (j := i) rfl rfl undHs szHs rfl (by omega)) ?_
      refine hs_is rfl (fun w' hw => runs_loadMid rfl (range_below hry hw hbwd) Tryd.underlying23 rfl (by rw [infHash, U8_length, hy32])) ?_
      refine hs_is rfl (fun w' hw => runs_neHash (r := false) rfl rfl hx32 hy32 (by simp [hxy])) ?_
      refine (fun a5 w5 hS hB5 hq => ?_)
      clear hq
      have hB := hB.trans (hB5.mono hB.size)
      have hM1 := hM1b1.below hB hM1b1.lt
      have hM3 := hM3b1.below hB hM3b1.lt
      refine wpAnyH_done (by kernel_rfl) ?_ _
      refine wp_cond_false (hS.eval rfl) (wp_skip (reg_seq ?_))
      refine sI hS (runs_move rfl) fun _ hS => ?_
      refine sI hS (runs_add (r := ((i + 1 : Nat) : Int)) rfl rfl (by simp [IntKind.wrap, IntKind.bits, IntKind.signed]; omega)) fun _ hS => ?_
      refine sI hS (runs_assign rfl) fun _ hS => ?_
      exact nil_ok ⟨_, by omega, i + 1, by omega, rfl, hBb1.trans (hB.mono hBb1.size), by rw [List.take_add_one, List.take_add_one, hx, hy, heq, hxy], hS.only _ ⟨rfl, rfl, rfl, trivial⟩⟩
    · skip
      refine reg_guard (fun w' => Below wl1.heap.size wl1 w') [.inl (.pointer (some ⟨w.heap.size, 0 + 34, none⟩)), .inl (.slice (some ⟨b, o, none⟩) c.bs.length cc), .inl (.int .i64 (i : Int)), .inl (.pointer (some ⟨b, o + i * 32, none⟩)), .inl (.agg (U8 x).toArray), .inl (.pointer (some ⟨w1.heap.size, 0 + 34, none⟩)), .inl (.slice (some ⟨bd, od, none⟩) d.bs.length ccd), .inl (.int .i64 (i : Int)), .inl (.pointer (some ⟨bd, od + i * 32, none⟩)), .inl (.agg (U8 y).toArray), .inl (.bool true)] 11 0 mixed rfl (by kernel_rfl) hS (Below.refl _ _) (fun _ h => h.drew) ?_
      refine hs_is rfl (fun w' hw => runs_fieldK foC_3 rfl) ?_
      refine hs_is rfl (fun w' hw => runs_load rfl pl924 ((hM1.below hw hM1.lt).at (cm_v hl))) ?_
      refine hs_is rfl (fun w' hw => runs_move rfl) ?_
      refine hs_is rfl (fun w' hw => runs_indexAddrG (j := i) rfl rfl undHs szHs rfl hlt1) ?_
      refine hs_is rfl (fun w' hw => runs_loadMid rfl (range_below hrx hw hbw) Tryd.underlying23 rfl (by rw [infHash, U8_length, hx32])) ?_
      refine hs_is rfl (fun w' hw => runs_fieldK foC_3 rfl) ?_
      refine hs_is rfl (fun w' hw => runs_load rfl pl924 ((hM3.below hw hM3.lt).at (cm_v hld))) ?_
      refine hs_is rfl (fun w' hw => runs_move rfl) ?_
      refine hs_is rfl (fun w' hw => runs_indexAddrG (j := i) rfl rfl undHs szHs rfl (by omega)) ?_
      refine hs_is rfl (fun w' hw => runs_loadMid rfl (range_below hry hw hbwd) Tryd.underlying23 rfl (by rw [infHash, U8_length, hy32])) ?_
      refine hs_is rfl (fun w' hw => runs_neHash (r := true) rfl rfl hx32 hy32 (by simpa using hxy)) ?_
      refine (fun a7 w7 hS hB7 hq => ?_)
      clear hq
      have hB := hB.trans (hB7.mono hB.size)
      refine wpAnyH_done (by kernel_rfl) ?_ _
      refine wp_cond_true (hS.eval rfl) (qx_seq (reg_seq ?_))
      refine sI hS (runs_assign rfl) fun _ hS => ?_
      exact nil_ok (qx_ret (ret1 (t := 4) (by kernel_rfl) hS rfl ⟨_, rfl, by rw [decide_eq_false (fun e => hxy (by subst e; rw [hx] at hy; exact Option.some.inj hy))], hBpre0.trans ((hBb1.trans (hB.mono hBb1.size)).mono hBpre0.size)⟩))
  refine sI hS (lssF rfl rfl (by omega)) fun _ hS => ?_
  obtain rfl : i = c.bs.length := by omega
  refine nil_ok ⟨_, hS.eval rfl, fun _ => ?_, fun h => by simp at h⟩
  have hB := hBb1
  rw [List.take_length, h4e, List.take_length] at heq
  refine qx_seq (reg_seq ?_)
  refine sI hS (runs_assign rfl) fun _ hS => ?_
  have hfin : c = d := by
    obtain ⟨cw, cs, cr, cb⟩ := c
    obtain ⟨dw, ds, dr, db⟩ := d
    simp only [Cm.mk.injEq]
    exact ⟨Classical.not_not.1 h1, Classical.not_not.1 h2, Classical.not_not.1 h3, heq⟩
  exact nil_ok (qx_ret (ret1 (t := 4) (by kernel_rfl) hS rfl ⟨_, rfl, by rw [decide_eq_true hfin], hBpre0.trans (hB.mono hBpre0.size)⟩))
set_option maxHeartbeats 1000000 in
theorem rrightC_any (c : Cm) (u : Value) (w : World) (hC : CmV w u c) : Ans 11 [u] w (fun r w' => r = .bool (rightC c) ∧ Below w.heap.size w w') := by
  obtain ⟨x, rfl, hH, hl, hby⟩ := hC
  obtain ⟨A, cc, rfl, hc1, hc2, hHo, hHr⟩ := id hH
  refine calls_qx (args := [.agg (cmc c (.slice A c.bs.length cc)).toArray]) 33 Tryd.func11 rfl (by kernel_rfl) (by simp) (fun a hS => ?_)
  have hB := Below.refl w.heap.size w
  refine qx_seq (reg_seq ?_)
  refine seq_op hS (by decide) (runs_boxB (cs := cmc c (.slice A c.bs.length cc)) rfl rfl) (fun v1 w1 a1 hp hS => ?_)
  obtain ⟨rfl, hM1, hB1⟩ := hp
  have hB := hB.trans (hB1.mono hB.size)
  refine sI hS (runs_assign rfl) fun _ hS => ?_
  refine nil_ok (qx_seq (reg_seq ?_))
  refine sI hS (runs_fieldK foC_0 rfl) fun _ hS => ?_
  refine sI hS (runs_load rfl pl3 (hM1.at rfl)) fun _ hS => ?_
  by_cases h1 : 0 ≤ c.w
  · skip
    refine sI hS (geqT rfl rfl (by omega)) fun _ hS => ?_
    refine sI hS (runs_move rfl) fun _ hS => ?_
    refine sY hS (runs_fieldK foC_0 rfl) fun _ hS => ?_
    refine sY hS (runs_load rfl pl3 (hM1.at rfl)) fun _ hS => ?_
    by_cases h2 : c.w < 64
    · skip
      refine sY hS (lssT rfl rfl (by omega)) fun _ hS => ?_
      refine sI hS (runs_pick rfl rfl) fun _ hS => ?_
      refine sI hS (runs_move rfl) fun _ hS => ?_
      refine sY hS (runs_fieldK foC_1 rfl) fun _ hS => ?_
      refine sY hS (runs_load rfl pl3 (hM1.at rfl)) fun _ hS => ?_
      by_cases h3 : 0 ≤ c.st
      · skip
        refine sY hS (geqT rfl rfl (by omega)) fun _ hS => ?_
        refine sI hS (runs_pick rfl rfl) fun _ hS => ?_
        refine sI hS (runs_move rfl) fun _ hS => ?_
        refine sY hS (runs_fieldK foC_1 rfl) fun _ hS => ?_
        refine sY hS (runs_load rfl pl3 (hM1.at rfl)) fun _ hS => ?_
        by_cases h4 : c.st < 64
        · skip
          refine sY hS (lssT rfl rfl (by omega)) fun _ hS => ?_
          refine sI hS (runs_pick rfl rfl) fun _ hS => ?_
          refine sI hS (runs_move rfl) fun _ hS => ?_
          refine sY hS (runs_fieldK foC_3 rfl) fun _ hS => ?_
          refine sY hS (runs_load rfl pl924 (hM1.at (cm_v hl))) fun _ hS => ?_
          refine sY hS (runs_len rfl undHs) fun _ hS => ?_
          by_cases h5 : 1 ≤ c.bs.length
          · skip
            refine sY hS (geqT rfl rfl (by omega)) fun _ hS => ?_
            refine sI hS (runs_pick rfl rfl) fun _ hS => ?_
            refine sI hS (runs_move rfl) fun _ hS => ?_
            refine sY hS (runs_fieldK foC_3 rfl) fun _ hS => ?_
            refine sY hS (runs_load rfl pl924 (hM1.at (cm_v hl))) fun _ hS => ?_
            refine sY hS (runs_len rfl undHs) fun _ hS => ?_
            by_cases h6 : c.bs.length ≤ 64
            · skip
              refine sY hS (leqT rfl rfl (by omega)) fun _ hS => ?_
              refine sI hS (runs_pick rfl rfl) fun _ hS => ?_
              refine sI hS (runs_assign rfl) fun _ hS => ?_
              have hfin : rightC c = true := (rightC_iff c).2 ⟨h1, h2, h3, h4, h5, h6⟩
              exact nil_ok (qx_ret (ret1 (t := 2) (by kernel_rfl) hS rfl ⟨_, rfl, by rw [hfin], hB⟩))
            refine sY hS (leqF rfl rfl (by omega)) fun _ hS => ?_
            refine sI hS (runs_pick rfl rfl) fun _ hS => ?_
            refine sI hS (runs_assign rfl) fun _ hS => ?_
            have hfin : rightC c = false := Bool.eq_false_iff.2 (fun h => h6 (by have := (rightC_iff c).1 h; omega))
            exact nil_ok (qx_ret (ret1 (t := 2) (by kernel_rfl) hS rfl ⟨_, rfl, by rw [hfin], hB⟩))
          refine sY hS (geqF rfl rfl (by omega)) fun _ hS => ?_
          refine sI hS (runs_pick rfl rfl) fun _ hS => ?_
          refine sI hS (runs_move rfl) fun _ hS => ?_
          refine sN hS fun _ hS => ?_
          refine sN hS fun _ hS => ?_
          refine sN hS fun _ hS => ?_
          refine sN hS fun _ hS => ?_
          refine sI hS (runs_pick rfl rfl) fun _ hS => ?_
          refine sI hS (runs_assign rfl) fun _ hS => ?_
          have hfin : rightC c = false := Bool.eq_false_iff.2 (fun h => h5 (by have := (rightC_iff c).1 h; omega))
          exact nil_ok (qx_ret (ret1 (t := 2) (by kernel_rfl) hS rfl ⟨_, rfl, by rw [hfin], hB⟩))
        refine sY hS (lssF rfl rfl (by omega)) fun _ hS => ?_
        refine sI hS (runs_pick rfl rfl) fun _ hS => ?_
        refine sI hS (runs_move rfl) fun _ hS => ?_
        refine sN hS fun _ hS => ?_
        refine sN hS fun _ hS => ?_
        refine sN hS fun _ hS => ?_
        refine sN hS fun _ hS => ?_
        refine sI hS (runs_pick rfl rfl) fun _ hS => ?_
        refine sI hS (runs_move rfl) fun _ hS => ?_
        refine sN hS fun _ hS => ?_
        refine sN hS fun _ hS => ?_
        refine sN hS fun _ hS => ?_
        refine sN hS fun _ hS => ?_
        refine sI hS (runs_pick rfl rfl) fun _ hS => ?_
        refine sI hS (runs_assign rfl) fun _ hS => ?_
        have hfin : rightC c = false := Bool.eq_false_iff.2 (fun h => h4 (by have := (rightC_iff c).1 h; omega))
        exact nil_ok (qx_ret (ret1 (t := 2) (by kernel_rfl) hS rfl ⟨_, rfl, by rw [hfin], hB⟩))
      refine sY hS (geqF rfl rfl (by omega)) fun _ hS => ?_
      refine sI hS (runs_pick rfl rfl) fun _ hS => ?_
      refine sI hS (runs_move rfl) fun _ hS => ?_
      refine sN hS fun _ hS => ?_
      refine sN hS fun _ hS => ?_
      refine sN hS fun _ hS => ?_
      refine sI hS (runs_pick rfl rfl) fun _ hS => ?_
      refine sI hS (runs_move rfl) fun _ hS => ?_
      refine sN hS fun _ hS => ?_
      refine sN hS fun _ hS => ?_
      refine sN hS fun _ hS => ?_
      refine sN hS fun _ hS => ?_
      refine sI hS (runs_pick rfl rfl) fun _ hS => ?_
      refine sI hS (runs_move rfl) fun _ hS => ?_
      refine sN hS fun _ hS => ?_
      refine sN hS fun _ hS => ?_
      refine sN hS fun _ hS => ?_
      refine sN hS fun _ hS => ?_
      refine sI hS (runs_pick rfl rfl) fun _ hS => ?_
      refine sI hS (runs_assign rfl) fun _ hS => ?_
      have hfin : rightC c = false := Bool.eq_false_iff.2 (fun h => h3 (by have := (rightC_iff c).1 h; omega))
      exact nil_ok (qx_ret (ret1 (t := 2) (by kernel_rfl) hS rfl ⟨_, rfl, by rw [hfin], hB⟩))
    refine sY hS (lssF rfl rfl (by omega)) fun _ hS => ?_
    refine sI hS (runs_pick rfl rfl) fun _ hS => ?_
    refine sI hS (runs_move rfl) fun _ hS => ?_
    refine sN hS fun _ hS => ?_
    refine sN hS fun _ hS => ?_
    refine sN hS fun _ hS => ?_
    refine sI hS (runs_pick rfl rfl) fun _ hS => ?_
    refine sI hS (runs_move rfl) fun _ hS => ?_
    refine sN hS fun _ hS => ?_
    refine sN hS fun _ hS => ?_
    refine sN hS fun _ hS => ?_
    refine sI hS (runs_pick rfl rfl) fun _ hS => ?_
    refine sI hS (runs_move rfl) fun _ hS => ?_
    refine sN hS fun _ hS => ?_
    refine sN hS fun _ hS => ?_
    refine sN hS fun _ hS => ?_
    refine sN hS fun _ hS => ?_
    refine sI hS (runs_pick rfl rfl) fun _ hS => ?_
    refine sI hS (runs_move rfl) fun _ hS => ?_
    refine sN hS fun _ hS => ?_
    refine sN hS fun _ hS => ?_
    refine sN hS fun _ hS => ?_
    refine sN hS fun _ hS => ?_
    refine sI hS (runs_pick rfl rfl) fun _ hS => ?_
    refine sI hS (runs_assign rfl) fun _ hS => ?_
    have hfin : rightC c = false := Bool.eq_false_iff.2 (fun h => h2 (by have := (rightC_iff c).1 h; omega))
    exact nil_ok (qx_ret (ret1 (t := 2) (by kernel_rfl) hS rfl ⟨_, rfl, by rw [hfin], hB⟩))
  refine sI hS (geqF rfl rfl (by omega)) fun _ hS => ?_
  refine sI hS (runs_move rfl) fun _ hS => ?_
  refine sN hS fun _ hS => ?_
  refine sN hS fun _ hS => ?_
  refine sN hS fun _ hS => ?_
  refine sI hS (runs_pick rfl rfl) fun _ hS => ?_
  refine sI hS (runs_move rfl) fun _ hS => ?_
  refine sN hS fun _ hS => ?_
  refine sN hS fun _ hS => ?_
  refine sN hS fun _ hS => ?_
  refine sI hS (runs_pick rfl rfl) fun _ hS => ?_
  refine sI hS (runs_move rfl) fun _ hS => ?_
  refine sN hS fun _ hS => ?_
  refine sN hS fun _ hS => ?_
  refine sN hS fun _ hS => ?_
  refine sI hS (runs_pick rfl rfl) fun _ hS => ?_
  refine sI hS (runs_move rfl) fun _ hS => ?_
  refine sN hS fun _ hS => ?_
  refine sN hS fun _ hS => ?_
  refine sN hS fun _ hS => ?_
  refine sN hS fun _ hS => ?_
  refine sI hS (runs_pick rfl rfl) fun _ hS => ?_
  refine sI hS (runs_move rfl) fun _ hS => ?_
  refine sN hS fun _ hS => ?_
  refine sN hS fun _ hS => ?_
  refine sN hS fun _ hS => ?_
  refine sN hS fun _ hS => ?_
  refine sI hS (runs_pick rfl rfl) fun _ hS => ?_
  refine sI hS (runs_assign rfl) fun _ hS => ?_
  have hfin : rightC c = false := Bool.eq_false_iff.2 (fun h => h1 (by have := (rightC_iff c).1 h; omega))
  exact nil_ok (qx_ret (ret1 (t := 2) (by kernel_rfl) hS rfl ⟨_, rfl, by rw [hfin], hB⟩))
end Go.Proofs.YtooeahpkhocaeaaDoor
