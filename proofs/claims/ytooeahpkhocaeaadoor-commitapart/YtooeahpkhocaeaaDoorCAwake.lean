/- Layer 12: what the example fixes, walked over the contracts of what it calls. -/
import Derived.Test.YtooeahpkhocaeaaDoorCLaws
namespace Go.Proofs.YtooeahpkhocaeaaDoor
open Go.RowKit
set_option maxRecDepth 100000

def exC : Cm := makeM 1 2 [] [[]]
theorem exC_right : rightC exC = true := rfl
theorem exC_root : exC.root.length = 32 := rootX_len _
theorem exC_bytes : bytesC exC = 67 :: 1 :: 2 :: (exC.root ++ (1 :: rootM [])) := by
  show 67 :: (Wire.num 1 ++ (Wire.num 2 ++ (exC.root ++ (Wire.num 1 ++ [rootM []].flatten)))) = _
  rw [Wire.num_lt (by omega), Wire.num_lt (by omega)]
  simp
theorem exC_len : (bytesC exC).length = 68 := by
  have h1 := exC_root
  have h2 := rootM_len []
  rw [exC_bytes]
  simp only [List.length_cons, List.length_append]
  omega
theorem exC_keeps : keepsB exC [] [[]] = true := by simp [keepsB, exC, makeM]
theorem exC_not : keepsB exC [] [] = false := by simp [keepsB, exC, makeM]
theorem fits1 : FitsO [[]] := fun m hm => by rw [List.mem_singleton] at hm; subst hm; exact ⟨by simp, fun x hx => by simp at hx⟩
theorem verts_nil0 (w : World) : Verts w (.slice none 0 0) [] := ⟨none, 0, rfl, Nat.le_refl _, by unfold maxLen; omega, fun h => absurd h (by simp)⟩
theorem outs_nil0 (w : World) : Outs w (.slice none 0 0) [] := ⟨none, 0, [], rfl, Nat.le_refl _, by unfold maxLen; omega, rfl, fun h => absurd h (by simp), fun i l hi => by simp at hi⟩
theorem outs_one {w : World} {g : Nat} (h : Has w g 40 [.slice none 0 0]) : Outs w (.slice (some ⟨g, 0, none⟩) 1 1) [[]] :=
  ⟨_, 1, [.slice none 0 0], rfl, Nat.le_refl _, by unfold maxLen; omega, rfl, fun _ => ⟨g, 0, rfl, h.lt, h.all⟩, fun i l hi => by
    match i, hi with
    | 0, hi => simp only [List.getElem?_cons_zero, Option.some.injEq] at hi; subst hi; exact ⟨_, rfl, edges_nil w⟩
    | n + 1, hi => simp at hi⟩
section
variable {L : List (Nat × Value)} {w : World} {ty : TypeId}
theorem runs_oneO : Runs Tryd.prog (.buildSlice 39 1 #[(0, .const (.slice none 0 0))]) ty L w (fun v w' => ∃ g2, v = .slice (some ⟨g2, 0, none⟩) 1 1 ∧ Has w' g2 40 [.slice none 0 0] ∧ Below w.heap.size w w') := by
  obtain ⟨i48, hi48, hz48, hs48, hb48⟩ := info_parts infLM
  exact (runs_buildSliceG (sz := 1) (pv := [(0, .slice none 0 0)]) (by simp [vals]) undLMM hi48 hz48 hs48 (by omega) (by omega) (cells := #[.slice none 0 0]) (by kernel_rfl)).mono (by rintro v w5 ⟨rfl, rfl⟩; exact ⟨_, rfl, Has.new w 40 [.slice none 0 0], (Below.refl _ _).alloc (Nat.le_refl _) _⟩)
theorem runs_takeS3 {x : Operand} {s : ByteArray} (hx : vals L x = some (.string s)) (h3 : 3 ≤ s.size) : Runs Tryd.prog (.slice 9 x none (some (.const (.int .i64 3))) none) ty L w (Is (.string (S ((bl s).take 3))) w) := fun o a K Q ho _ hL hK => by
  have ex := hL x (by simp [Op.operands]) _ hx
  have el := hL (.const (.int .i64 3)) (by simp [Op.operands]) _ rfl
  unfold Oper.wp
  have e : s.extract 0 3 = S ((bl s).take 3) := by
    apply bl_inj
    rw [bl_S (fun c hc => bl_bytes s c (List.mem_of_mem_take hc))]
    simp [bl, ByteArray.data_extract, List.map_take]
  have : (execOp a.eval o).run Tryd.prog w = .ok (.value (.string (S ((bl s).take 3)))) w := by
    rw [← e]
    simp [execOp, ho, ex, el, Instr.sliceAt, run_underlying und9, Instr.slice, Instr.sliceBounds, Instr.sliceBound, asIntOf]
    intro h9; omega
  rw [this]
  exact hK _ _ ⟨rfl, rfl⟩
end
set_option maxHeartbeats 1000000 in
theorem cawake_c (hP : CPutC) (hG : CGetC) (hMk : CMakeC) (hKp : CKeepsC) : CAwkC := fun w hk => by
  show Ans 8 [] w _
  refine calls_qx (args := []) 57 Tryd.func8 rfl (by kernel_rfl) (by simp) (fun a hS => ?_)
  have hB := Below.refl w.heap.size w
  refine qx_seq (reg_seq ?_)
  refine sI hS (runs_assign rfl) fun _ hS => ?_
  refine nil_ok (qx_seq (reg_seq ?_))
  refine seq_op hS (by decide) (runs_oneO) (fun v1 w1 a1 hp hS => ?_)
  obtain ⟨g2, rfl, hX1, hB1⟩ := hp
  have hO1 := outs_one hX1
  have hB := hB.trans (hB1.mono hB.size)
  refine seq_op hS (by decide) (runs_call (args := [.int .i64 1, .int .i64 2, .slice none 0 0, .slice (some ⟨g2, 0, none⟩) 1 1]) goes16 rfl (hMk 1 2 [] [[]] _ _ w1 ⟨by omega, by omega⟩ ⟨by omega, by omega⟩ (verts_nil0 _) (by simp) hO1 (by simp) fits1 (hk.below (hB) hk.pos))) (fun v3 w3 a1 hp hS => ?_)
  obtain ⟨um, rfl, hM, hB3⟩ := hp
  rw [show makeM 1 2 [] [[]] = exC from rfl] at hM hS
  rw [if_pos exC_right] at hM
  have hB := hB.trans (hB3.mono hB.size)
  obtain ⟨ex, hex⟩ : ∃ e, exC = e := ⟨_, rfl⟩
  have hr := exC_right
  have hlen := exC_len
  have hbyt := exC_bytes
  have hk1 := exC_keeps
  have hk2 := exC_not
  rw [hex] at hM hS hr hlen hbyt hk1 hk2
  obtain ⟨xm, rfl, hHm, hlm, hbym⟩ := id hM
  obtain ⟨Am, cm_, rfl, -, -, hHom, -⟩ := id hHm
  have ho := hM.ok
  have hbp := bl_putC hr ho
  have hps : (putC ex).size = 68 := by rw [← bl_length, hbp, hlen]
  have hbl : ex.bs.length ≤ 10000 := by have := ((rightC_iff ex).1 hr).2.2.2.2.2; omega
  have hBprem := hB
  have hB := Below.refl w3.heap.size w3
  have hMb := hM
  refine sI hS (runs_move rfl) fun _ hS => ?_
  refine sI hS (runs_extract rfl rfl) fun _ hS => ?_
  refine sI hS (runs_extract rfl rfl) fun _ hS => ?_
  refine seq_op hS (by decide) (runs_allocB (cs := cmc noCm (.slice none 0 0)) zoC rfl) (fun v5 w5 a1 hp hS => ?_)
  obtain ⟨rfl, hM5, hB5⟩ := hp
  have hLhM5 : w3.heap.size ≤ w3.heap.size := hB.size
  have hB := hB.trans (hB5.mono hB.size)
  have hM := hMb.kept hB
  refine seq_none hS (runs_storeB (cs := cmc ex (.slice Am ex.bs.length cm_)) rfl rfl hM5 ((cmc_len noCm_len).trans (cmc_len hlm).symm) (cm_one rfl) (by rw [szC, cmc_len hlm])) (fun v7 w7 a1 hp hS => ?_)
  obtain ⟨hM5, hU7⟩ := hp
  have hB := But.new hB hU7 (fun i e => by rw [e]; exact hLhM5) (Nat.le_refl _)
  have hM := hMb.kept hB
  refine sI hS (runs_assign rfl) fun _ hS => ?_
  refine nil_ok (qx_seq (reg_seq ?_))
  refine sI hS (runs_loadRow rfl hM5 Tryd.underlying26 rfl (by rw [szC, cmc_len hlm])) fun _ hS => ?_
  refine seq_op hS (by decide) (runs_call (args := [.agg (cmc ex (.slice Am ex.bs.length cm_)).toArray]) goes9 rfl (hP ex _ w7 hM (hbl) (fitsC_right hr))) (fun v9 w9 a1 hp hS => ?_)
  obtain ⟨rfl, hB9⟩ := hp
  have hB := hB.trans (hB9.mono hB.size)
  have hM5 := hM5.below hB9 hM5.lt
  have hM := hMb.kept hB
  refine sI hS (runs_move rfl) fun _ hS => ?_
  refine sI hS (runs_extract rfl rfl) fun _ hS => ?_
  refine sI hS (runs_extract rfl rfl) fun _ hS => ?_
  refine sI hS (runs_assign rfl) fun _ hS => ?_
  refine sI hS (runs_assign rfl) fun _ hS => ?_
  refine nil_ok (qx_seq (reg_seq ?_))
  refine sI hS (runs_move rfl) fun _ hS => ?_
  refine seq_op hS (by decide) (runs_call (args := [.string (putC ex)]) goes12 rfl (hG (putC ex) w9 (by omega))) (fun v11 w11 a1 hp hS => ?_)
  rw [hbp, getC_bytes hr ho] at hp
  obtain ⟨ug, rfl, hVg, hB11⟩ := hp
  obtain ⟨xg, rfl, hHg, hlg, hbyg⟩ := id hVg
  obtain ⟨Ag, ccg, rfl, -, -, hHog, -⟩ := id hHg
  have hB := hB.trans (hB11.mono hB.size)
  have hM5 := hM5.below hB11 hM5.lt
  have hM := hMb.kept hB
  have hBpregg := hB
  have hB := Below.refl w11.heap.size w11
  have hM5b := hM5
  have hMb := hM
  have hVgb := hVg
  refine sI hS (runs_move rfl) fun _ hS => ?_
  refine sI hS (runs_extract rfl rfl) fun _ hS => ?_
  refine sI hS (runs_extract rfl rfl) fun _ hS => ?_
  refine seq_op hS (by decide) (runs_allocB (cs := cmc noCm (.slice none 0 0)) zoC rfl) (fun v13 w13 a1 hp hS => ?_)
  obtain ⟨rfl, hM13, hB13⟩ := hp
  have hLhM13 : w11.heap.size ≤ w11.heap.size := hB.size
  have hB := hB.trans (hB13.mono hB.size)
  have hM5 := hM5b.below hB hM5b.lt
  have hM := hMb.kept hB
  have hVg := hVgb.kept hB
  refine seq_none hS (runs_storeB (cs := cmc ex (.slice Ag ex.bs.length ccg)) rfl rfl hM13 ((cmc_len noCm_len).trans (cmc_len hlg).symm) (cm_one rfl) (by rw [szC, cmc_len hlg])) (fun v15 w15 a1 hp hS => ?_)
  obtain ⟨hM13, hU15⟩ := hp
  have hB := But.new hB hU15 (fun i e => by rw [e]; exact hLhM13) (Nat.le_refl _)
  have hM5 := hM5b.below hB hM5b.lt
  have hM := hMb.kept hB
  have hVg := hVgb.kept hB
  refine sI hS (runs_assign rfl) fun _ hS => ?_
  refine nil_ok (qx_seq (reg_seq ?_))
  refine sI hS (runs_move rfl) fun _ hS => ?_
  refine sI hS (runs_eql (r := true) rfl rfl (by rw [chkC_ok hr]; rfl)) fun _ hS => ?_
  refine sI hS (runs_move rfl) fun _ hS => ?_
  refine sY hS (runs_move rfl) fun _ hS => ?_
  refine sY hS (runs_eql (r := true) rfl rfl (by rw [chkC_ok hr]; rfl)) fun _ hS => ?_
  refine sI hS (runs_pick rfl rfl) fun _ hS => ?_
  refine sI hS (runs_move rfl) fun _ hS => ?_
  refine sY hS (runs_move rfl) fun _ hS => ?_
  refine sY hS (runs_lens rfl und9) fun _ hS => ?_
  refine sY hS (runs_eql (r := true) rfl rfl (by rw [hps]; rfl)) fun _ hS => ?_
  refine sI hS (runs_pick rfl rfl) fun _ hS => ?_
  refine sI hS (runs_move rfl) fun _ hS => ?_
  refine sY hS (runs_move rfl) fun _ hS => ?_
  refine sY hS (runs_takeS3 rfl (by omega)) fun _ hS => ?_
  refine sY hS (runs_eqStr (r := true) rfl rfl (by rw [hbp, hbyt]; rfl)) fun _ hS => ?_
  refine sI hS (runs_pick rfl rfl) fun _ hS => ?_
  refine sI hS (runs_move rfl) fun _ hS => ?_
  refine sY hS (runs_move rfl) fun _ hS => ?_
  refine sY hS (runs_eql (r := true) rfl rfl rfl) fun _ hS => ?_
  refine sI hS (runs_pick rfl rfl) fun _ hS => ?_
  refine sI hS (runs_move rfl) fun _ hS => ?_
  refine sY hS (runs_loadRow rfl hM5 Tryd.underlying26 rfl (by rw [szC, cmc_len hlg])) fun _ hS => ?_
  refine sY hS (runs_loadRow rfl hM13 Tryd.underlying26 rfl (by rw [szC, cmc_len hlg])) fun _ hS => ?_
  refine seq_yes hS (by decide) rfl (by decide) rfl (runs_call (args := [.agg (cmc ex (.slice Am ex.bs.length cm_)).toArray, .agg (cmc ex (.slice Ag ex.bs.length ccg)).toArray]) goes14 rfl (rsame_any ex ex _ _ w15 hM hVg)) (fun v17 w17 a1 hp hS => ?_)
  obtain ⟨rfl, hB17⟩ := hp
  have hB := hB.trans (hB17.mono hB.size)
  have hM5 := hM5b.below hB hM5b.lt
  have hM := hMb.kept hB
  rw [show decide (ex = ex) = true by simp] at hS
  refine sI hS (runs_pick rfl rfl) fun _ hS => ?_
  refine sI hS (runs_move rfl) fun _ hS => ?_
  refine sY hS (runs_loadRow rfl hM5 Tryd.underlying26 rfl (by rw [szC, cmc_len hlg])) fun _ hS => ?_
  refine seq_yes hS (by decide) rfl (by decide) rfl (runs_oneO) (fun v19 w19 a1 hp hS => ?_)
  obtain ⟨g2, rfl, hX2, hB19⟩ := hp
  have hO2 := outs_one hX2
  have hB := hB.trans (hB19.mono hB.size)
  have hM5 := hM5b.below hB hM5b.lt
  have hM := hMb.kept hB
  refine seq_yes hS (by decide) rfl (by decide) rfl (runs_call (args := [.agg (cmc ex (.slice Am ex.bs.length cm_)).toArray, .slice none 0 0, .slice (some ⟨g2, 0, none⟩) 1 1]) goes17 rfl (hKp ex [] [[]] _ _ _ w19 hM hbl (verts_nil0 _) (by simp) hO2 (by simp) fits1 (hk.below (hBprem.trans ((hBpregg.trans ((hB).mono hBpregg.size)).mono hBprem.size)) hk.pos))) (fun v21 w21 a1 hp hS => ?_)
  obtain ⟨rfl, hB21⟩ := hp
  rw [hk1] at hS
  have hB := hB.trans (hB21.mono hB.size)
  have hM5 := hM5b.below hB hM5b.lt
  have hM := hMb.kept hB
  refine sI hS (runs_pick rfl rfl) fun _ hS => ?_
  refine sI hS (runs_move rfl) fun _ hS => ?_
  refine sY hS (runs_loadRow rfl hM5 Tryd.underlying26 rfl (by rw [szC, cmc_len hlg])) fun _ hS => ?_
  refine seq_yes hS (by decide) rfl (by decide) rfl (runs_call (args := [.agg (cmc ex (.slice Am ex.bs.length cm_)).toArray, .slice none 0 0, .slice none 0 0]) goes17 rfl (hKp ex [] [] _ _ _ w21 hM hbl (verts_nil0 _) (by simp) (outs_nil0 _) (by simp) (fun m hm => by simp at hm) (hk.below (hBprem.trans ((hBpregg.trans ((hB).mono hBpregg.size)).mono hBprem.size)) hk.pos))) (fun v23 w23 a1 hp hS => ?_)
  obtain ⟨rfl, hB23⟩ := hp
  rw [hk2] at hS
  have hB := hB.trans (hB23.mono hB.size)
  refine sY hS (runs_not (b := false) rfl) fun _ hS => ?_
  refine sI hS (runs_pick rfl rfl) fun _ hS => ?_
  refine sI hS (runs_assign rfl) fun _ hS => ?_
  exact nil_ok (qx_ret (ret1 (t := 0) (by kernel_rfl) hS rfl ⟨_, rfl, rfl, hBprem.trans ((hBpregg.trans ((hB).mono hBpregg.size)).mono hBprem.size)⟩))
end Go.Proofs.YtooeahpkhocaeaaDoor
