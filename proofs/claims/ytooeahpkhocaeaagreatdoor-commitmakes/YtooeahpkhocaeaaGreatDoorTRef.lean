/- The document's own half, leaf, node, top, sum, root, and what is said with them. Conditions: at most 20 leaves of 200 bytes. -/
import Derived.Test.YtooeahpkhocaeaaGreatDoorJ15
import Derived.Test.YtooeahpkhocaeaaGreatDoorJ16
namespace Go.Proofs.YtooeahpkhocaeaaGreatDoor
open Go.RowKit
set_option maxRecDepth 100000

theorem goes33 : Goes Tryz.prog 33 := goes_of Tryz.func33 (by kernel_rfl) rfl
theorem goes62 : Goes Tryz.prog 62 := goes_of Tryz.func62 (by kernel_rfl) rfl
theorem goes47 : Goes Tryz.prog 47 := goes_of Tryz.func47 (by kernel_rfl) rfl
theorem goes46 : Goes Tryz.prog 46 := goes_of Tryz.func46 (by kernel_rfl) rfl
theorem goes64 : Goes Tryz.prog 64 := goes_of Tryz.func64 (by kernel_rfl) rfl
theorem goes66 : Goes Tryz.prog 66 := goes_of Tryz.func66 (by kernel_rfl) rfl
theorem goes65 : Goes Tryz.prog 65 := goes_of Tryz.func65 (by kernel_rfl) rfl
theorem goes50 : Goes Tryz.prog 50 := goes_of Tryz.func50 (by kernel_rfl) rfl
theorem goes63 : Goes Tryz.prog 63 := goes_of Tryz.func63 (by kernel_rfl) rfl
section
variable {P : Program} {L : List (Nat × Value)} {w : World} {ty : TypeId}
theorem runs_cat {t t' : TypeId} {x y : Operand} {a b r : ByteArray} (hx : vals L x = some (.string a)) (hy : vals L y = some (.string b)) (hr : a ++ b = r) (hz : a.size + b.size ≤ 1000) : Runs P (.binOp .add t x y t') ty L w (Is (.string r) w) :=
  runs_bin hx hy rfl (by rw [← hr]; exact (show Sem.run P (Op.stringOp .add a b) w = _ from run_string_add_sum w a b (by omega)))
theorem runs_buildZero : Runs Tryz.prog (.build 25 #[]) ty L w (Is (.agg (U8 (List.replicate 32 0)).toArray) w) := fun o a K Q ho _ hL hK => by
  obtain ⟨ie, hie, hz⟩ : ∃ ie, Tryz.prog.info? 25 = some ie ∧ ie.zero = some (.agg (U8 (List.replicate 32 0)).toArray) := by
    have h := infHashZ
    cases hi : Tryz.prog.info? 25 with
    | none => rw [hi] at h; cases h
    | some ie => rw [hi] at h; exact ⟨ie, rfl, h⟩
  obtain ⟨i5, hi5⟩ : ∃ ie, Tryz.prog.info? 5 = some ie := by
    have h := infByteS
    cases hi : Tryz.prog.info? 5 with
    | none => rw [hi] at h; cases h
    | some ie => exact ⟨ie, rfl⟩
  unfold Oper.wp
  have : (execOp a.eval o).run Tryz.prog w = .ok (.value (.agg (U8 (List.replicate 32 0)).toArray)) w := by
    simp only [execOp, ho]
    simp [Instr.build, zeroValue, typeInfo, hie, hz, run_underlying undHash, sizeOf, hi5, Instr.fill, Value.cells]
  rw [this]
  exact hK _ _ ⟨rfl, rfl⟩
theorem runs_indexArr {t e : TypeId} {x y : Operand} {g m : Nat} {k : IntKind} {i : Int} {j : Nat} (hx : vals L x = some (.pointer (some ⟨g, 0, none⟩))) (hy : vals L y = some (.int k i)) (hu : P.underlying t = some (.array m e))
    (hs : (P.info? e).map (·.size) = some 1) (hj : i = (j : Int)) (hl : j < m) : Runs P (.indexAddr t x y) ty L w (Is (.pointer (some ⟨g, j, none⟩)) w) := fun o a K Q ho _ hL hK => by
  have ex := hL x (by simp [Op.operands]) _ hx
  have ey := hL y (by simp [Op.operands]) _ hy
  subst hj
  obtain ⟨ie, hie⟩ : ∃ ie, P.info? e = some ie := by
    cases h : P.info? e with
    | none => rw [h] at hs; cases hs
    | some ie => exact ⟨ie, rfl⟩
  have hsz : ie.size = 1 := by rw [hie] at hs; simpa using hs
  unfold Oper.wp
  have hadd : (⟨g, 0, none⟩ : Addr).add (j * 1) = ⟨g, j, none⟩ := by
    unfold Addr.add; split <;> simp_all
  have : (execOp a.eval o).run P w = .ok (.value (.pointer (some ⟨g, j, none⟩))) w := by
    simp only [execOp, ho, ex, ey]
    simp [Instr.indexAt, Instr.sureAddr, asIntOf, run_underlying hu, sizeOf, typeInfo, hie, hsz, hl]
    simpa using hadd
  rw [this]
  exact hK _ _ ⟨rfl, rfl⟩
end
theorem str_post {f : FuncId} {args : Array Value} {w : World} {l : List Nat} (C : World → Prop) (hc : Calls Tryz.prog f args w fun e w' => e = .returned (.string (S l)) ∧ Below w.heap.size w w') (hC : ∀ w', Below w.heap.size w w' → C w') :
    Calls Tryz.prog f args w fun e w' => ∃ v, e = .returned v ∧ v = .string (S l) ∧ C w' := hc.mono (by rintro e w' ⟨rfl, h⟩; exact ⟨_, rfl, rfl, hC w' h⟩)
/- half -/
noncomputable def blk41 (id : Nat) : Code := ((Tryz.f65.body.bind (blockIn id)).getD .skip)
theorem half_of {n j : Nat} (h1 : 2 ^ j < n) (h2 : n ≤ 2 * 2 ^ j) : Tree.half n = 2 ^ j := by
  unfold Tree.half
  have h0 : 0 < 2 ^ j := Nat.pow_pos (by omega)
  have hl : Nat.log2 (n - 1) = j := (Nat.log2_eq_iff (by omega)).2 ⟨by omega, by rw [Nat.pow_succ]; omega⟩
  rw [hl]
theorem refHalf_loop (N R : Act → World → Prop) (X : Nat → Act → World → Prop) (n : Nat) (w : World) (a : Act) (hn : 2 ≤ n) (hn2 : n ≤ 4294967296) (hS : Sees 11 [(3, .int .i64 1), (0, .int .i64 (n : Int))] a)
    (h : ∀ a', Sees 11 [(3, .int .i64 ((Tree.half n : Nat) : Int))] a' → N a' w) : (blk41 0).wp Tryz.prog (Qx N X R) a w := by
  refine qx_for (fun m a w' => ∃ j, 2 ^ j < n ∧ m = n - 2 ^ j ∧ w' = w ∧ Sees 11 [(3, .int .i64 ((2 ^ j : Nat) : Int)), (0, .int .i64 (n : Int))] a) (n - 1) ⟨0, by omega, by omega, rfl, hS⟩ ?_
  rintro m a w' ⟨j, hj, rfl, rfl, hS⟩
  have hp : 2 ^ (j + 1) = 2 * 2 ^ j := by rw [Nat.pow_succ, Nat.mul_comm]
  have h0 : 0 < 2 ^ j := Nat.pow_pos (by omega)
  refine reg_seq ?_
  refine seq_is hS (by decide) (runs_move rfl) (fun a1 hS => ?_)
  refine seq_is hS (by decide) (runs_mul rfl rfl ((IntWalk.i64_in _ (by omega)).trans (show _ = ((2 ^ (j + 1) : Nat) : Int) by omega))) (fun a1 hS => ?_)
  refine seq_is hS (by decide) (runs_move rfl) (fun a1 hS => ?_)
  by_cases hlt : 2 ^ (j + 1) < n
  · refine seq_is hS (by decide) (runs_lss (r := true) rfl rfl (by rw [decide_eq_true_eq]; omega)) (fun a1 hS => ?_)
    refine nil_ok ⟨_, hS.eval rfl, fun h => by simp at h, fun _ => ?_⟩
    refine qx_block (reg_seq ?_)
    refine seq_is hS (by decide) (runs_move rfl) (fun a1 hS => ?_)
    refine seq_is hS (by decide) (runs_mul rfl rfl ((IntWalk.i64_in _ (by omega)).trans (show _ = ((2 ^ (j + 1) : Nat) : Int) by omega))) (fun a1 hS => ?_)
    refine seq_is hS (by decide) (runs_assign rfl) (fun a1 hS => ?_)
    exact nil_ok ⟨n - 2 ^ (j + 1), by omega, j + 1, hlt, rfl, rfl, hS.only _ ⟨rfl, rfl, trivial⟩⟩
  · refine seq_is hS (by decide) (runs_lss (r := false) rfl rfl (by rw [decide_eq_false_iff_not]; omega)) (fun a1 hS => ?_)
    refine nil_ok ⟨_, hS.eval rfl, fun _ => h _ ?_, fun h => by simp at h⟩
    rw [half_of hj (by omega)]
    exact hS.only _ ⟨rfl, trivial⟩
theorem refHalf_any (n : Nat) (w : World) (hn : 2 ≤ n) (hn2 : n ≤ 4294967296) : Calls Tryz.prog 65 [Value.int .i64 (n : Int)].toArray w fun e w' => ∃ v, e = .returned v ∧ Is (.int .i64 ((Tree.half n : Nat) : Int)) w v w' := by
  refine calls_qx (args := [.int .i64 (n : Int)]) 11 Tryz.func65 rfl (by kernel_rfl) (by simp) (fun a hS => ?_)
  refine qx_seq (reg_seq ?_)
  refine seq_is hS (by decide) (runs_assign rfl) (fun a1 hS => ?_)
  refine nil_ok (qx_seq (reg_seq ?_))
  refine seq_is hS (by decide) (runs_assign rfl) (fun a1 hS => ?_)
  refine nil_ok (qx_seq (refHalf_loop _ _ _ n w a1 hn hn2 (hS.only _ ⟨rfl, rfl, trivial⟩) (fun a2 hS => ?_)))
  refine qx_seq (reg_seq ?_)
  refine seq_is hS (by decide) (runs_move rfl) (fun a1 hS => ?_)
  refine seq_is hS (by decide) (runs_assign rfl) (fun a1 hS => ?_)
  exact nil_ok (qx_ret (ret1 (t := 2) (by kernel_rfl) hS rfl ⟨_, rfl, rfl, rfl⟩))
/- leaf, node -/
theorem one0 : (⟨#[0]⟩ : ByteArray).size = 1 := rfl
theorem one1 : (⟨#[1]⟩ : ByteArray).size = 1 := rfl
theorem bl0 : bl (⟨#[0]⟩ : ByteArray) = [0] := by kernel_rfl
theorem bl1 : bl (⟨#[1]⟩ : ByteArray) = [1] := by kernel_rfl
theorem refLeaf_any (s : ByteArray) (w : World) (hs : s.size ≤ 900) : Calls Tryz.prog 64 #[.string s] w fun e w' => e = .returned (.string (S (Tree.leaf (bl s)))) ∧ Below w.heap.size w w' := by
  refine calls_qx (args := [.string s]) 6 Tryz.func64 rfl (by kernel_rfl) (by simp) (fun a hS => ?_)
  obtain ⟨z, hz⟩ : ∃ z : ByteArray, ⟨#[0]⟩ ++ s = z := ⟨_, rfl⟩
  have hzz : z.size ≤ 1000 := by rw [← hz, ByteArray.size_append, one0]; omega
  have hbl : bl z = 0 :: bl s := by rw [← hz, bl_append, bl0]; rfl
  have hof := refof_any z w hzz
  rw [hbl] at hof
  refine qx_seq (reg_seq ?_)
  refine seq_is hS (by decide) (runs_assign rfl) (fun a1 hS => ?_)
  refine nil_ok (qx_seq (reg_seq ?_))
  refine seq_is hS (by decide) (runs_move rfl) (fun a1 hS => ?_)
  refine seq_is hS (by decide) (runs_cat rfl rfl hz (by rw [one0]; omega)) (fun a1 hS => ?_)
  clear hz hbl
  refine seq_op hS (by decide) (runs_call (args := [.string z]) goes63 rfl (str_post (fun w' => Below w.heap.size w w') hof (fun _ h => h))) (fun v1 w1 a1 hp1 hS => ?_)
  obtain ⟨rfl, hB1⟩ := hp1
  refine seq_is hS (by decide) (runs_assign rfl) (fun a1 hS => ?_)
  exact nil_ok (qx_ret (ret1 (t := 2) (by kernel_rfl) hS rfl ⟨rfl, hB1⟩))
theorem refNode_any (x y : ByteArray) (w : World) (hs : x.size + y.size ≤ 900) : Calls Tryz.prog 66 #[.string x, .string y] w fun e w' => e = .returned (.string (S (Tree.node (bl x) (bl y)))) ∧ Below w.heap.size w w' := by
  refine calls_qx (args := [.string x, .string y]) 10 Tryz.func66 rfl (by kernel_rfl) (by simp) (fun a hS => ?_)
  obtain ⟨z, hz⟩ : ∃ z : ByteArray, ⟨#[1]⟩ ++ x = z := ⟨_, rfl⟩
  obtain ⟨u, hu⟩ : ∃ u : ByteArray, z ++ y = u := ⟨_, rfl⟩
  have hzz : z.size = 1 + x.size := by rw [← hz, ByteArray.size_append, one1]
  have huz : u.size ≤ 1000 := by rw [← hu, ByteArray.size_append, hzz]; omega
  have hbl : bl u = 1 :: (bl x ++ bl y) := by rw [← hu, ← hz, bl_append, bl_append, bl1]; rfl
  have hof := refof_any u w huz
  rw [hbl] at hof
  refine qx_seq (reg_seq ?_)
  refine seq_is hS (by decide) (runs_assign rfl) (fun a1 hS => ?_)
  refine nil_ok (qx_seq (reg_seq ?_))
  refine seq_is hS (by decide) (runs_move rfl) (fun a1 hS => ?_)
  refine seq_is hS (by decide) (runs_cat rfl rfl hz (by rw [one1]; omega)) (fun a1 hS => ?_)
  refine seq_is hS (by decide) (runs_move rfl) (fun a1 hS => ?_)
  refine seq_is hS (by decide) (runs_cat rfl rfl hu (by omega)) (fun a1 hS => ?_)
  clear hz hu hbl
  refine seq_op hS (by decide) (runs_call (args := [.string u]) goes63 rfl (str_post (fun w' => Below w.heap.size w w') hof (fun _ h => h))) (fun v1 w1 a1 hp1 hS => ?_)
  obtain ⟨rfl, hB1⟩ := hp1
  refine seq_is hS (by decide) (runs_assign rfl) (fun a1 hS => ?_)
  exact nil_ok (qx_ret (ret1 (t := 4) (by kernel_rfl) hS rfl ⟨rfl, hB1⟩))
/- sum -/
noncomputable def blk34 (id : Nat) : Code := ((Tryz.f62.body.bind (blockIn id)).getD .skip)
theorem S_at {l : List Nat} (hb : Sha.Bytes l) (j : Nat) (h : j < l.length) : ∃ b : UInt8, (S l)[j]? = some b ∧ b.toNat = l.getD j 0 := by
  have h1 : j < (S l).size := by rw [S_size]; exact h
  refine ⟨(S l)[j], by rw [getElem?_pos (S l) j h1], ?_⟩
  have h2 := bl_S hb
  have h3 : (bl (S l)).getD j 0 = ((S l)[j]).toNat := by
    unfold bl
    simp [ByteArray.getElem_eq_getElem_data]
    have h4 : (S l).data[j]? = some (S l).data[j] := Array.getElem?_eq_getElem h1
    rw [h4]
    rfl
  rw [← h3, h2]
theorem refSum_loop (N R : Act → World → Prop) (X : Nat → Act → World → Prop) (l : List Nat) (w : World) (g : Nat) (v2 : Value) (w0 : World) (a : Act) (hl : l.length = 32) (hb : Sha.Bytes l) (hS : Sees 22 [(4, .int .i64 0), (0, .string (S l)), (3, .pointer (some ⟨g, 0, none⟩)), (2, v2)] a)
    (hg : g = w.heap.size) (hH : Has w0 g 25 (U8 (List.replicate 32 0))) (hB : Below w.heap.size w w0) (h : ∀ a' w', Below w.heap.size w w' → Has w' g 25 (U8 l) → Sees 22 [(3, .pointer (some ⟨g, 0, none⟩)), (2, v2)] a' → N a' w') : (blk34 0).wp Tryz.prog (Qx N X R) a w0 := by
  refine qx_for (fun m a w' => ∃ i, i ≤ 32 ∧ m = 32 - i ∧ Below w.heap.size w w' ∧ Has w' g 25 (U8 (l.take i ++ List.replicate (32 - i) 0)) ∧ Sees 22 [(4, .int .i64 (i : Int)), (0, .string (S l)), (3, .pointer (some ⟨g, 0, none⟩)), (2, v2)] a) 32 ⟨0, by omega, rfl, hB, by simpa using hH, hS⟩ ?_
  rintro m a w' ⟨i, hi, rfl, hB, hH, hS⟩
  refine reg_seq ?_
  refine seq_is hS (by decide) (runs_move rfl) (fun a1 hS => ?_)
  by_cases hlt : i < 32
  · refine seq_is hS (by decide) (runs_lss (r := true) rfl rfl (by rw [decide_eq_true_eq]; omega)) (fun a1 hS => ?_)
    refine seq_is hS (by decide) (runs_move rfl) (fun a1 hS => ?_)
    refine seq_yis hS (by decide) rfl (by decide) rfl (runs_move rfl) (fun a1 hS => ?_)
    refine seq_yis hS (by decide) rfl (by decide) rfl (runs_move rfl) (fun a1 hS => ?_)
    refine seq_yis hS (by decide) rfl (by decide) rfl (runs_lens rfl (by kernel_rfl)) (fun a1 hS => ?_)
    refine seq_yis hS (by decide) rfl (by decide) rfl (runs_lss (r := true) rfl rfl (by rw [decide_eq_true_eq, S_size]; omega)) (fun a1 hS => ?_)
    refine seq_is hS (by decide) (runs_pick rfl rfl) (fun a1 hS => ?_)
    refine nil_ok ⟨_, hS.eval rfl, fun h => by simp at h, fun _ => ?_⟩
    obtain ⟨b, hb1, hb2⟩ := S_at hb i (by omega)
    refine qx_seq (qx_block (reg_seq ?_))
    refine seq_is hS (by decide) (runs_move rfl) (fun a1 hS => ?_)
    refine seq_is hS (by decide) (runs_move rfl) (fun a1 hS => ?_)
    refine seq_is hS (by decide) (runs_move rfl) (fun a1 hS => ?_)
    refine seq_is hS (by decide) (runs_index rfl rfl rfl (by kernel_rfl) hb1) (fun a1 hS => ?_)
    refine seq_is hS (by decide) (runs_indexArr rfl rfl undHash infByteS rfl hlt) (fun a1 hS => ?_)
    have hlen : i < (U8 (l.take i ++ List.replicate (32 - i) 0)).length := by simp; omega
    refine seq_none hS (runs_store rfl rfl rfl infByteS ((hH.cell i).trans (List.getElem?_eq_getElem hlen)) (hH.open_ i)) (fun v6 w6 a6 hp6 hS => ?_)
    obtain ⟨rfl, rfl⟩ := hp6
    have hH6 := hH.set_ i (.int .u8 (b.toNat : Int))
    have hset : (U8 (l.take i ++ List.replicate (32 - i) 0)).set i (.int .u8 (b.toNat : Int)) = U8 (l.take (i + 1) ++ List.replicate (32 - (i + 1)) 0) := by
      rw [hb2]
      have hr : List.replicate (32 - i) 0 = 0 :: List.replicate (32 - (i + 1)) 0 := by rw [← List.replicate_succ, show 32 - (i + 1) + 1 = 32 - i by omega]
      have ht : l.take (i + 1) = l.take i ++ [l.getD i 0] := by rw [List.take_add_one, List.getElem?_eq_getElem (by omega), List.getD_eq_getElem?_getD, List.getElem?_eq_getElem (by omega)]; rfl
      have hti : (l.take i).length = i := by simp; omega
      rw [hr, ht]
      unfold U8
      rw [List.map_append, List.map_append, List.map_append, List.set_append_right _ _ (by simp; omega)]
      rw [List.length_map, hti, Nat.sub_self, List.append_assoc]
      rfl
    rw [hset] at hH6
    refine nil_ok (reg_seq ?_)
    refine seq_is hS (by decide) (runs_move rfl) (fun a1 hS => ?_)
    refine seq_is hS (by decide) (runs_add rfl rfl ((IntWalk.i64_in _ (by omega)).trans (show (i : Int) + 1 = ((i + 1 : Nat) : Int) by omega))) (fun a1 hS => ?_)
    refine seq_is hS (by decide) (runs_assign rfl) (fun a1 hS => ?_)
    exact nil_ok ⟨32 - (i + 1), by omega, i + 1, by omega, rfl, hB.setCell (by simp [hg]) _, hH6, hS.only _ ⟨rfl, rfl, rfl, rfl, trivial⟩⟩
  · refine seq_is hS (by decide) (runs_lss (r := false) rfl rfl (by rw [decide_eq_false_iff_not]; omega)) (fun a1 hS => ?_)
    refine seq_is hS (by decide) (runs_move rfl) (fun a1 hS => ?_)
    refine seq_no hS (by decide) rfl (by decide) rfl rfl (fun a1 hS => ?_)
    refine seq_no hS (by decide) rfl (by decide) rfl rfl (fun a1 hS => ?_)
    refine seq_no hS (by decide) rfl (by decide) rfl rfl (fun a1 hS => ?_)
    refine seq_no hS (by decide) rfl (by decide) rfl rfl (fun a1 hS => ?_)
    refine seq_is hS (by decide) (runs_pick rfl rfl) (fun a1 hS => ?_)
    obtain rfl : i = 32 := by omega
    rw [List.take_of_length_le (by omega)] at hH
    exact nil_ok ⟨_, hS.eval rfl, fun _ => h _ w' hB (by simpa using hH) (hS.only _ ⟨rfl, rfl, trivial⟩), fun h => by simp at h⟩
theorem refSum_any (l : List Nat) (w : World) (hl : l.length = 32) (hb : Sha.Bytes l) : Calls Tryz.prog 62 #[.string (S l)] w fun e w' => e = .returned (.agg (U8 l).toArray) ∧ Below w.heap.size w w' := by
  refine calls_qx (args := [.string (S l)]) 22 Tryz.func62 rfl (by kernel_rfl) (by simp) (fun a hS => ?_)
  refine qx_seq (reg_seq ?_)
  refine seq_op hS (by decide) alloc_hash (fun v1 w1 a1 hp1 hS => ?_)
  obtain ⟨rfl, rfl⟩ := hp1
  have hH1 := Has.new w 25 (U8 (List.replicate 32 0))
  have hB1 : Below w.heap.size w (w.alloc (.cells (U8 (List.replicate 32 0)).toArray 25)) := (Below.refl _ _).alloc (Nat.le_refl _) _
  have hz1 : (w.alloc (.cells (U8 (List.replicate 32 0)).toArray 25)).heap.size = w.heap.size + 1 := by simp
  generalize w.alloc (.cells (U8 (List.replicate 32 0)).toArray 25) = w1 at *
  refine nil_ok (qx_seq (reg_seq ?_))
  refine seq_is hS (by decide) runs_buildZero (fun a1 hS => ?_)
  refine seq_op hS (by decide) alloc_hash (fun v1 w2 a1 hp1 hS => ?_)
  obtain ⟨rfl, rfl⟩ := hp1
  have hH2 := Has.new w1 25 (U8 (List.replicate 32 0))
  have hB2 : Below w1.heap.size w1 (w1.alloc (.cells (U8 (List.replicate 32 0)).toArray 25)) := (Below.refl _ _).alloc (Nat.le_refl _) _
  generalize w1.alloc (.cells (U8 (List.replicate 32 0)).toArray 25) = w2 at *
  refine seq_none hS (runs_storeRow rfl rfl hH2 (by simp) (agg_all _) (by rw [infHash]; simp)) (fun v6 w6 a6 hp6 hS => ?_)
  obtain ⟨rfl, rfl⟩ := hp6
  have hH3 : Has (w2.setRow w1.heap.size (U8 (List.replicate 32 0)).toArray) w1.heap.size 25 (U8 (List.replicate 32 0)) := has_setRow hH2
  have hB3 : Below w1.heap.size w1 (w2.setRow w1.heap.size (U8 (List.replicate 32 0)).toArray) := below_row hB2 (Nat.le_refl _) _
  generalize w2.setRow w1.heap.size (U8 (List.replicate 32 0)).toArray = w3 at *
  refine nil_ok (qx_seq (qx_seq (reg_seq ?_)))
  refine seq_is hS (by decide) (runs_assign rfl) (fun a1 hS => ?_)
  refine nil_ok (refSum_loop _ _ _ l w1 w1.heap.size _ w3 a1 hl hb (hS.only _ ⟨rfl, rfl, rfl, rfl, trivial⟩) rfl hH3 hB3 (fun a4 w4 hB4 hH4 hS => ?_))
  refine qx_seq (reg_seq ?_)
  refine seq_is hS (by decide) (runs_loadRow rfl hH4 undHash rfl (by rw [infHash]; simp [hl])) (fun a1 hS => ?_)
  have hH1' := hH1.below hB4 (by omega)
  refine seq_none hS (runs_storeRow rfl rfl hH1' (by simp [hl]) (agg_all _) (by rw [infHash]; simp [hl])) (fun v6 w6 a6 hp6 hS => ?_)
  obtain ⟨rfl, rfl⟩ := hp6
  exact nil_ok (qx_ret (retRow (t := 0) (p := 2) (by kernel_rfl) hS rfl (has_setRow (cs := U8 l) hH1') rfl undHash rfl (by rw [infHash]; simp [hl]) ⟨rfl, below_row (hB1.trans (hB4.mono hB1.size)) (Nat.le_refl _) _⟩))
end Go.Proofs.YtooeahpkhocaeaaGreatDoor
