/- Layer 3: the types and callees; a number's bits; Half; there. Conditions: numbers of at most 2 to the 31. -/
import Derived.Test.YtooeahpkhocaeaaDoorEngP
import Derived.Test.YtooeahpkhocaeaaDoorJ03
import Derived.Test.YtooeahpkhocaeaaDoorJ07
import Derived.Test.YtooeahpkhocaeaaDoorJ08
namespace Go.Proofs.YtooeahpkhocaeaaDoor
open Go.RowKit
set_option maxRecDepth 100000

theorem mixed : Tryd.prog.follows .mixedOrders = true := by kernel_rfl
theorem undHash : Tryd.prog.underlying 23 = some (.array 32 5) := by kernel_rfl
theorem infHash : (Tryd.prog.info? 23).map (·.size) = some 32 := by kernel_rfl
theorem infHashZ : (Tryd.prog.info? 23).bind (·.zero) = some (.agg (U8 (List.replicate 32 0)).toArray) := by kernel_rfl
theorem undParts : Tryd.prog.underlying 103 = some (.slice 45) := by kernel_rfl
theorem infBytes : (Tryd.prog.info? 45).map (fun i => (i.zero, i.size, i.bytes)) = some (some (.slice none 0 0), 1, 24) := by kernel_rfl
theorem undBytes : Tryd.prog.underlying 45 = some (.slice 5) := by kernel_rfl
theorem undByte : Tryd.prog.underlying 5 = some (.int .u8) := by kernel_rfl
theorem infByte : (Tryd.prog.info? 5).map (fun i => (i.zero, i.size, i.bytes)) = some (some (.int .u8 0), 1, 1) := by kernel_rfl
theorem infByte1 : (Tryd.prog.info? 5).map (·.size) = some 1 := by kernel_rfl
theorem undInt : Tryd.prog.underlying 3 = some (.int .i64) := by kernel_rfl
theorem undU64 : Tryd.prog.underlying 48 = some (.int .u64) := by kernel_rfl
theorem undUint : Tryd.prog.underlying 74 = some (.int .u64) := by kernel_rfl
theorem undStrs : Tryd.prog.underlying 82 = some (.slice 9) := by kernel_rfl
theorem infStr : (Tryd.prog.info? 9).map (fun i => (i.zero, i.size, i.bytes)) = some (some (.string ⟨#[]⟩), 1, 16) := by kernel_rfl
theorem infStr1 : (Tryd.prog.info? 9).map (·.size) = some 1 := by kernel_rfl
theorem goes8 : Goes Tryd.prog 8 := goes_of Tryd.func8 (by kernel_rfl) rfl
theorem goes45 : Goes Tryd.prog 45 := goes_of Tryd.func45 (by kernel_rfl) rfl
theorem goes40 : Goes Tryd.prog 40 := goes_of Tryd.func40 (by kernel_rfl) rfl
theorem goes50 : Goes Tryd.prog 50 := goes_of Tryd.func50 (by kernel_rfl) rfl
theorem goes52 : Goes Tryd.prog 52 := goes_of Tryd.func52 (by kernel_rfl) rfl
theorem goes51 : Goes Tryd.prog 51 := goes_of Tryd.func51 (by kernel_rfl) rfl
theorem goes59 : Goes Tryd.prog 59 := goes_of Tryd.func59 (by kernel_rfl) rfl
theorem goes49 : Goes Tryd.prog 49 := goes_of Tryd.func49 (by kernel_rfl) rfl
theorem goes44 : Goes Tryd.prog 44 := goes_of Tryd.func44 (by kernel_rfl) rfl
theorem goes60 : Goes Tryd.prog 60 := goes_of Tryd.func60 (by kernel_rfl) rfl
theorem goes19 : Goes Tryd.prog 19 := goes_of Tryd.func19 (by kernel_rfl) rfl
theorem goes20 : Goes Tryd.prog 20 := goes_of Tryd.func20 (by kernel_rfl) rfl
theorem goes21 : Goes Tryd.prog 21 := goes_of Tryd.func21 (by kernel_rfl) rfl
theorem goes22 : Goes Tryd.prog 22 := goes_of Tryd.func22 (by kernel_rfl) rfl
theorem goes72 : Goes Tryd.prog 72 := goes_of Tryd.func72 (by kernel_rfl) rfl
section
variable {P : Program} {L : List (Nat × Value)} {w : World} {ty : TypeId}
theorem runs_shl {t t' : TypeId} {x y : Operand} {k : IntKind} {a r : Int} {b : Nat} {i : Int} (hx : vals L x = some (.int .i64 a)) (hy : vals L y = some (.int k i)) (hi : i = (b : Int)) (hb : b ≤ 64) (hr : IntKind.i64.wrap (a * 2 ^ b) = r) : Runs P (.binOp .shl t x y t') ty L w (Is (.int .i64 r) w) := by
  subst hi
  exact runs_bin hx hy rfl (by rw [binOp_shl, shift_shl_i64 k a b (by omega) (by omega), ← hr]; rfl)
theorem runs_shr {t t' : TypeId} {x y : Operand} {k : IntKind} {a r : Int} {b : Nat} {i : Int} (hx : vals L x = some (.int .u64 a)) (hy : vals L y = some (.int k i)) (hi : i = (b : Int)) (hb : b ≤ 64) (hr : a / 2 ^ b = r) : Runs P (.binOp .shr t x y t') ty L w (Is (.int .u64 r) w) := by
  subst hi
  exact runs_bin hx hy rfl (by rw [binOp_shr, shift_shr_u64 k a b (by omega) (by omega), ← hr]; rfl)
theorem runs_index {t : TypeId} {x y : Operand} {s : ByteArray} {k : IntKind} {i : Int} {j : Nat} {b : UInt8} (hx : vals L x = some (.string s)) (hy : vals L y = some (.int k i)) (hj : i = (j : Int)) (hu : P.underlying t = some .string) (hb : s[j]? = some b) : Runs P (.index t x y) ty L w (Is (.int .u8 (b.toNat : Int)) w) := fun o a K Q ho _ hL hK => by
  have ex := hL x (by simp [Op.operands]) _ hx
  have ey := hL y (by simp [Op.operands]) _ hy
  subst hj
  unfold Oper.wp
  have : (execOp a.eval o).run P w = .ok (.value (.int .u8 (b.toNat : Int))) w := by
    simp [execOp, ho, ex, ey, Instr.index, asIntOf, run_underlying hu, hb]
  rw [this]
  exact hK _ _ ⟨rfl, rfl⟩
end
noncomputable def regionOf59 (id : Nat) : Code := ((Tryd.f72.body.bind (regionIn id)).getD .skip)
def lenTab : ByteArray := ⟨((List.range 256).map fun i => UInt8.ofNat (Tree.blen i)).toArray⟩
theorem lenTab_get (j : Nat) (h : j < 256) : lenTab[j]? = some (UInt8.ofNat (Tree.blen j)) := by
  have : ∀ j : Fin 256, lenTab[j.val]? = some (UInt8.ofNat (Tree.blen j.val)) := by decide +kernel
  exact this ⟨j, h⟩
set_option maxRecDepth 100000 in
set_option maxHeartbeats 1000000 in
theorem len64_any (x : Nat) (w : World) (hx : x < 4294967296) : Calls Tryd.prog 72 #[.int .u64 (x : Int)] w fun e w' => e = .returned (.int .i64 ((Tree.blen x : Nat) : Int)) ∧ w' = w := by
  refine calls_qx (args := [.int .u64 (x : Int)]) 25 Tryd.func72 rfl (by kernel_rfl) (by simp) (fun a hS => ?_)
  refine qx_seq (reg_seq ?_)
  refine seq_is hS (by decide) (runs_assign rfl) (fun a1 hS => ?_)
  refine nil_ok (qx_seq (qx_seq (reg_seq ?_)))
  refine seq_is hS (by decide) (runs_move rfl) (fun a1 hS => ?_)
  refine seq_is hS (by decide) (runs_geq (r := false) rfl rfl (by simp; omega)) (fun a1 hS => ?_)
  refine nil_ok (wp_cond_false (hS.eval rfl) (wp_skip ?_))
  have fin : ∀ (y k : Nat) (a : Act), y < 256 → k ≤ 24 → Tree.blen x = Tree.blen y + k → Sees 25 [(0, .int .u64 (y : Int)), (2, .int .i64 (k : Int))] a → (regionOf59 10).wp Tryd.prog (Qx (fun a' w' => Code.ret.wp Tryd.prog (Qx (Rets Tryd.prog Tryd.f72 (fun e w' => e = .returned (.int .i64 ((Tree.blen x : Nat) : Int)) ∧ w' = w)) (fun _ _ _ => False) (Rets Tryd.prog Tryd.f72 (fun e w' => e = .returned (.int .i64 ((Tree.blen x : Nat) : Int)) ∧ w' = w))) a' w') (fun _ _ _ => False) (Rets Tryd.prog Tryd.f72 (fun e w' => e = .returned (.int .i64 ((Tree.blen x : Nat) : Int)) ∧ w' = w))) a w := fun y k a hy hk he hS => by
    have hbl := Tree.blen_le y 8 (by omega)
    refine reg_seq ?_
    refine seq_is hS (by decide) (runs_move rfl) (fun a1 hS => ?_)
    refine seq_is hS (by decide) (runs_move rfl) (fun a1 hS => ?_)
    refine seq_is hS (by decide) (runs_convInt rfl rfl undByte (IntWalk.u8_in _ (by omega))) (fun a1 hS => ?_)
    refine seq_is hS (by decide) (runs_index (s := lenTab) (j := y) (by kernel_rfl) rfl rfl und9 (lenTab_get y hy)) (fun a1 hS => ?_)
    refine seq_is hS (by decide) (runs_convInt rfl rfl undInt ((IntWalk.i64_in _ (by have := (UInt8.ofNat (Tree.blen y)).toNat_lt; omega)).trans (show _ = ((Tree.blen y : Nat) : Int) by simp; omega))) (fun a1 hS => ?_)
    refine seq_is hS (by decide) (runs_add rfl rfl ((IntWalk.i64_in _ (by omega)).trans (show _ = ((Tree.blen x : Nat) : Int) by omega))) (fun a1 hS => ?_)
    refine seq_is hS (by decide) (runs_assign rfl) (fun a1 hS => ?_)
    exact nil_ok (qx_ret (ret1 (t := 2) (by kernel_rfl) hS rfl ⟨rfl, rfl⟩))
  by_cases h16 : x < 65536
  · refine qx_seq (qx_seq (reg_seq ?_))
    refine seq_is hS (by decide) (runs_move rfl) (fun a1 hS => ?_)
    refine seq_is hS (by decide) (runs_geq (r := false) rfl rfl (by simp; omega)) (fun a1 hS => ?_)
    refine nil_ok (wp_cond_false (hS.eval rfl) (wp_skip ?_))
    by_cases h8 : x < 256
    · refine qx_seq (qx_seq (reg_seq ?_))
      refine seq_is hS (by decide) (runs_move rfl) (fun a1 hS => ?_)
      refine seq_is hS (by decide) (runs_geq (r := false) rfl rfl (by simp; omega)) (fun a1 hS => ?_)
      refine nil_ok (wp_cond_false (hS.eval rfl) (wp_skip ?_))
      exact qx_seq (fin x 0 _ h8 (by omega) (by omega) (hS.only _ ⟨rfl, rfl, trivial⟩))
    · have hsh := Tree.blen_shift x 8 (by omega)
      refine qx_seq (qx_seq (reg_seq ?_))
      refine seq_is hS (by decide) (runs_move rfl) (fun a1 hS => ?_)
      refine seq_is hS (by decide) (runs_geq (r := true) rfl rfl (by simp; omega)) (fun a1 hS => ?_)
      refine nil_ok (wp_cond_true (hS.eval rfl) (qx_seq (reg_seq ?_)))
      refine seq_is hS (by decide) (runs_move rfl) (fun a1 hS => ?_)
      refine seq_is hS (by decide) (runs_shr (b := 8) rfl rfl rfl (by omega) (show _ = ((x / 2 ^ 8 : Nat) : Int) by simp)) (fun a1 hS => ?_)
      refine seq_is hS (by decide) (runs_assign rfl) (fun a1 hS => ?_)
      refine nil_ok (reg_seq ?_)
      refine seq_is hS (by decide) (runs_move rfl) (fun a1 hS => ?_)
      refine seq_is hS (by decide) (runs_add rfl rfl (IntWalk.i64_in _ (by omega))) (fun a1 hS => ?_)
      refine seq_is hS (by decide) (runs_assign rfl) (fun a1 hS => ?_)
      exact nil_ok (qx_seq (fin (x / 2 ^ 8) 8 _ (by omega) (by omega) hsh (hS.only _ ⟨rfl, rfl, trivial⟩)))
  · have hsh := Tree.blen_shift x 16 (by omega)
    refine qx_seq (qx_seq (reg_seq ?_))
    refine seq_is hS (by decide) (runs_move rfl) (fun a1 hS => ?_)
    refine seq_is hS (by decide) (runs_geq (r := true) rfl rfl (by simp; omega)) (fun a1 hS => ?_)
    refine nil_ok (wp_cond_true (hS.eval rfl) (qx_seq (reg_seq ?_)))
    refine seq_is hS (by decide) (runs_move rfl) (fun a1 hS => ?_)
    refine seq_is hS (by decide) (runs_shr (b := 16) rfl rfl rfl (by omega) (show _ = ((x / 2 ^ 16 : Nat) : Int) by simp)) (fun a1 hS => ?_)
    refine seq_is hS (by decide) (runs_assign rfl) (fun a1 hS => ?_)
    refine nil_ok (reg_seq ?_)
    refine seq_is hS (by decide) (runs_move rfl) (fun a1 hS => ?_)
    refine seq_is hS (by decide) (runs_add rfl rfl (IntWalk.i64_in _ (by omega))) (fun a1 hS => ?_)
    refine seq_is hS (by decide) (runs_assign rfl) (fun a1 hS => ?_)
    refine nil_ok ?_
    have hy : x / 2 ^ 16 < 65536 := by omega
    generalize x / 2 ^ 16 = y at *
    by_cases h8 : y < 256
    · refine qx_seq (qx_seq (reg_seq ?_))
      refine seq_is hS (by decide) (runs_move rfl) (fun a1 hS => ?_)
      refine seq_is hS (by decide) (runs_geq (r := false) rfl rfl (by simp; omega)) (fun a1 hS => ?_)
      refine nil_ok (wp_cond_false (hS.eval rfl) (wp_skip ?_))
      exact qx_seq (fin y 16 _ h8 (by omega) hsh (hS.only _ ⟨rfl, rfl, trivial⟩))
    · have hs8 := Tree.blen_shift y 8 (by omega)
      refine qx_seq (qx_seq (reg_seq ?_))
      refine seq_is hS (by decide) (runs_move rfl) (fun a1 hS => ?_)
      refine seq_is hS (by decide) (runs_geq (r := true) rfl rfl (by simp; omega)) (fun a1 hS => ?_)
      refine nil_ok (wp_cond_true (hS.eval rfl) (qx_seq (reg_seq ?_)))
      refine seq_is hS (by decide) (runs_move rfl) (fun a1 hS => ?_)
      refine seq_is hS (by decide) (runs_shr (b := 8) rfl rfl rfl (by omega) (show _ = ((y / 2 ^ 8 : Nat) : Int) by simp)) (fun a1 hS => ?_)
      refine seq_is hS (by decide) (runs_assign rfl) (fun a1 hS => ?_)
      refine nil_ok (reg_seq ?_)
      refine seq_is hS (by decide) (runs_move rfl) (fun a1 hS => ?_)
      refine seq_is hS (by decide) (runs_add rfl rfl (IntWalk.i64_in _ (by omega))) (fun a1 hS => ?_)
      refine seq_is hS (by decide) (runs_assign rfl) (fun a1 hS => ?_)
      exact nil_ok (qx_seq (fin (y / 2 ^ 8) 24 _ (by omega) (by omega) (by omega) (hS.only _ ⟨rfl, rfl, trivial⟩)))
theorem len_any (x : Nat) (w : World) (hx : x < 4294967296) : Calls Tryd.prog 60 #[.int .u64 (x : Int)] w fun e w' => e = .returned (.int .i64 ((Tree.blen x : Nat) : Int)) ∧ w' = w := by
  refine calls_qx (args := [.int .u64 (x : Int)]) 8 Tryd.func60 rfl (by kernel_rfl) (by simp) (fun a hS => ?_)
  refine qx_seq (reg_seq ?_)
  refine seq_is hS (by decide) (runs_assign rfl) (fun a1 hS => ?_)
  refine nil_ok (qx_seq (wp_cond_false rfl (wp_skip ?_)))
  refine qx_seq (reg_seq ?_)
  refine seq_is hS (by decide) (runs_move rfl) (fun a1 hS => ?_)
  refine seq_is hS (by decide) (runs_call (args := [.int .u64 (x : Int)]) (Post := Is (.int .i64 ((Tree.blen x : Nat) : Int)) w) goes72 rfl ((len64_any x w hx).mono (by rintro e w' ⟨rfl, rfl⟩; exact ⟨_, rfl, rfl, rfl⟩))) (fun a1 hS => ?_)
  refine seq_is hS (by decide) (runs_assign rfl) (fun a1 hS => ?_)
  exact nil_ok (qx_ret (ret1 (t := 2) (by kernel_rfl) hS rfl ⟨rfl, rfl⟩))
/-- How many stand on the left; 0 below 2. -/
def halfZ (n : Int) : Nat := if n < 2 then 0 else Tree.half n.toNat
theorem half_any (n : Int) (w : World) (hn : n ≤ 4294967296) : Calls Tryd.prog 51 #[.int .i64 n] w fun e w' => e = .returned (.int .i64 ((halfZ n : Nat) : Int)) ∧ w' = w := by
  refine calls_qx (args := [.int .i64 n]) 11 Tryd.func51 rfl (by kernel_rfl) (by simp) (fun a hS => ?_)
  refine qx_seq (reg_seq ?_)
  refine seq_is hS (by decide) (runs_assign rfl) (fun a1 hS => ?_)
  refine nil_ok (qx_seq (qx_seq (reg_seq ?_)))
  refine seq_is hS (by decide) (runs_move rfl) (fun a1 hS => ?_)
  by_cases h2 : n < 2
  · refine seq_is hS (by decide) (runs_lss (r := true) rfl rfl (by simp; omega)) (fun a1 hS => ?_)
    refine nil_ok (wp_cond_true (hS.eval rfl) (qx_seq (reg_seq ?_)))
    refine seq_is hS (by decide) (runs_assign rfl) (fun a1 hS => ?_)
    exact nil_ok (qx_ret (ret1 (t := 2) (by kernel_rfl) hS rfl ⟨by unfold halfZ; rw [if_pos h2]; rfl, rfl⟩))
  · refine seq_is hS (by decide) (runs_lss (r := false) rfl rfl (by simp; omega)) (fun a1 hS => ?_)
    refine nil_ok (wp_cond_false (hS.eval rfl) (wp_skip ?_))
    obtain ⟨m, rfl⟩ := Int.eq_ofNat_of_zero_le (show 0 ≤ n by omega)
    have hm : 2 ≤ m := by omega
    have hb := Tree.half_blen hm
    have hbp := Tree.blen_pos (x := m - 1) (by omega)
    have hbl := Tree.blen_le (m - 1) 32 (by omega)
    refine qx_seq (reg_seq ?_)
    refine seq_is hS (by decide) (runs_move rfl) (fun a1 hS => ?_)
    refine seq_is hS (by decide) (runs_sub rfl rfl ((IntWalk.i64_in _ (by omega)).trans (show _ = ((m - 1 : Nat) : Int) by omega))) (fun a1 hS => ?_)
    refine seq_is hS (by decide) (runs_convInt rfl rfl undUint (IntWalk.u64_in _ (by omega))) (fun a1 hS => ?_)
    refine seq_is hS (by decide) (runs_call (args := [.int .u64 ((m - 1 : Nat) : Int)]) (Post := Is (.int .i64 ((Tree.blen (m - 1) : Nat) : Int)) w) goes60 rfl ((len_any (m - 1) w (by omega)).mono (by rintro e w' ⟨rfl, rfl⟩; exact ⟨_, rfl, rfl, rfl⟩))) (fun a1 hS => ?_)
    refine seq_is hS (by decide) (runs_sub rfl rfl ((IntWalk.i64_in _ (by omega)).trans (show _ = ((Tree.blen (m - 1) - 1 : Nat) : Int) by omega))) (fun a1 hS => ?_)
    have hpw : 2 ^ (Tree.blen (m - 1) - 1) ≤ 2 ^ 31 := Nat.pow_le_pow_right (by omega) (by omega)
    have hsh : IntKind.i64.wrap (1 * 2 ^ (Tree.blen (m - 1) - 1)) = ((2 ^ (Tree.blen (m - 1) - 1) : Nat) : Int) := by
      rw [Int.one_mul, show (2 : Int) ^ (Tree.blen (m - 1) - 1) = ((2 ^ (Tree.blen (m - 1) - 1) : Nat) : Int) by simp]
      exact IntWalk.i64_in _ (by omega)
    refine seq_is hS (by decide) (runs_shl rfl rfl rfl (by omega) hsh) (fun a1 hS => ?_)
    refine seq_is hS (by decide) (runs_assign rfl) (fun a1 hS => ?_)
    refine nil_ok (qx_ret (ret1 (t := 2) (by kernel_rfl) hS rfl ⟨?_, rfl⟩))
    unfold halfZ
    rw [if_neg (by omega), Int.toNat_natCast, hb]
end Go.Proofs.YtooeahpkhocaeaaDoor
