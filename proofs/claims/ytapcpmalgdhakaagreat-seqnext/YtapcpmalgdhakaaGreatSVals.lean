/- Layer 7 and the document: values at first, two values as one. Conditions: none of our own. -/
import Derived.Test.YtapcpmalgdhakaaGreatSSmall
import Derived.Laws.Small
import Derived.Laws.BitsLemmas
namespace Go.Proofs.YtapcpmalgdhakaaGreat
open Go.RowKit
set_option maxRecDepth 100000

section
variable {P : Program} {L : List (Nat × Value)} {w : World} {ty : TypeId}
theorem runs_max2 {x y : Operand} {ts : Array TypeId} {k : IntKind} {a b r : Int} (hx : vals L x = some (.int k a)) (hy : vals L y = some (.int k b)) (hr : (if b > a then b else a) = r) : Runs P (.call { callee := .builtin .max, args := #[x, y], argTypes := ts }) ty L w (Is (.int k r) w) := fun o act K Q ho _ hL hK => by
  have ex := hL x (by simp [Op.operands, Call.operands]) _ hx
  have ey := hL y (by simp [Op.operands, Call.operands]) _ hy
  unfold Oper.wp
  have : (execOp act.eval o).run P w = .ok (.value (.int k r)) w := by
    simp [execOp, ho, resolve, invoke, builtin, ex, ey, run_max_int2, ← hr]
  rw [this]
  exact hK _ _ ⟨rfl, rfl⟩
theorem runs_min2 {x y : Operand} {ts : Array TypeId} {k : IntKind} {a b r : Int} (hx : vals L x = some (.int k a)) (hy : vals L y = some (.int k b)) (hr : (if b < a then b else a) = r) : Runs P (.call { callee := .builtin .min, args := #[x, y], argTypes := ts }) ty L w (Is (.int k r) w) := fun o act K Q ho _ hL hK => by
  have ex := hL x (by simp [Op.operands, Call.operands]) _ hx
  have ey := hL y (by simp [Op.operands, Call.operands]) _ hy
  unfold Oper.wp
  have : (execOp act.eval o).run P w = .ok (.value (.int k r)) w := by
    simp [execOp, ho, resolve, invoke, builtin, ex, ey, run_min_int2, ← hr]
  rw [this]
  exact hK _ _ ⟨rfl, rfl⟩
end
theorem and63 (n : Int) : bits .and .i64 n 63 = n % 64 := by
  have h63 : (BitVec.ofInt 64 63).toNat = 2 ^ 6 - 1 := by decide
  have key : (BitVec.ofInt 64 n &&& BitVec.ofInt 64 63).toNat = (n % ((2 ^ 64 : Nat) : Int)).toNat % 2 ^ 6 := by
    rw [BitVec.toNat_and, BitVec.toNat_ofInt, h63, Nat.and_two_pow_sub_one_eq_mod]
  show IntKind.i64.wrap ((BitVec.ofInt 64 n &&& BitVec.ofInt 64 63).toNat : Nat) = n % 64
  rw [key, IntKind.wrap_i64]
  omega
set_option maxHeartbeats 1000000 in
theorem folded_any (tg : ByteArray) (x y : Int) (hx : great x = false) (hy : great y = false) (w : World) : Ans 67 [.string tg, .int .i64 x, .int .i64 y] w (Is (.int .i64 (foldV (kindL tg.data.toList) x y)) w) := by
  obtain ⟨hx1, hx2⟩ := great_no hx
  obtain ⟨hy1, hy2⟩ := great_no hy
  rcases kind_cases tg.data.toList with hk | hk | hk | hk | hk | hk | hk | hk
  · skip
    refine calls_qx (args := [.string tg, .int .i64 x, .int .i64 y]) 23 Tryz.func67 rfl (by kernel_rfl) (by simp) (fun a hS => ?_)
    refine qx_seq (reg_seq ?_)
    refine sI hS (runs_assign rfl) fun _ hS => ?_
    refine nil_ok (qx_seq (qx_seq (reg_seq ?_)))
    refine sI hS (runs_move rfl) fun _ hS => ?_
    refine nil_ok (qx_block (qx_seq (reg_seq ?_)))
    refine sI hS (eqS1 rfl rfl hk) fun _ hS => ?_
    refine sI hS (runs_assign rfl) fun _ hS => ?_
    refine nil_ok (wp_cond_false (hS.eval rfl) (qx_seq (qx_seq (reg_seq ?_))))
    refine sI hS (eqS2 rfl rfl hk) fun _ hS => ?_
    refine sI hS (runs_assign rfl) fun _ hS => ?_
    refine nil_ok (wp_cond_false (hS.eval rfl) (qx_seq (reg_seq ?_)))
    refine sI hS (eqS3 rfl rfl hk) fun _ hS => ?_
    refine sI hS (runs_assign rfl) fun _ hS => ?_
    refine nil_ok (wp_cond_false (hS.eval rfl) (reg_seq ?_))
    refine sI hS (eqS4 rfl rfl hk) fun _ hS => ?_
    refine sI hS (runs_assign rfl) fun _ hS => ?_
    refine nil_ok (wp_cond_false (hS.eval rfl) (wp_skip (qx_seq (reg_seq ?_))))
    refine sI hS (runs_move rfl) fun _ hS => ?_
    refine sI hS (runs_move rfl) fun _ hS => ?_
    refine sI hS (runs_add rfl rfl (wrap64 (by omega) (by omega))) fun _ hS => ?_
    refine sI hS (runs_assign rfl) fun _ hS => ?_
    exact nil_ok (qx_ret (ret1 (t := 6) (by kernel_rfl) hS rfl ⟨_, rfl, by rw [hk]; try rfl, rfl⟩))
  · skip
    refine calls_qx (args := [.string tg, .int .i64 x, .int .i64 y]) 23 Tryz.func67 rfl (by kernel_rfl) (by simp) (fun a hS => ?_)
    refine qx_seq (reg_seq ?_)
    refine sI hS (runs_assign rfl) fun _ hS => ?_
    refine nil_ok (qx_seq (qx_seq (reg_seq ?_)))
    refine sI hS (runs_move rfl) fun _ hS => ?_
    refine nil_ok (qx_block (qx_seq (reg_seq ?_)))
    refine sI hS (eqS1 rfl rfl hk) fun _ hS => ?_
    refine sI hS (runs_assign rfl) fun _ hS => ?_
    refine nil_ok (wp_cond_true (hS.eval rfl) (qx_seq (reg_seq ?_)))
    refine sI hS (runs_move rfl) fun _ hS => ?_
    refine sI hS (runs_move rfl) fun _ hS => ?_
    refine sI hS (runs_max2 (r := foldV 1 x y) rfl rfl (by unfold foldV; simp only [if_true]; repeat' split <;> omega)) fun _ hS => ?_
    refine sI hS (runs_assign rfl) fun _ hS => ?_
    exact nil_ok (qx_ret (ret1 (t := 6) (by kernel_rfl) hS rfl ⟨_, rfl, by rw [hk]; try rfl, rfl⟩))
  · skip
    refine calls_qx (args := [.string tg, .int .i64 x, .int .i64 y]) 23 Tryz.func67 rfl (by kernel_rfl) (by simp) (fun a hS => ?_)
    refine qx_seq (reg_seq ?_)
    refine sI hS (runs_assign rfl) fun _ hS => ?_
    refine nil_ok (qx_seq (qx_seq (reg_seq ?_)))
    refine sI hS (runs_move rfl) fun _ hS => ?_
    refine nil_ok (qx_block (qx_seq (reg_seq ?_)))
    refine sI hS (eqS1 rfl rfl hk) fun _ hS => ?_
    refine sI hS (runs_assign rfl) fun _ hS => ?_
    refine nil_ok (wp_cond_false (hS.eval rfl) (qx_seq (qx_seq (reg_seq ?_))))
    refine sI hS (eqS2 rfl rfl hk) fun _ hS => ?_
    refine sI hS (runs_assign rfl) fun _ hS => ?_
    refine nil_ok (wp_cond_true (hS.eval rfl) (wp_skip (wp_cond_true (hS.eval rfl) (qx_seq (reg_seq ?_)))))
    refine sI hS (runs_move rfl) fun _ hS => ?_
    refine sI hS (runs_move rfl) fun _ hS => ?_
    refine sI hS (runs_min2 (r := foldV 2 x y) rfl rfl (by simp [foldV]; repeat' split <;> omega)) fun _ hS => ?_
    refine sI hS (runs_assign rfl) fun _ hS => ?_
    exact nil_ok (qx_ret (ret1 (t := 6) (by kernel_rfl) hS rfl ⟨_, rfl, by rw [hk]; try rfl, rfl⟩))
  · skip
    refine calls_qx (args := [.string tg, .int .i64 x, .int .i64 y]) 23 Tryz.func67 rfl (by kernel_rfl) (by simp) (fun a hS => ?_)
    refine qx_seq (reg_seq ?_)
    refine sI hS (runs_assign rfl) fun _ hS => ?_
    refine nil_ok (qx_seq (qx_seq (reg_seq ?_)))
    refine sI hS (runs_move rfl) fun _ hS => ?_
    refine nil_ok (qx_block (qx_seq (reg_seq ?_)))
    refine sI hS (eqS1 rfl rfl hk) fun _ hS => ?_
    refine sI hS (runs_assign rfl) fun _ hS => ?_
    refine nil_ok (wp_cond_false (hS.eval rfl) (qx_seq (qx_seq (reg_seq ?_))))
    refine sI hS (eqS2 rfl rfl hk) fun _ hS => ?_
    refine sI hS (runs_assign rfl) fun _ hS => ?_
    refine nil_ok (wp_cond_false (hS.eval rfl) (qx_seq (reg_seq ?_)))
    refine sI hS (eqS3 rfl rfl hk) fun _ hS => ?_
    refine sI hS (runs_assign rfl) fun _ hS => ?_
    refine nil_ok (wp_cond_true (hS.eval rfl) (wp_skip (wp_cond_true (hS.eval rfl) (qx_seq (reg_seq ?_)))))
    refine sI hS (runs_move rfl) fun _ hS => ?_
    refine sI hS (runs_move rfl) fun _ hS => ?_
    refine sI hS (runs_min2 (r := foldV 3 x y) rfl rfl (by simp [foldV]; repeat' split <;> omega)) fun _ hS => ?_
    refine sI hS (runs_assign rfl) fun _ hS => ?_
    exact nil_ok (qx_ret (ret1 (t := 6) (by kernel_rfl) hS rfl ⟨_, rfl, by rw [hk]; try rfl, rfl⟩))
  · skip
    refine calls_qx (args := [.string tg, .int .i64 x, .int .i64 y]) 23 Tryz.func67 rfl (by kernel_rfl) (by simp) (fun a hS => ?_)
    refine qx_seq (reg_seq ?_)
    refine sI hS (runs_assign rfl) fun _ hS => ?_
    refine nil_ok (qx_seq (qx_seq (reg_seq ?_)))
    refine sI hS (runs_move rfl) fun _ hS => ?_
    refine nil_ok (qx_block (qx_seq (reg_seq ?_)))
    refine sI hS (eqS1 rfl rfl hk) fun _ hS => ?_
    refine sI hS (runs_assign rfl) fun _ hS => ?_
    refine nil_ok (wp_cond_false (hS.eval rfl) (qx_seq (qx_seq (reg_seq ?_))))
    refine sI hS (eqS2 rfl rfl hk) fun _ hS => ?_
    refine sI hS (runs_assign rfl) fun _ hS => ?_
    refine nil_ok (wp_cond_false (hS.eval rfl) (qx_seq (reg_seq ?_)))
    refine sI hS (eqS3 rfl rfl hk) fun _ hS => ?_
    refine sI hS (runs_assign rfl) fun _ hS => ?_
    refine nil_ok (wp_cond_false (hS.eval rfl) (reg_seq ?_))
    refine sI hS (eqS4 rfl rfl hk) fun _ hS => ?_
    refine sI hS (runs_assign rfl) fun _ hS => ?_
    refine nil_ok (wp_cond_true (hS.eval rfl) (qx_seq (reg_seq ?_)))
    refine sI hS (runs_move rfl) fun _ hS => ?_
    refine sI hS (runs_move rfl) fun _ hS => ?_
    refine sI hS (runs_min2 (r := foldV 4 x y) rfl rfl (by simp [foldV]; repeat' split <;> omega)) fun _ hS => ?_
    refine sI hS (runs_assign rfl) fun _ hS => ?_
    exact nil_ok (qx_ret (ret1 (t := 6) (by kernel_rfl) hS rfl ⟨_, rfl, by rw [hk]; try rfl, rfl⟩))
  · skip
    refine calls_qx (args := [.string tg, .int .i64 x, .int .i64 y]) 23 Tryz.func67 rfl (by kernel_rfl) (by simp) (fun a hS => ?_)
    refine qx_seq (reg_seq ?_)
    refine sI hS (runs_assign rfl) fun _ hS => ?_
    refine nil_ok (qx_seq (qx_seq (reg_seq ?_)))
    refine sI hS (runs_move rfl) fun _ hS => ?_
    refine nil_ok (qx_block (qx_seq (reg_seq ?_)))
    refine sI hS (eqS1 rfl rfl hk) fun _ hS => ?_
    refine sI hS (runs_assign rfl) fun _ hS => ?_
    refine nil_ok (wp_cond_false (hS.eval rfl) (qx_seq (qx_seq (reg_seq ?_))))
    refine sI hS (eqS2 rfl rfl hk) fun _ hS => ?_
    refine sI hS (runs_assign rfl) fun _ hS => ?_
    refine nil_ok (wp_cond_false (hS.eval rfl) (qx_seq (reg_seq ?_)))
    refine sI hS (eqS3 rfl rfl hk) fun _ hS => ?_
    refine sI hS (runs_assign rfl) fun _ hS => ?_
    refine nil_ok (wp_cond_false (hS.eval rfl) (reg_seq ?_))
    refine sI hS (eqS4 rfl rfl hk) fun _ hS => ?_
    refine sI hS (runs_assign rfl) fun _ hS => ?_
    refine nil_ok (wp_cond_false (hS.eval rfl) (wp_skip (qx_seq (reg_seq ?_))))
    refine sI hS (runs_move rfl) fun _ hS => ?_
    refine sI hS (runs_move rfl) fun _ hS => ?_
    refine sI hS (runs_add rfl rfl (wrap64 (by omega) (by omega))) fun _ hS => ?_
    refine sI hS (runs_assign rfl) fun _ hS => ?_
    exact nil_ok (qx_ret (ret1 (t := 6) (by kernel_rfl) hS rfl ⟨_, rfl, by rw [hk]; try rfl, rfl⟩))
  · skip
    refine calls_qx (args := [.string tg, .int .i64 x, .int .i64 y]) 23 Tryz.func67 rfl (by kernel_rfl) (by simp) (fun a hS => ?_)
    refine qx_seq (reg_seq ?_)
    refine sI hS (runs_assign rfl) fun _ hS => ?_
    refine nil_ok (qx_seq (qx_seq (reg_seq ?_)))
    refine sI hS (runs_move rfl) fun _ hS => ?_
    refine nil_ok (qx_block (qx_seq (reg_seq ?_)))
    refine sI hS (eqS1 rfl rfl hk) fun _ hS => ?_
    refine sI hS (runs_assign rfl) fun _ hS => ?_
    refine nil_ok (wp_cond_false (hS.eval rfl) (qx_seq (qx_seq (reg_seq ?_))))
    refine sI hS (eqS2 rfl rfl hk) fun _ hS => ?_
    refine sI hS (runs_assign rfl) fun _ hS => ?_
    refine nil_ok (wp_cond_false (hS.eval rfl) (qx_seq (reg_seq ?_)))
    refine sI hS (eqS3 rfl rfl hk) fun _ hS => ?_
    refine sI hS (runs_assign rfl) fun _ hS => ?_
    refine nil_ok (wp_cond_false (hS.eval rfl) (reg_seq ?_))
    refine sI hS (eqS4 rfl rfl hk) fun _ hS => ?_
    refine sI hS (runs_assign rfl) fun _ hS => ?_
    refine nil_ok (wp_cond_false (hS.eval rfl) (wp_skip (qx_seq (reg_seq ?_))))
    refine sI hS (runs_move rfl) fun _ hS => ?_
    refine sI hS (runs_move rfl) fun _ hS => ?_
    refine sI hS (runs_add rfl rfl (wrap64 (by omega) (by omega))) fun _ hS => ?_
    refine sI hS (runs_assign rfl) fun _ hS => ?_
    exact nil_ok (qx_ret (ret1 (t := 6) (by kernel_rfl) hS rfl ⟨_, rfl, by rw [hk]; try rfl, rfl⟩))
  · skip
    refine calls_qx (args := [.string tg, .int .i64 x, .int .i64 y]) 23 Tryz.func67 rfl (by kernel_rfl) (by simp) (fun a hS => ?_)
    refine qx_seq (reg_seq ?_)
    refine sI hS (runs_assign rfl) fun _ hS => ?_
    refine nil_ok (qx_seq (qx_seq (reg_seq ?_)))
    refine sI hS (runs_move rfl) fun _ hS => ?_
    refine nil_ok (qx_block (qx_seq (reg_seq ?_)))
    refine sI hS (eqS1 rfl rfl hk) fun _ hS => ?_
    refine sI hS (runs_assign rfl) fun _ hS => ?_
    refine nil_ok (wp_cond_false (hS.eval rfl) (qx_seq (qx_seq (reg_seq ?_))))
    refine sI hS (eqS2 rfl rfl hk) fun _ hS => ?_
    refine sI hS (runs_assign rfl) fun _ hS => ?_
    refine nil_ok (wp_cond_false (hS.eval rfl) (qx_seq (reg_seq ?_)))
    refine sI hS (eqS3 rfl rfl hk) fun _ hS => ?_
    refine sI hS (runs_assign rfl) fun _ hS => ?_
    refine nil_ok (wp_cond_false (hS.eval rfl) (reg_seq ?_))
    refine sI hS (eqS4 rfl rfl hk) fun _ hS => ?_
    refine sI hS (runs_assign rfl) fun _ hS => ?_
    refine nil_ok (wp_cond_false (hS.eval rfl) (wp_skip (qx_seq (reg_seq ?_))))
    refine sI hS (runs_move rfl) fun _ hS => ?_
    refine sI hS (runs_move rfl) fun _ hS => ?_
    refine sI hS (runs_add rfl rfl (wrap64 (by omega) (by omega))) fun _ hS => ?_
    refine sI hS (runs_assign rfl) fun _ hS => ?_
    exact nil_ok (qx_ret (ret1 (t := 6) (by kernel_rfl) hS rfl ⟨_, rfl, by rw [hk]; try rfl, rfl⟩))
set_option maxHeartbeats 1000000 in
theorem fold_any (tg : ByteArray) (x y : Int) (w : World) : Ans 48 [.string tg, .int .i64 x, .int .i64 y] w (fun u w' => u = .tuple #[.int .i64 (foldL (kindL tg.data.toList) x y).1, .int .i64 (foldL (kindL tg.data.toList) x y).2] ∧ w' = w) := by
  by_cases hk : kindL tg.data.toList = 0
  · skip
    refine calls_qx (args := [.string tg, .int .i64 x, .int .i64 y]) 25 Tryz.func48 rfl (by kernel_rfl) (by simp) (fun a hS => ?_)
    refine qx_seq (reg_seq ?_)
    refine sI hS (runs_assign rfl) fun _ hS => ?_
    refine sI hS (runs_assign rfl) fun _ hS => ?_
    refine nil_ok (qx_seq (qx_seq (reg_seq ?_)))
    refine sI hS (runs_move rfl) fun _ hS => ?_
    refine sI hS (runs_call (args := [.string tg]) goes40 rfl (known_is _ w (b := false) (by rw [hk]; rfl))) fun _ hS => ?_
    refine sI hS (runs_not (b := false) rfl) fun _ hS => ?_
    refine nil_ok (wp_cond_true (hS.eval rfl) (qx_seq (reg_seq ?_)))
    refine sI hS (runs_assign rfl) fun _ hS => ?_
    refine sI hS (runs_assign rfl) fun _ hS => ?_
    exact nil_ok (qx_ret (ret2 (t := 6) (u := 7) (by kernel_rfl) hS rfl rfl ⟨_, rfl, by unfold foldL; rw [hk]; rfl, rfl⟩))
  refine calls_qx (args := [.string tg, .int .i64 x, .int .i64 y]) 25 Tryz.func48 rfl (by kernel_rfl) (by simp) (fun a hS => ?_)
  refine qx_seq (reg_seq ?_)
  refine sI hS (runs_assign rfl) fun _ hS => ?_
  refine sI hS (runs_assign rfl) fun _ hS => ?_
  refine nil_ok (qx_seq (qx_seq (reg_seq ?_)))
  refine sI hS (runs_move rfl) fun _ hS => ?_
  refine sI hS (runs_call (args := [.string tg]) goes40 rfl (known_is _ w (b := true) (by simpa using hk))) fun _ hS => ?_
  refine sI hS (runs_not (b := true) rfl) fun _ hS => ?_
  refine nil_ok (wp_cond_false (hS.eval rfl) (wp_skip (qx_seq (qx_seq (reg_seq ?_)))))
  refine sI hS (runs_move rfl) fun _ hS => ?_
  by_cases h1 : great x = true
  · skip
    refine sI hS (runs_call (args := [.int .i64 x]) goes42 rfl (great_is w h1)) fun _ hS => ?_
    refine sI hS (runs_move rfl) fun _ hS => ?_
    refine sN hS fun _ hS => ?_
    refine sN hS fun _ hS => ?_
    refine sI hS (runs_pick rfl rfl) fun _ hS => ?_
    refine nil_ok (wp_cond_true (hS.eval rfl) (qx_seq (reg_seq ?_)))
    refine sI hS (runs_assign rfl) fun _ hS => ?_
    refine sI hS (runs_assign rfl) fun _ hS => ?_
    exact nil_ok (qx_ret (ret2 (t := 6) (u := 7) (by kernel_rfl) hS rfl rfl ⟨_, rfl, by unfold foldL; rw [if_neg hk]; simp [h1], rfl⟩))
  refine sI hS (runs_call (args := [.int .i64 x]) goes42 rfl (great_is w (Bool.eq_false_iff.2 h1))) fun _ hS => ?_
  refine sI hS (runs_move rfl) fun _ hS => ?_
  refine sY hS (runs_move rfl) fun _ hS => ?_
  by_cases h2 : great y = true
  · skip
    refine sY hS (runs_call (args := [.int .i64 y]) goes42 rfl (great_is w h2)) fun _ hS => ?_
    refine sI hS (runs_pick rfl rfl) fun _ hS => ?_
    refine nil_ok (wp_cond_true (hS.eval rfl) (qx_seq (reg_seq ?_)))
    refine sI hS (runs_assign rfl) fun _ hS => ?_
    refine sI hS (runs_assign rfl) fun _ hS => ?_
    exact nil_ok (qx_ret (ret2 (t := 6) (u := 7) (by kernel_rfl) hS rfl rfl ⟨_, rfl, by unfold foldL; rw [if_neg hk]; simp [h1, h2], rfl⟩))
  refine sY hS (runs_call (args := [.int .i64 y]) goes42 rfl (great_is w (Bool.eq_false_iff.2 h2))) fun _ hS => ?_
  refine sI hS (runs_pick rfl rfl) fun _ hS => ?_
  refine nil_ok (wp_cond_false (hS.eval rfl) (wp_skip (qx_seq (reg_seq ?_))))
  refine sI hS (runs_move rfl) fun _ hS => ?_
  refine sI hS (runs_move rfl) fun _ hS => ?_
  refine sI hS (runs_move rfl) fun _ hS => ?_
  refine sI hS (runs_call (args := [.string tg, .int .i64 x, .int .i64 y]) goes67 rfl (folded_any tg x y (Bool.eq_false_iff.2 h1) (Bool.eq_false_iff.2 h2) w)) fun _ hS => ?_
  refine sI hS (runs_assign rfl) fun _ hS => ?_
  refine nil_ok (qx_seq (qx_seq (reg_seq ?_)))
  refine sI hS (runs_move rfl) fun _ hS => ?_
  by_cases h3 : great (foldV (kindL tg.data.toList) x y) = true
  · skip
    refine sI hS (runs_call (args := [.int .i64 (foldV (kindL tg.data.toList) x y)]) goes42 rfl (great_is w h3)) fun _ hS => ?_
    refine nil_ok (wp_cond_true (hS.eval rfl) (qx_seq (reg_seq ?_)))
    refine sI hS (runs_assign rfl) fun _ hS => ?_
    refine sI hS (runs_assign rfl) fun _ hS => ?_
    exact nil_ok (qx_ret (ret2 (t := 6) (u := 7) (by kernel_rfl) hS rfl rfl ⟨_, rfl, by unfold foldL; rw [if_neg hk]; simp [h1, h2, h3], rfl⟩))
  refine sI hS (runs_call (args := [.int .i64 (foldV (kindL tg.data.toList) x y)]) goes42 rfl (great_is w (Bool.eq_false_iff.2 h3))) fun _ hS => ?_
  refine nil_ok (wp_cond_false (hS.eval rfl) (wp_skip (qx_seq (reg_seq ?_))))
  refine sI hS (runs_move rfl) fun _ hS => ?_
  refine sI hS (runs_assign rfl) fun _ hS => ?_
  refine sI hS (runs_assign rfl) fun _ hS => ?_
  exact nil_ok (qx_ret (ret2 (t := 6) (u := 7) (by kernel_rfl) hS rfl rfl ⟨_, rfl, by unfold foldL; rw [if_neg hk]; simp [h1, h2, h3], rfl⟩))
set_option maxHeartbeats 1000000 in
theorem rfold_any (tg : ByteArray) (x y : Int) (w : World) : Ans 56 [.string tg, .int .i64 x, .int .i64 y] w (fun u w' => u = .tuple #[.int .i64 (foldL (kindL tg.data.toList) x y).1, .int .i64 (foldL (kindL tg.data.toList) x y).2] ∧ w' = w) := by
  by_cases hk : kindL tg.data.toList = 0
  · skip
    refine calls_qx (args := [.string tg, .int .i64 x, .int .i64 y]) 64 Tryz.func56 rfl (by kernel_rfl) (by simp) (fun a hS => ?_)
    refine qx_seq (reg_seq ?_)
    refine sI hS (runs_assign rfl) fun _ hS => ?_
    refine sI hS (runs_assign rfl) fun _ hS => ?_
    refine nil_ok (qx_seq (qx_seq (reg_seq ?_)))
    refine sI hS (runs_move rfl) fun _ hS => ?_
    refine sI hS (runs_call (args := [.string tg]) goes37 rfl (rknown_is _ w (b := false) (by rw [hk]; rfl))) fun _ hS => ?_
    refine sI hS (runs_not (b := false) rfl) fun _ hS => ?_
    refine nil_ok (wp_cond_true (hS.eval rfl) (qx_seq (reg_seq ?_)))
    refine sI hS (runs_assign rfl) fun _ hS => ?_
    refine sI hS (runs_assign rfl) fun _ hS => ?_
    exact nil_ok (qx_ret (ret2 (t := 6) (u := 7) (by kernel_rfl) hS rfl rfl ⟨_, rfl, by unfold foldL; rw [hk]; rfl, rfl⟩))
  refine calls_qx (args := [.string tg, .int .i64 x, .int .i64 y]) 64 Tryz.func56 rfl (by kernel_rfl) (by simp) (fun a hS => ?_)
  refine qx_seq (reg_seq ?_)
  refine sI hS (runs_assign rfl) fun _ hS => ?_
  refine sI hS (runs_assign rfl) fun _ hS => ?_
  refine nil_ok (qx_seq (qx_seq (reg_seq ?_)))
  refine sI hS (runs_move rfl) fun _ hS => ?_
  refine sI hS (runs_call (args := [.string tg]) goes37 rfl (rknown_is _ w (b := true) (by simpa using hk))) fun _ hS => ?_
  refine sI hS (runs_not (b := true) rfl) fun _ hS => ?_
  refine nil_ok (wp_cond_false (hS.eval rfl) (wp_skip (qx_seq (qx_seq (reg_seq ?_)))))
  refine sI hS (runs_move rfl) fun _ hS => ?_
  by_cases h1 : great x = true
  · skip
    refine sI hS (runs_call (args := [.int .i64 x]) goes52 rfl (rgreat_is w h1)) fun _ hS => ?_
    refine sI hS (runs_move rfl) fun _ hS => ?_
    refine sN hS fun _ hS => ?_
    refine sN hS fun _ hS => ?_
    refine sI hS (runs_pick rfl rfl) fun _ hS => ?_
    refine nil_ok (wp_cond_true (hS.eval rfl) (qx_seq (reg_seq ?_)))
    refine sI hS (runs_assign rfl) fun _ hS => ?_
    refine sI hS (runs_assign rfl) fun _ hS => ?_
    exact nil_ok (qx_ret (ret2 (t := 6) (u := 7) (by kernel_rfl) hS rfl rfl ⟨_, rfl, by unfold foldL; rw [if_neg hk]; simp [h1], rfl⟩))
  refine sI hS (runs_call (args := [.int .i64 x]) goes52 rfl (rgreat_is w (Bool.eq_false_iff.2 h1))) fun _ hS => ?_
  refine sI hS (runs_move rfl) fun _ hS => ?_
  refine sY hS (runs_move rfl) fun _ hS => ?_
  by_cases h2 : great y = true
  · skip
    refine sY hS (runs_call (args := [.int .i64 y]) goes52 rfl (rgreat_is w h2)) fun _ hS => ?_
    refine sI hS (runs_pick rfl rfl) fun _ hS => ?_
    refine nil_ok (wp_cond_true (hS.eval rfl) (qx_seq (reg_seq ?_)))
    refine sI hS (runs_assign rfl) fun _ hS => ?_
    refine sI hS (runs_assign rfl) fun _ hS => ?_
    exact nil_ok (qx_ret (ret2 (t := 6) (u := 7) (by kernel_rfl) hS rfl rfl ⟨_, rfl, by unfold foldL; rw [if_neg hk]; simp [h1, h2], rfl⟩))
  refine sY hS (runs_call (args := [.int .i64 y]) goes52 rfl (rgreat_is w (Bool.eq_false_iff.2 h2))) fun _ hS => ?_
  refine sI hS (runs_pick rfl rfl) fun _ hS => ?_
  refine nil_ok (wp_cond_false (hS.eval rfl) (wp_skip (qx_seq (reg_seq ?_))))
  refine sI hS (runs_move rfl) fun _ hS => ?_
  refine sI hS (runs_move rfl) fun _ hS => ?_
  obtain ⟨hx1, hx2⟩ := great_no (Bool.eq_false_iff.2 h1)
  obtain ⟨hy1, hy2⟩ := great_no (Bool.eq_false_iff.2 h2)
  refine sI hS (runs_add rfl rfl (wrap64 (by omega) (by omega))) fun _ hS => ?_
  refine sI hS (runs_assign rfl) fun _ hS => ?_
  refine nil_ok (qx_seq (qx_seq (?_)))
  rcases kind_cases tg.data.toList with hk2 | hk2 | hk2 | hk2 | hk2 | hk2 | hk2 | hk2
  · exact absurd hk2 hk
  · skip
    refine reg_seq ?_
    refine sI hS (runs_move rfl) fun _ hS => ?_
    refine sI hS (eqS1 rfl rfl hk2) fun _ hS => ?_
    refine sI hS (runs_move rfl) fun _ hS => ?_
    refine sY hS (runs_move rfl) fun _ hS => ?_
    refine sY hS (runs_move rfl) fun _ hS => ?_
    by_cases h4 : x ≥ y
    · skip
      refine sY hS (geqT rfl rfl (by omega)) fun _ hS => ?_
      refine sI hS (runs_pick rfl rfl) fun _ hS => ?_
      refine sI hS (runs_move rfl) fun _ hS => ?_
      refine sN hS fun _ hS => ?_
      refine sN hS fun _ hS => ?_
      refine sN hS fun _ hS => ?_
      refine sU hS fun _ hS => ?_
      refine sU hS fun _ hS => ?_
      refine sN hS fun _ hS => ?_
      refine sN hS fun _ hS => ?_
      refine sU hS fun _ hS => ?_
      refine sU hS fun _ hS => ?_
      refine sN hS fun _ hS => ?_
      refine sN hS fun _ hS => ?_
      refine sU hS fun _ hS => ?_
      refine sU hS fun _ hS => ?_
      refine sU hS fun _ hS => ?_
      refine sN hS fun _ hS => ?_
      refine sI hS (runs_pick rfl rfl) fun _ hS => ?_
      refine nil_ok (wp_cond_true (hS.eval rfl) (reg_seq ?_))
      refine sI hS (runs_move rfl) fun _ hS => ?_
      refine sI hS (runs_assign rfl) fun _ hS => ?_
      refine nil_ok (qx_seq (qx_seq (reg_seq ?_)))
      refine sI hS (runs_move rfl) fun _ hS => ?_
      have hfv : foldV (kindL tg.data.toList) x y = x := by rw [hk2]; first | (simp [foldV]; done) | (simp [foldV]; omega)
      by_cases h3 : great x = true
      · skip
        refine sI hS (runs_call (args := [.int .i64 x]) goes52 rfl (rgreat_is w h3)) fun _ hS => ?_
        refine nil_ok (wp_cond_true (hS.eval rfl) (qx_seq (reg_seq ?_)))
        refine sI hS (runs_assign rfl) fun _ hS => ?_
        refine sI hS (runs_assign rfl) fun _ hS => ?_
        exact nil_ok (qx_ret (ret2 (t := 6) (u := 7) (by kernel_rfl) hS rfl rfl ⟨_, rfl, by unfold foldL; rw [if_neg hk]; rw [hfv]; first | (simp [h1, h2]; done) | exact absurd h3 h1 | exact absurd h3 h2, rfl⟩))
      refine sI hS (runs_call (args := [.int .i64 x]) goes52 rfl (rgreat_is w (Bool.eq_false_iff.2 h3))) fun _ hS => ?_
      refine nil_ok (wp_cond_false (hS.eval rfl) (wp_skip (qx_seq (reg_seq ?_))))
      refine sI hS (runs_move rfl) fun _ hS => ?_
      refine sI hS (runs_assign rfl) fun _ hS => ?_
      refine sI hS (runs_assign rfl) fun _ hS => ?_
      exact nil_ok (qx_ret (ret2 (t := 6) (u := 7) (by kernel_rfl) hS rfl rfl ⟨_, rfl, by unfold foldL; rw [if_neg hk]; rw [hfv]; first | (simp [h1, h2]; done) | exact absurd h3 h1 | exact absurd h3 h2, rfl⟩))
    refine sY hS (geqF rfl rfl (by omega)) fun _ hS => ?_
    refine sI hS (runs_pick rfl rfl) fun _ hS => ?_
    refine sI hS (runs_move rfl) fun _ hS => ?_
    refine sY hS (runs_move rfl) fun _ hS => ?_
    refine sY hS (eqS2 rfl rfl hk2) fun _ hS => ?_
    refine sY hS (runs_move rfl) fun _ hS => ?_
    refine sY hS (runs_move rfl) fun _ hS => ?_
    refine sY hS (eqS3 rfl rfl hk2) fun _ hS => ?_
    refine sY hS (runs_pick rfl rfl) fun _ hS => ?_
    refine sY hS (runs_move rfl) fun _ hS => ?_
    refine sY hS (runs_move rfl) fun _ hS => ?_
    refine sY hS (eqS4 rfl rfl hk2) fun _ hS => ?_
    refine sY hS (runs_pick rfl rfl) fun _ hS => ?_
    refine sY hS (runs_move rfl) fun _ hS => ?_
    refine sN hS fun _ hS => ?_
    refine sN hS fun _ hS => ?_
    refine sN hS fun _ hS => ?_
    refine sY hS (runs_pick rfl rfl) fun _ hS => ?_
    refine sI hS (runs_pick rfl rfl) fun _ hS => ?_
    refine nil_ok (wp_cond_false (hS.eval rfl) (qx_seq (reg_seq ?_)))
    refine sI hS (runs_move rfl) fun _ hS => ?_
    refine sI hS (eqS1 rfl rfl hk2) fun _ hS => ?_
    refine sI hS (runs_move rfl) fun _ hS => ?_
    refine sN hS fun _ hS => ?_
    refine sN hS fun _ hS => ?_
    refine sI hS (runs_pick rfl rfl) fun _ hS => ?_
    refine sI hS (runs_move rfl) fun _ hS => ?_
    refine sN hS fun _ hS => ?_
    refine sN hS fun _ hS => ?_
    refine sI hS (runs_pick rfl rfl) fun _ hS => ?_
    refine sI hS (runs_move rfl) fun _ hS => ?_
    refine sN hS fun _ hS => ?_
    refine sN hS fun _ hS => ?_
    refine sI hS (runs_pick rfl rfl) fun _ hS => ?_
    refine nil_ok (wp_cond_true (hS.eval rfl) (reg_seq ?_))
    refine sI hS (runs_move rfl) fun _ hS => ?_
    refine sI hS (runs_assign rfl) fun _ hS => ?_
    refine nil_ok (qx_seq (qx_seq (reg_seq ?_)))
    refine sI hS (runs_move rfl) fun _ hS => ?_
    have hfv : foldV (kindL tg.data.toList) x y = y := by rw [hk2]; first | (simp [foldV]; done) | (simp [foldV]; omega)
    by_cases h3 : great y = true
    · skip
      refine sI hS (runs_call (args := [.int .i64 y]) goes52 rfl (rgreat_is w h3)) fun _ hS => ?_
      refine nil_ok (wp_cond_true (hS.eval rfl) (qx_seq (reg_seq ?_)))
      refine sI hS (runs_assign rfl) fun _ hS => ?_
      refine sI hS (runs_assign rfl) fun _ hS => ?_
      exact nil_ok (qx_ret (ret2 (t := 6) (u := 7) (by kernel_rfl) hS rfl rfl ⟨_, rfl, by unfold foldL; rw [if_neg hk]; rw [hfv]; first | (simp [h1, h2]; done) | exact absurd h3 h1 | exact absurd h3 h2, rfl⟩))
    refine sI hS (runs_call (args := [.int .i64 y]) goes52 rfl (rgreat_is w (Bool.eq_false_iff.2 h3))) fun _ hS => ?_
    refine nil_ok (wp_cond_false (hS.eval rfl) (wp_skip (qx_seq (reg_seq ?_))))
    refine sI hS (runs_move rfl) fun _ hS => ?_
    refine sI hS (runs_assign rfl) fun _ hS => ?_
    refine sI hS (runs_assign rfl) fun _ hS => ?_
    exact nil_ok (qx_ret (ret2 (t := 6) (u := 7) (by kernel_rfl) hS rfl rfl ⟨_, rfl, by unfold foldL; rw [if_neg hk]; rw [hfv]; first | (simp [h1, h2]; done) | exact absurd h3 h1 | exact absurd h3 h2, rfl⟩))
  · skip
    refine reg_seq ?_
    refine sI hS (runs_move rfl) fun _ hS => ?_
    refine sI hS (eqS1 rfl rfl hk2) fun _ hS => ?_
    refine sI hS (runs_move rfl) fun _ hS => ?_
    refine sN hS fun _ hS => ?_
    refine sN hS fun _ hS => ?_
    refine sN hS fun _ hS => ?_
    refine sI hS (runs_pick rfl rfl) fun _ hS => ?_
    refine sI hS (runs_move rfl) fun _ hS => ?_
    refine sY hS (runs_move rfl) fun _ hS => ?_
    refine sY hS (eqS2 rfl rfl hk2) fun _ hS => ?_
    refine sY hS (runs_move rfl) fun _ hS => ?_
    refine sN hS fun _ hS => ?_
    refine sN hS fun _ hS => ?_
    refine sY hS (runs_pick rfl rfl) fun _ hS => ?_
    refine sY hS (runs_move rfl) fun _ hS => ?_
    refine sN hS fun _ hS => ?_
    refine sN hS fun _ hS => ?_
    refine sY hS (runs_pick rfl rfl) fun _ hS => ?_
    refine sY hS (runs_move rfl) fun _ hS => ?_
    refine sY hS (runs_move rfl) fun _ hS => ?_
    refine sY hS (runs_move rfl) fun _ hS => ?_
    by_cases h4 : x ≤ y
    · skip
      refine sY hS (leqT rfl rfl (by omega)) fun _ hS => ?_
      refine sY hS (runs_pick rfl rfl) fun _ hS => ?_
      refine sI hS (runs_pick rfl rfl) fun _ hS => ?_
      refine nil_ok (wp_cond_true (hS.eval rfl) (reg_seq ?_))
      refine sI hS (runs_move rfl) fun _ hS => ?_
      refine sI hS (runs_assign rfl) fun _ hS => ?_
      refine nil_ok (qx_seq (qx_seq (reg_seq ?_)))
      refine sI hS (runs_move rfl) fun _ hS => ?_
      have hfv : foldV (kindL tg.data.toList) x y = x := by rw [hk2]; first | (simp [foldV]; done) | (simp [foldV]; omega)
      by_cases h3 : great x = true
      · skip
        refine sI hS (runs_call (args := [.int .i64 x]) goes52 rfl (rgreat_is w h3)) fun _ hS => ?_
        refine nil_ok (wp_cond_true (hS.eval rfl) (qx_seq (reg_seq ?_)))
        refine sI hS (runs_assign rfl) fun _ hS => ?_
        refine sI hS (runs_assign rfl) fun _ hS => ?_
        exact nil_ok (qx_ret (ret2 (t := 6) (u := 7) (by kernel_rfl) hS rfl rfl ⟨_, rfl, by unfold foldL; rw [if_neg hk]; rw [hfv]; first | (simp [h1, h2]; done) | exact absurd h3 h1 | exact absurd h3 h2, rfl⟩))
      refine sI hS (runs_call (args := [.int .i64 x]) goes52 rfl (rgreat_is w (Bool.eq_false_iff.2 h3))) fun _ hS => ?_
      refine nil_ok (wp_cond_false (hS.eval rfl) (wp_skip (qx_seq (reg_seq ?_))))
      refine sI hS (runs_move rfl) fun _ hS => ?_
      refine sI hS (runs_assign rfl) fun _ hS => ?_
      refine sI hS (runs_assign rfl) fun _ hS => ?_
      exact nil_ok (qx_ret (ret2 (t := 6) (u := 7) (by kernel_rfl) hS rfl rfl ⟨_, rfl, by unfold foldL; rw [if_neg hk]; rw [hfv]; first | (simp [h1, h2]; done) | exact absurd h3 h1 | exact absurd h3 h2, rfl⟩))
    refine sY hS (leqF rfl rfl (by omega)) fun _ hS => ?_
    refine sY hS (runs_pick rfl rfl) fun _ hS => ?_
    refine sI hS (runs_pick rfl rfl) fun _ hS => ?_
    refine nil_ok (wp_cond_false (hS.eval rfl) (qx_seq (reg_seq ?_)))
    refine sI hS (runs_move rfl) fun _ hS => ?_
    refine sI hS (eqS1 rfl rfl hk2) fun _ hS => ?_
    refine sI hS (runs_move rfl) fun _ hS => ?_
    refine sY hS (runs_move rfl) fun _ hS => ?_
    refine sY hS (eqS2 rfl rfl hk2) fun _ hS => ?_
    refine sI hS (runs_pick rfl rfl) fun _ hS => ?_
    refine sI hS (runs_move rfl) fun _ hS => ?_
    refine sN hS fun _ hS => ?_
    refine sN hS fun _ hS => ?_
    refine sI hS (runs_pick rfl rfl) fun _ hS => ?_
    refine sI hS (runs_move rfl) fun _ hS => ?_
    refine sN hS fun _ hS => ?_
    refine sN hS fun _ hS => ?_
    refine sI hS (runs_pick rfl rfl) fun _ hS => ?_
    refine nil_ok (wp_cond_true (hS.eval rfl) (reg_seq ?_))
    refine sI hS (runs_move rfl) fun _ hS => ?_
    refine sI hS (runs_assign rfl) fun _ hS => ?_
    refine nil_ok (qx_seq (qx_seq (reg_seq ?_)))
    refine sI hS (runs_move rfl) fun _ hS => ?_
    have hfv : foldV (kindL tg.data.toList) x y = y := by rw [hk2]; first | (simp [foldV]; done) | (simp [foldV]; omega)
    by_cases h3 : great y = true
    · skip
      refine sI hS (runs_call (args := [.int .i64 y]) goes52 rfl (rgreat_is w h3)) fun _ hS => ?_
      refine nil_ok (wp_cond_true (hS.eval rfl) (qx_seq (reg_seq ?_)))
      refine sI hS (runs_assign rfl) fun _ hS => ?_
      refine sI hS (runs_assign rfl) fun _ hS => ?_
      exact nil_ok (qx_ret (ret2 (t := 6) (u := 7) (by kernel_rfl) hS rfl rfl ⟨_, rfl, by unfold foldL; rw [if_neg hk]; rw [hfv]; first | (simp [h1, h2]; done) | exact absurd h3 h1 | exact absurd h3 h2, rfl⟩))
    refine sI hS (runs_call (args := [.int .i64 y]) goes52 rfl (rgreat_is w (Bool.eq_false_iff.2 h3))) fun _ hS => ?_
    refine nil_ok (wp_cond_false (hS.eval rfl) (wp_skip (qx_seq (reg_seq ?_))))
    refine sI hS (runs_move rfl) fun _ hS => ?_
    refine sI hS (runs_assign rfl) fun _ hS => ?_
    refine sI hS (runs_assign rfl) fun _ hS => ?_
    exact nil_ok (qx_ret (ret2 (t := 6) (u := 7) (by kernel_rfl) hS rfl rfl ⟨_, rfl, by unfold foldL; rw [if_neg hk]; rw [hfv]; first | (simp [h1, h2]; done) | exact absurd h3 h1 | exact absurd h3 h2, rfl⟩))
  · skip
    refine reg_seq ?_
    refine sI hS (runs_move rfl) fun _ hS => ?_
    refine sI hS (eqS1 rfl rfl hk2) fun _ hS => ?_
    refine sI hS (runs_move rfl) fun _ hS => ?_
    refine sN hS fun _ hS => ?_
    refine sN hS fun _ hS => ?_
    refine sN hS fun _ hS => ?_
    refine sI hS (runs_pick rfl rfl) fun _ hS => ?_
    refine sI hS (runs_move rfl) fun _ hS => ?_
    refine sY hS (runs_move rfl) fun _ hS => ?_
    refine sY hS (eqS2 rfl rfl hk2) fun _ hS => ?_
    refine sY hS (runs_move rfl) fun _ hS => ?_
    refine sY hS (runs_move rfl) fun _ hS => ?_
    refine sY hS (eqS3 rfl rfl hk2) fun _ hS => ?_
    refine sY hS (runs_pick rfl rfl) fun _ hS => ?_
    refine sY hS (runs_move rfl) fun _ hS => ?_
    refine sN hS fun _ hS => ?_
    refine sN hS fun _ hS => ?_
    refine sY hS (runs_pick rfl rfl) fun _ hS => ?_
    refine sY hS (runs_move rfl) fun _ hS => ?_
    refine sY hS (runs_move rfl) fun _ hS => ?_
    refine sY hS (runs_move rfl) fun _ hS => ?_
    by_cases h4 : x ≤ y
    · skip
      refine sY hS (leqT rfl rfl (by omega)) fun _ hS => ?_
      refine sY hS (runs_pick rfl rfl) fun _ hS => ?_
      refine sI hS (runs_pick rfl rfl) fun _ hS => ?_
      refine nil_ok (wp_cond_true (hS.eval rfl) (reg_seq ?_))
      refine sI hS (runs_move rfl) fun _ hS => ?_
      refine sI hS (runs_assign rfl) fun _ hS => ?_
      refine nil_ok (qx_seq (qx_seq (reg_seq ?_)))
      refine sI hS (runs_move rfl) fun _ hS => ?_
      have hfv : foldV (kindL tg.data.toList) x y = x := by rw [hk2]; first | (simp [foldV]; done) | (simp [foldV]; omega)
      by_cases h3 : great x = true
      · skip
        refine sI hS (runs_call (args := [.int .i64 x]) goes52 rfl (rgreat_is w h3)) fun _ hS => ?_
        refine nil_ok (wp_cond_true (hS.eval rfl) (qx_seq (reg_seq ?_)))
        refine sI hS (runs_assign rfl) fun _ hS => ?_
        refine sI hS (runs_assign rfl) fun _ hS => ?_
        exact nil_ok (qx_ret (ret2 (t := 6) (u := 7) (by kernel_rfl) hS rfl rfl ⟨_, rfl, by unfold foldL; rw [if_neg hk]; rw [hfv]; first | (simp [h1, h2]; done) | exact absurd h3 h1 | exact absurd h3 h2, rfl⟩))
      refine sI hS (runs_call (args := [.int .i64 x]) goes52 rfl (rgreat_is w (Bool.eq_false_iff.2 h3))) fun _ hS => ?_
      refine nil_ok (wp_cond_false (hS.eval rfl) (wp_skip (qx_seq (reg_seq ?_))))
      refine sI hS (runs_move rfl) fun _ hS => ?_
      refine sI hS (runs_assign rfl) fun _ hS => ?_
      refine sI hS (runs_assign rfl) fun _ hS => ?_
      exact nil_ok (qx_ret (ret2 (t := 6) (u := 7) (by kernel_rfl) hS rfl rfl ⟨_, rfl, by unfold foldL; rw [if_neg hk]; rw [hfv]; first | (simp [h1, h2]; done) | exact absurd h3 h1 | exact absurd h3 h2, rfl⟩))
    refine sY hS (leqF rfl rfl (by omega)) fun _ hS => ?_
    refine sY hS (runs_pick rfl rfl) fun _ hS => ?_
    refine sI hS (runs_pick rfl rfl) fun _ hS => ?_
    refine nil_ok (wp_cond_false (hS.eval rfl) (qx_seq (reg_seq ?_)))
    refine sI hS (runs_move rfl) fun _ hS => ?_
    refine sI hS (eqS1 rfl rfl hk2) fun _ hS => ?_
    refine sI hS (runs_move rfl) fun _ hS => ?_
    refine sY hS (runs_move rfl) fun _ hS => ?_
    refine sY hS (eqS2 rfl rfl hk2) fun _ hS => ?_
    refine sI hS (runs_pick rfl rfl) fun _ hS => ?_
    refine sI hS (runs_move rfl) fun _ hS => ?_
    refine sY hS (runs_move rfl) fun _ hS => ?_
    refine sY hS (eqS3 rfl rfl hk2) fun _ hS => ?_
    refine sI hS (runs_pick rfl rfl) fun _ hS => ?_
    refine sI hS (runs_move rfl) fun _ hS => ?_
    refine sN hS fun _ hS => ?_
    refine sN hS fun _ hS => ?_
    refine sI hS (runs_pick rfl rfl) fun _ hS => ?_
    refine nil_ok (wp_cond_true (hS.eval rfl) (reg_seq ?_))
    refine sI hS (runs_move rfl) fun _ hS => ?_
    refine sI hS (runs_assign rfl) fun _ hS => ?_
    refine nil_ok (qx_seq (qx_seq (reg_seq ?_)))
    refine sI hS (runs_move rfl) fun _ hS => ?_
    have hfv : foldV (kindL tg.data.toList) x y = y := by rw [hk2]; first | (simp [foldV]; done) | (simp [foldV]; omega)
    by_cases h3 : great y = true
    · skip
      refine sI hS (runs_call (args := [.int .i64 y]) goes52 rfl (rgreat_is w h3)) fun _ hS => ?_
      refine nil_ok (wp_cond_true (hS.eval rfl) (qx_seq (reg_seq ?_)))
      refine sI hS (runs_assign rfl) fun _ hS => ?_
      refine sI hS (runs_assign rfl) fun _ hS => ?_
      exact nil_ok (qx_ret (ret2 (t := 6) (u := 7) (by kernel_rfl) hS rfl rfl ⟨_, rfl, by unfold foldL; rw [if_neg hk]; rw [hfv]; first | (simp [h1, h2]; done) | exact absurd h3 h1 | exact absurd h3 h2, rfl⟩))
    refine sI hS (runs_call (args := [.int .i64 y]) goes52 rfl (rgreat_is w (Bool.eq_false_iff.2 h3))) fun _ hS => ?_
    refine nil_ok (wp_cond_false (hS.eval rfl) (wp_skip (qx_seq (reg_seq ?_))))
    refine sI hS (runs_move rfl) fun _ hS => ?_
    refine sI hS (runs_assign rfl) fun _ hS => ?_
    refine sI hS (runs_assign rfl) fun _ hS => ?_
    exact nil_ok (qx_ret (ret2 (t := 6) (u := 7) (by kernel_rfl) hS rfl rfl ⟨_, rfl, by unfold foldL; rw [if_neg hk]; rw [hfv]; first | (simp [h1, h2]; done) | exact absurd h3 h1 | exact absurd h3 h2, rfl⟩))
  · skip
    refine reg_seq ?_
    refine sI hS (runs_move rfl) fun _ hS => ?_
    refine sI hS (eqS1 rfl rfl hk2) fun _ hS => ?_
    refine sI hS (runs_move rfl) fun _ hS => ?_
    refine sN hS fun _ hS => ?_
    refine sN hS fun _ hS => ?_
    refine sN hS fun _ hS => ?_
    refine sI hS (runs_pick rfl rfl) fun _ hS => ?_
    refine sI hS (runs_move rfl) fun _ hS => ?_
    refine sY hS (runs_move rfl) fun _ hS => ?_
    refine sY hS (eqS2 rfl rfl hk2) fun _ hS => ?_
    refine sY hS (runs_move rfl) fun _ hS => ?_
    refine sY hS (runs_move rfl) fun _ hS => ?_
    refine sY hS (eqS3 rfl rfl hk2) fun _ hS => ?_
    refine sY hS (runs_pick rfl rfl) fun _ hS => ?_
    refine sY hS (runs_move rfl) fun _ hS => ?_
    refine sY hS (runs_move rfl) fun _ hS => ?_
    refine sY hS (eqS4 rfl rfl hk2) fun _ hS => ?_
    refine sY hS (runs_pick rfl rfl) fun _ hS => ?_
    refine sY hS (runs_move rfl) fun _ hS => ?_
    refine sY hS (runs_move rfl) fun _ hS => ?_
    refine sY hS (runs_move rfl) fun _ hS => ?_
    by_cases h4 : x ≤ y
    · skip
      refine sY hS (leqT rfl rfl (by omega)) fun _ hS => ?_
      refine sY hS (runs_pick rfl rfl) fun _ hS => ?_
      refine sI hS (runs_pick rfl rfl) fun _ hS => ?_
      refine nil_ok (wp_cond_true (hS.eval rfl) (reg_seq ?_))
      refine sI hS (runs_move rfl) fun _ hS => ?_
      refine sI hS (runs_assign rfl) fun _ hS => ?_
      refine nil_ok (qx_seq (qx_seq (reg_seq ?_)))
      refine sI hS (runs_move rfl) fun _ hS => ?_
      have hfv : foldV (kindL tg.data.toList) x y = x := by rw [hk2]; first | (simp [foldV]; done) | (simp [foldV]; omega)
      by_cases h3 : great x = true
      · skip
        refine sI hS (runs_call (args := [.int .i64 x]) goes52 rfl (rgreat_is w h3)) fun _ hS => ?_
        refine nil_ok (wp_cond_true (hS.eval rfl) (qx_seq (reg_seq ?_)))
        refine sI hS (runs_assign rfl) fun _ hS => ?_
        refine sI hS (runs_assign rfl) fun _ hS => ?_
        exact nil_ok (qx_ret (ret2 (t := 6) (u := 7) (by kernel_rfl) hS rfl rfl ⟨_, rfl, by unfold foldL; rw [if_neg hk]; rw [hfv]; first | (simp [h1, h2]; done) | exact absurd h3 h1 | exact absurd h3 h2, rfl⟩))
      refine sI hS (runs_call (args := [.int .i64 x]) goes52 rfl (rgreat_is w (Bool.eq_false_iff.2 h3))) fun _ hS => ?_
      refine nil_ok (wp_cond_false (hS.eval rfl) (wp_skip (qx_seq (reg_seq ?_))))
      refine sI hS (runs_move rfl) fun _ hS => ?_
      refine sI hS (runs_assign rfl) fun _ hS => ?_
      refine sI hS (runs_assign rfl) fun _ hS => ?_
      exact nil_ok (qx_ret (ret2 (t := 6) (u := 7) (by kernel_rfl) hS rfl rfl ⟨_, rfl, by unfold foldL; rw [if_neg hk]; rw [hfv]; first | (simp [h1, h2]; done) | exact absurd h3 h1 | exact absurd h3 h2, rfl⟩))
    refine sY hS (leqF rfl rfl (by omega)) fun _ hS => ?_
    refine sY hS (runs_pick rfl rfl) fun _ hS => ?_
    refine sI hS (runs_pick rfl rfl) fun _ hS => ?_
    refine nil_ok (wp_cond_false (hS.eval rfl) (qx_seq (reg_seq ?_)))
    refine sI hS (runs_move rfl) fun _ hS => ?_
    refine sI hS (eqS1 rfl rfl hk2) fun _ hS => ?_
    refine sI hS (runs_move rfl) fun _ hS => ?_
    refine sY hS (runs_move rfl) fun _ hS => ?_
    refine sY hS (eqS2 rfl rfl hk2) fun _ hS => ?_
    refine sI hS (runs_pick rfl rfl) fun _ hS => ?_
    refine sI hS (runs_move rfl) fun _ hS => ?_
    refine sY hS (runs_move rfl) fun _ hS => ?_
    refine sY hS (eqS3 rfl rfl hk2) fun _ hS => ?_
    refine sI hS (runs_pick rfl rfl) fun _ hS => ?_
    refine sI hS (runs_move rfl) fun _ hS => ?_
    refine sY hS (runs_move rfl) fun _ hS => ?_
    refine sY hS (eqS4 rfl rfl hk2) fun _ hS => ?_
    refine sI hS (runs_pick rfl rfl) fun _ hS => ?_
    refine nil_ok (wp_cond_true (hS.eval rfl) (reg_seq ?_))
    refine sI hS (runs_move rfl) fun _ hS => ?_
    refine sI hS (runs_assign rfl) fun _ hS => ?_
    refine nil_ok (qx_seq (qx_seq (reg_seq ?_)))
    refine sI hS (runs_move rfl) fun _ hS => ?_
    have hfv : foldV (kindL tg.data.toList) x y = y := by rw [hk2]; first | (simp [foldV]; done) | (simp [foldV]; omega)
    by_cases h3 : great y = true
    · skip
      refine sI hS (runs_call (args := [.int .i64 y]) goes52 rfl (rgreat_is w h3)) fun _ hS => ?_
      refine nil_ok (wp_cond_true (hS.eval rfl) (qx_seq (reg_seq ?_)))
      refine sI hS (runs_assign rfl) fun _ hS => ?_
      refine sI hS (runs_assign rfl) fun _ hS => ?_
      exact nil_ok (qx_ret (ret2 (t := 6) (u := 7) (by kernel_rfl) hS rfl rfl ⟨_, rfl, by unfold foldL; rw [if_neg hk]; rw [hfv]; first | (simp [h1, h2]; done) | exact absurd h3 h1 | exact absurd h3 h2, rfl⟩))
    refine sI hS (runs_call (args := [.int .i64 y]) goes52 rfl (rgreat_is w (Bool.eq_false_iff.2 h3))) fun _ hS => ?_
    refine nil_ok (wp_cond_false (hS.eval rfl) (wp_skip (qx_seq (reg_seq ?_))))
    refine sI hS (runs_move rfl) fun _ hS => ?_
    refine sI hS (runs_assign rfl) fun _ hS => ?_
    refine sI hS (runs_assign rfl) fun _ hS => ?_
    exact nil_ok (qx_ret (ret2 (t := 6) (u := 7) (by kernel_rfl) hS rfl rfl ⟨_, rfl, by unfold foldL; rw [if_neg hk]; rw [hfv]; first | (simp [h1, h2]; done) | exact absurd h3 h1 | exact absurd h3 h2, rfl⟩))
  · skip
    refine reg_seq ?_
    refine sI hS (runs_move rfl) fun _ hS => ?_
    refine sI hS (eqS1 rfl rfl hk2) fun _ hS => ?_
    refine sI hS (runs_move rfl) fun _ hS => ?_
    refine sN hS fun _ hS => ?_
    refine sN hS fun _ hS => ?_
    refine sN hS fun _ hS => ?_
    refine sI hS (runs_pick rfl rfl) fun _ hS => ?_
    refine sI hS (runs_move rfl) fun _ hS => ?_
    refine sY hS (runs_move rfl) fun _ hS => ?_
    refine sY hS (eqS2 rfl rfl hk2) fun _ hS => ?_
    refine sY hS (runs_move rfl) fun _ hS => ?_
    refine sY hS (runs_move rfl) fun _ hS => ?_
    refine sY hS (eqS3 rfl rfl hk2) fun _ hS => ?_
    refine sY hS (runs_pick rfl rfl) fun _ hS => ?_
    refine sY hS (runs_move rfl) fun _ hS => ?_
    refine sY hS (runs_move rfl) fun _ hS => ?_
    refine sY hS (eqS4 rfl rfl hk2) fun _ hS => ?_
    refine sY hS (runs_pick rfl rfl) fun _ hS => ?_
    refine sY hS (runs_move rfl) fun _ hS => ?_
    refine sN hS fun _ hS => ?_
    refine sN hS fun _ hS => ?_
    refine sN hS fun _ hS => ?_
    refine sY hS (runs_pick rfl rfl) fun _ hS => ?_
    refine sI hS (runs_pick rfl rfl) fun _ hS => ?_
    refine nil_ok (wp_cond_false (hS.eval rfl) (qx_seq (reg_seq ?_)))
    refine sI hS (runs_move rfl) fun _ hS => ?_
    refine sI hS (eqS1 rfl rfl hk2) fun _ hS => ?_
    refine sI hS (runs_move rfl) fun _ hS => ?_
    refine sY hS (runs_move rfl) fun _ hS => ?_
    refine sY hS (eqS2 rfl rfl hk2) fun _ hS => ?_
    refine sI hS (runs_pick rfl rfl) fun _ hS => ?_
    refine sI hS (runs_move rfl) fun _ hS => ?_
    refine sY hS (runs_move rfl) fun _ hS => ?_
    refine sY hS (eqS3 rfl rfl hk2) fun _ hS => ?_
    refine sI hS (runs_pick rfl rfl) fun _ hS => ?_
    refine sI hS (runs_move rfl) fun _ hS => ?_
    refine sY hS (runs_move rfl) fun _ hS => ?_
    refine sY hS (eqS4 rfl rfl hk2) fun _ hS => ?_
    refine sI hS (runs_pick rfl rfl) fun _ hS => ?_
    refine nil_ok (wp_cond_false (hS.eval rfl) (wp_skip (qx_seq (qx_seq (reg_seq ?_)))))
    refine sI hS (runs_move rfl) fun _ hS => ?_
    have hfv : foldV (kindL tg.data.toList) x y = (x + y) := by rw [hk2]; first | (simp [foldV]; done) | (simp [foldV]; omega)
    by_cases h3 : great (x + y) = true
    · skip
      refine sI hS (runs_call (args := [.int .i64 (x + y)]) goes52 rfl (rgreat_is w h3)) fun _ hS => ?_
      refine nil_ok (wp_cond_true (hS.eval rfl) (qx_seq (reg_seq ?_)))
      refine sI hS (runs_assign rfl) fun _ hS => ?_
      refine sI hS (runs_assign rfl) fun _ hS => ?_
      exact nil_ok (qx_ret (ret2 (t := 6) (u := 7) (by kernel_rfl) hS rfl rfl ⟨_, rfl, by unfold foldL; rw [if_neg hk]; rw [hfv]; first | (simp [h1, h2, h3]; done) | exact absurd h3 h1 | exact absurd h3 h2, rfl⟩))
    refine sI hS (runs_call (args := [.int .i64 (x + y)]) goes52 rfl (rgreat_is w (Bool.eq_false_iff.2 h3))) fun _ hS => ?_
    refine nil_ok (wp_cond_false (hS.eval rfl) (wp_skip (qx_seq (reg_seq ?_))))
    refine sI hS (runs_move rfl) fun _ hS => ?_
    refine sI hS (runs_assign rfl) fun _ hS => ?_
    refine sI hS (runs_assign rfl) fun _ hS => ?_
    exact nil_ok (qx_ret (ret2 (t := 6) (u := 7) (by kernel_rfl) hS rfl rfl ⟨_, rfl, by unfold foldL; rw [if_neg hk]; rw [hfv]; first | (simp [h1, h2, h3]; done) | exact absurd h3 h1 | exact absurd h3 h2, rfl⟩))
  · skip
    refine reg_seq ?_
    refine sI hS (runs_move rfl) fun _ hS => ?_
    refine sI hS (eqS1 rfl rfl hk2) fun _ hS => ?_
    refine sI hS (runs_move rfl) fun _ hS => ?_
    refine sN hS fun _ hS => ?_
    refine sN hS fun _ hS => ?_
    refine sN hS fun _ hS => ?_
    refine sI hS (runs_pick rfl rfl) fun _ hS => ?_
    refine sI hS (runs_move rfl) fun _ hS => ?_
    refine sY hS (runs_move rfl) fun _ hS => ?_
    refine sY hS (eqS2 rfl rfl hk2) fun _ hS => ?_
    refine sY hS (runs_move rfl) fun _ hS => ?_
    refine sY hS (runs_move rfl) fun _ hS => ?_
    refine sY hS (eqS3 rfl rfl hk2) fun _ hS => ?_
    refine sY hS (runs_pick rfl rfl) fun _ hS => ?_
    refine sY hS (runs_move rfl) fun _ hS => ?_
    refine sY hS (runs_move rfl) fun _ hS => ?_
    refine sY hS (eqS4 rfl rfl hk2) fun _ hS => ?_
    refine sY hS (runs_pick rfl rfl) fun _ hS => ?_
    refine sY hS (runs_move rfl) fun _ hS => ?_
    refine sN hS fun _ hS => ?_
    refine sN hS fun _ hS => ?_
    refine sN hS fun _ hS => ?_
    refine sY hS (runs_pick rfl rfl) fun _ hS => ?_
    refine sI hS (runs_pick rfl rfl) fun _ hS => ?_
    refine nil_ok (wp_cond_false (hS.eval rfl) (qx_seq (reg_seq ?_)))
    refine sI hS (runs_move rfl) fun _ hS => ?_
    refine sI hS (eqS1 rfl rfl hk2) fun _ hS => ?_
    refine sI hS (runs_move rfl) fun _ hS => ?_
    refine sY hS (runs_move rfl) fun _ hS => ?_
    refine sY hS (eqS2 rfl rfl hk2) fun _ hS => ?_
    refine sI hS (runs_pick rfl rfl) fun _ hS => ?_
    refine sI hS (runs_move rfl) fun _ hS => ?_
    refine sY hS (runs_move rfl) fun _ hS => ?_
    refine sY hS (eqS3 rfl rfl hk2) fun _ hS => ?_
    refine sI hS (runs_pick rfl rfl) fun _ hS => ?_
    refine sI hS (runs_move rfl) fun _ hS => ?_
    refine sY hS (runs_move rfl) fun _ hS => ?_
    refine sY hS (eqS4 rfl rfl hk2) fun _ hS => ?_
    refine sI hS (runs_pick rfl rfl) fun _ hS => ?_
    refine nil_ok (wp_cond_false (hS.eval rfl) (wp_skip (qx_seq (qx_seq (reg_seq ?_)))))
    refine sI hS (runs_move rfl) fun _ hS => ?_
    have hfv : foldV (kindL tg.data.toList) x y = (x + y) := by rw [hk2]; first | (simp [foldV]; done) | (simp [foldV]; omega)
    by_cases h3 : great (x + y) = true
    · skip
      refine sI hS (runs_call (args := [.int .i64 (x + y)]) goes52 rfl (rgreat_is w h3)) fun _ hS => ?_
      refine nil_ok (wp_cond_true (hS.eval rfl) (qx_seq (reg_seq ?_)))
      refine sI hS (runs_assign rfl) fun _ hS => ?_
      refine sI hS (runs_assign rfl) fun _ hS => ?_
      exact nil_ok (qx_ret (ret2 (t := 6) (u := 7) (by kernel_rfl) hS rfl rfl ⟨_, rfl, by unfold foldL; rw [if_neg hk]; rw [hfv]; first | (simp [h1, h2, h3]; done) | exact absurd h3 h1 | exact absurd h3 h2, rfl⟩))
    refine sI hS (runs_call (args := [.int .i64 (x + y)]) goes52 rfl (rgreat_is w (Bool.eq_false_iff.2 h3))) fun _ hS => ?_
    refine nil_ok (wp_cond_false (hS.eval rfl) (wp_skip (qx_seq (reg_seq ?_))))
    refine sI hS (runs_move rfl) fun _ hS => ?_
    refine sI hS (runs_assign rfl) fun _ hS => ?_
    refine sI hS (runs_assign rfl) fun _ hS => ?_
    exact nil_ok (qx_ret (ret2 (t := 6) (u := 7) (by kernel_rfl) hS rfl rfl ⟨_, rfl, by unfold foldL; rw [if_neg hk]; rw [hfv]; first | (simp [h1, h2, h3]; done) | exact absurd h3 h1 | exact absurd h3 h2, rfl⟩))
  refine reg_seq ?_
  refine sI hS (runs_move rfl) fun _ hS => ?_
  refine sI hS (eqS1 rfl rfl hk2) fun _ hS => ?_
  refine sI hS (runs_move rfl) fun _ hS => ?_
  refine sN hS fun _ hS => ?_
  refine sN hS fun _ hS => ?_
  refine sN hS fun _ hS => ?_
  refine sI hS (runs_pick rfl rfl) fun _ hS => ?_
  refine sI hS (runs_move rfl) fun _ hS => ?_
  refine sY hS (runs_move rfl) fun _ hS => ?_
  refine sY hS (eqS2 rfl rfl hk2) fun _ hS => ?_
  refine sY hS (runs_move rfl) fun _ hS => ?_
  refine sY hS (runs_move rfl) fun _ hS => ?_
  refine sY hS (eqS3 rfl rfl hk2) fun _ hS => ?_
  refine sY hS (runs_pick rfl rfl) fun _ hS => ?_
  refine sY hS (runs_move rfl) fun _ hS => ?_
  refine sY hS (runs_move rfl) fun _ hS => ?_
  refine sY hS (eqS4 rfl rfl hk2) fun _ hS => ?_
  refine sY hS (runs_pick rfl rfl) fun _ hS => ?_
  refine sY hS (runs_move rfl) fun _ hS => ?_
  refine sN hS fun _ hS => ?_
  refine sN hS fun _ hS => ?_
  refine sN hS fun _ hS => ?_
  refine sY hS (runs_pick rfl rfl) fun _ hS => ?_
  refine sI hS (runs_pick rfl rfl) fun _ hS => ?_
  refine nil_ok (wp_cond_false (hS.eval rfl) (qx_seq (reg_seq ?_)))
  refine sI hS (runs_move rfl) fun _ hS => ?_
  refine sI hS (eqS1 rfl rfl hk2) fun _ hS => ?_
  refine sI hS (runs_move rfl) fun _ hS => ?_
  refine sY hS (runs_move rfl) fun _ hS => ?_
  refine sY hS (eqS2 rfl rfl hk2) fun _ hS => ?_
  refine sI hS (runs_pick rfl rfl) fun _ hS => ?_
  refine sI hS (runs_move rfl) fun _ hS => ?_
  refine sY hS (runs_move rfl) fun _ hS => ?_
  refine sY hS (eqS3 rfl rfl hk2) fun _ hS => ?_
  refine sI hS (runs_pick rfl rfl) fun _ hS => ?_
  refine sI hS (runs_move rfl) fun _ hS => ?_
  refine sY hS (runs_move rfl) fun _ hS => ?_
  refine sY hS (eqS4 rfl rfl hk2) fun _ hS => ?_
  refine sI hS (runs_pick rfl rfl) fun _ hS => ?_
  refine nil_ok (wp_cond_false (hS.eval rfl) (wp_skip (qx_seq (qx_seq (reg_seq ?_)))))
  refine sI hS (runs_move rfl) fun _ hS => ?_
  have hfv : foldV (kindL tg.data.toList) x y = (x + y) := by rw [hk2]; first | (simp [foldV]; done) | (simp [foldV]; omega)
  by_cases h3 : great (x + y) = true
  · skip
    refine sI hS (runs_call (args := [.int .i64 (x + y)]) goes52 rfl (rgreat_is w h3)) fun _ hS => ?_
    refine nil_ok (wp_cond_true (hS.eval rfl) (qx_seq (reg_seq ?_)))
    refine sI hS (runs_assign rfl) fun _ hS => ?_
    refine sI hS (runs_assign rfl) fun _ hS => ?_
    exact nil_ok (qx_ret (ret2 (t := 6) (u := 7) (by kernel_rfl) hS rfl rfl ⟨_, rfl, by unfold foldL; rw [if_neg hk]; rw [hfv]; first | (simp [h1, h2, h3]; done) | exact absurd h3 h1 | exact absurd h3 h2, rfl⟩))
  refine sI hS (runs_call (args := [.int .i64 (x + y)]) goes52 rfl (rgreat_is w (Bool.eq_false_iff.2 h3))) fun _ hS => ?_
  refine nil_ok (wp_cond_false (hS.eval rfl) (wp_skip (qx_seq (reg_seq ?_))))
  refine sI hS (runs_move rfl) fun _ hS => ?_
  refine sI hS (runs_assign rfl) fun _ hS => ?_
  refine sI hS (runs_assign rfl) fun _ hS => ?_
  exact nil_ok (qx_ret (ret2 (t := 6) (u := 7) (by kernel_rfl) hS rfl rfl ⟨_, rfl, by unfold foldL; rw [if_neg hk]; rw [hfv]; first | (simp [h1, h2, h3]; done) | exact absurd h3 h1 | exact absurd h3 h2, rfl⟩))
set_option maxHeartbeats 1000000 in
theorem firstv_any (tg : ByteArray) (src steps v : Int) (hv0 : 0 ≤ v) (hv1 : v ≤ 1048576) (w : World) : Ans 59 [jv tg src steps, .int .i64 v] w (fun u w' => u = .int .i64 (firstV (kindL tg.data.toList) src v) ∧ Below w.heap.size w w') := by
  rcases kind_cases tg.data.toList with hk | hk | hk | hk | hk | hk | hk | hk
  · skip
    refine calls_qx (args := [.agg (jc tg src steps).toArray, .int .i64 v]) 27 Tryz.func59 rfl (by kernel_rfl) (by simp) (fun a hS => ?_)
    have hB := Below.refl w.heap.size w
    refine qx_seq (reg_seq ?_)
    refine seq_op hS (by decide) (runs_boxB (cs := jc tg src steps) rfl rfl) (fun v1 w1 a1 hp hS => ?_)
    obtain ⟨rfl, hM1, hB1⟩ := hp
    have hB := hB.trans (hB1.mono hB.size)
    refine sI hS (runs_assign rfl) fun _ hS => ?_
    refine nil_ok (qx_seq (qx_seq (reg_seq ?_)))
    refine sI hS (runs_fieldK fo26_0 rfl) fun _ hS => ?_
    refine sI hS (runs_load rfl pl9 (hM1.at rfl)) fun _ hS => ?_
    refine nil_ok (qx_block (qx_seq (reg_seq ?_)))
    refine sI hS (eqS1 rfl rfl hk) fun _ hS => ?_
    refine sI hS (runs_assign rfl) fun _ hS => ?_
    refine nil_ok (wp_cond_false (hS.eval rfl) (qx_seq (reg_seq ?_)))
    refine sI hS (eqS2 rfl rfl hk) fun _ hS => ?_
    refine sI hS (runs_assign rfl) fun _ hS => ?_
    refine nil_ok (wp_cond_false (hS.eval rfl) (qx_seq (qx_seq (reg_seq ?_))))
    refine sI hS (eqS3 rfl rfl hk) fun _ hS => ?_
    refine sI hS (runs_assign rfl) fun _ hS => ?_
    refine nil_ok (wp_cond_false (hS.eval rfl) (reg_seq ?_))
    refine sI hS (eqS4 rfl rfl hk) fun _ hS => ?_
    refine sI hS (runs_assign rfl) fun _ hS => ?_
    refine nil_ok (wp_cond_false (hS.eval rfl) (qx_seq (reg_seq ?_)))
    refine sI hS (eqS6 rfl rfl hk) fun _ hS => ?_
    refine sI hS (runs_assign rfl) fun _ hS => ?_
    refine nil_ok (wp_cond_false (hS.eval rfl) (qx_seq (reg_seq ?_)))
    refine sI hS (eqS7 rfl rfl hk) fun _ hS => ?_
    refine sI hS (runs_assign rfl) fun _ hS => ?_
    refine nil_ok (wp_cond_false (hS.eval rfl) (wp_skip (qx_seq (reg_seq ?_))))
    refine sI hS (runs_assign rfl) fun _ hS => ?_
    exact nil_ok (qx_ret (ret1 (t := 4) (by kernel_rfl) hS rfl ⟨_, rfl, by rw [hk]; simp [firstV], hB⟩))
  · skip
    refine calls_qx (args := [.agg (jc tg src steps).toArray, .int .i64 v]) 27 Tryz.func59 rfl (by kernel_rfl) (by simp) (fun a hS => ?_)
    have hB := Below.refl w.heap.size w
    refine qx_seq (reg_seq ?_)
    refine seq_op hS (by decide) (runs_boxB (cs := jc tg src steps) rfl rfl) (fun v1 w1 a1 hp hS => ?_)
    obtain ⟨rfl, hM1, hB1⟩ := hp
    have hB := hB.trans (hB1.mono hB.size)
    refine sI hS (runs_assign rfl) fun _ hS => ?_
    refine nil_ok (qx_seq (qx_seq (reg_seq ?_)))
    refine sI hS (runs_fieldK fo26_0 rfl) fun _ hS => ?_
    refine sI hS (runs_load rfl pl9 (hM1.at rfl)) fun _ hS => ?_
    refine nil_ok (qx_block (qx_seq (reg_seq ?_)))
    refine sI hS (eqS1 rfl rfl hk) fun _ hS => ?_
    refine sI hS (runs_assign rfl) fun _ hS => ?_
    refine nil_ok (wp_cond_true (hS.eval rfl) (qx_seq (reg_seq ?_)))
    refine sI hS (runs_move rfl) fun _ hS => ?_
    refine sI hS (runs_mul rfl rfl (wrap64 (by omega) (by omega))) fun _ hS => ?_
    refine sI hS (runs_add rfl rfl (wrap64 (by omega) (by omega))) fun _ hS => ?_
    refine sI hS (runs_and rfl rfl (and63 _)) fun _ hS => ?_
    refine sI hS (runs_assign rfl) fun _ hS => ?_
    exact nil_ok (qx_ret (ret1 (t := 4) (by kernel_rfl) hS rfl ⟨_, rfl, by rw [hk]; simp [firstV], hB⟩))
  · skip
    refine calls_qx (args := [.agg (jc tg src steps).toArray, .int .i64 v]) 27 Tryz.func59 rfl (by kernel_rfl) (by simp) (fun a hS => ?_)
    have hB := Below.refl w.heap.size w
    refine qx_seq (reg_seq ?_)
    refine seq_op hS (by decide) (runs_boxB (cs := jc tg src steps) rfl rfl) (fun v1 w1 a1 hp hS => ?_)
    obtain ⟨rfl, hM1, hB1⟩ := hp
    have hB := hB.trans (hB1.mono hB.size)
    refine sI hS (runs_assign rfl) fun _ hS => ?_
    refine nil_ok (qx_seq (qx_seq (reg_seq ?_)))
    refine sI hS (runs_fieldK fo26_0 rfl) fun _ hS => ?_
    refine sI hS (runs_load rfl pl9 (hM1.at rfl)) fun _ hS => ?_
    refine nil_ok (qx_block (qx_seq (reg_seq ?_)))
    refine sI hS (eqS1 rfl rfl hk) fun _ hS => ?_
    refine sI hS (runs_assign rfl) fun _ hS => ?_
    refine nil_ok (wp_cond_false (hS.eval rfl) (qx_seq (reg_seq ?_)))
    refine sI hS (eqS2 rfl rfl hk) fun _ hS => ?_
    refine sI hS (runs_assign rfl) fun _ hS => ?_
    refine nil_ok (wp_cond_true (hS.eval rfl) (qx_seq (reg_seq ?_)))
    refine sI hS (runs_move rfl) fun _ hS => ?_
    refine sI hS (runs_assign rfl) fun _ hS => ?_
    exact nil_ok (qx_ret (ret1 (t := 4) (by kernel_rfl) hS rfl ⟨_, rfl, by rw [hk]; simp [firstV], hB⟩))
  · skip
    refine calls_qx (args := [.agg (jc tg src steps).toArray, .int .i64 v]) 27 Tryz.func59 rfl (by kernel_rfl) (by simp) (fun a hS => ?_)
    have hB := Below.refl w.heap.size w
    refine qx_seq (reg_seq ?_)
    refine seq_op hS (by decide) (runs_boxB (cs := jc tg src steps) rfl rfl) (fun v1 w1 a1 hp hS => ?_)
    obtain ⟨rfl, hM1, hB1⟩ := hp
    have hB := hB.trans (hB1.mono hB.size)
    refine sI hS (runs_assign rfl) fun _ hS => ?_
    refine nil_ok (qx_seq (qx_seq (reg_seq ?_)))
    refine sI hS (runs_fieldK fo26_0 rfl) fun _ hS => ?_
    refine sI hS (runs_load rfl pl9 (hM1.at rfl)) fun _ hS => ?_
    refine nil_ok (qx_block (qx_seq (reg_seq ?_)))
    refine sI hS (eqS1 rfl rfl hk) fun _ hS => ?_
    refine sI hS (runs_assign rfl) fun _ hS => ?_
    refine nil_ok (wp_cond_false (hS.eval rfl) (qx_seq (reg_seq ?_)))
    refine sI hS (eqS2 rfl rfl hk) fun _ hS => ?_
    refine sI hS (runs_assign rfl) fun _ hS => ?_
    refine nil_ok (wp_cond_false (hS.eval rfl) (qx_seq (qx_seq (reg_seq ?_))))
    refine sI hS (eqS3 rfl rfl hk) fun _ hS => ?_
    refine sI hS (runs_assign rfl) fun _ hS => ?_
    refine nil_ok (wp_cond_true (hS.eval rfl) (wp_skip (wp_cond_true (hS.eval rfl) (qx_seq (reg_seq ?_)))))
    refine sI hS (runs_move rfl) fun _ hS => ?_
    refine sI hS (runs_fieldK fo26_1 rfl) fun _ hS => ?_
    refine sI hS (runs_load rfl pl3 (hM1.at rfl)) fun _ hS => ?_
    by_cases h1 : v ≠ src
    · skip
      refine sI hS (runs_neq (r := true) rfl rfl (by simpa using h1)) fun _ hS => ?_
      refine nil_ok (wp_cond_true (hS.eval rfl) (qx_seq (reg_seq ?_)))
      refine sI hS (runs_assign rfl) fun _ hS => ?_
      exact nil_ok (qx_ret (ret1 (t := 4) (by kernel_rfl) hS rfl ⟨_, rfl, by rw [hk]; simp [firstV, h1], hB⟩))
    refine sI hS (runs_neq (r := false) rfl rfl (by simpa using h1)) fun _ hS => ?_
    refine nil_ok (wp_cond_false (hS.eval rfl) (wp_skip (qx_seq (reg_seq ?_))))
    refine sI hS (runs_assign rfl) fun _ hS => ?_
    exact nil_ok (qx_ret (ret1 (t := 4) (by kernel_rfl) hS rfl ⟨_, rfl, by rw [hk]; simp [firstV, h1], hB⟩))
  · skip
    refine calls_qx (args := [.agg (jc tg src steps).toArray, .int .i64 v]) 27 Tryz.func59 rfl (by kernel_rfl) (by simp) (fun a hS => ?_)
    have hB := Below.refl w.heap.size w
    refine qx_seq (reg_seq ?_)
    refine seq_op hS (by decide) (runs_boxB (cs := jc tg src steps) rfl rfl) (fun v1 w1 a1 hp hS => ?_)
    obtain ⟨rfl, hM1, hB1⟩ := hp
    have hB := hB.trans (hB1.mono hB.size)
    refine sI hS (runs_assign rfl) fun _ hS => ?_
    refine nil_ok (qx_seq (qx_seq (reg_seq ?_)))
    refine sI hS (runs_fieldK fo26_0 rfl) fun _ hS => ?_
    refine sI hS (runs_load rfl pl9 (hM1.at rfl)) fun _ hS => ?_
    refine nil_ok (qx_block (qx_seq (reg_seq ?_)))
    refine sI hS (eqS1 rfl rfl hk) fun _ hS => ?_
    refine sI hS (runs_assign rfl) fun _ hS => ?_
    refine nil_ok (wp_cond_false (hS.eval rfl) (qx_seq (reg_seq ?_)))
    refine sI hS (eqS2 rfl rfl hk) fun _ hS => ?_
    refine sI hS (runs_assign rfl) fun _ hS => ?_
    refine nil_ok (wp_cond_false (hS.eval rfl) (qx_seq (qx_seq (reg_seq ?_))))
    refine sI hS (eqS3 rfl rfl hk) fun _ hS => ?_
    refine sI hS (runs_assign rfl) fun _ hS => ?_
    refine nil_ok (wp_cond_false (hS.eval rfl) (reg_seq ?_))
    refine sI hS (eqS4 rfl rfl hk) fun _ hS => ?_
    refine sI hS (runs_assign rfl) fun _ hS => ?_
    refine nil_ok (wp_cond_true (hS.eval rfl) (qx_seq (reg_seq ?_)))
    refine sI hS (runs_move rfl) fun _ hS => ?_
    refine sI hS (runs_fieldK fo26_1 rfl) fun _ hS => ?_
    refine sI hS (runs_load rfl pl3 (hM1.at rfl)) fun _ hS => ?_
    by_cases h1 : v ≠ src
    · skip
      refine sI hS (runs_neq (r := true) rfl rfl (by simpa using h1)) fun _ hS => ?_
      refine nil_ok (wp_cond_true (hS.eval rfl) (qx_seq (reg_seq ?_)))
      refine sI hS (runs_assign rfl) fun _ hS => ?_
      exact nil_ok (qx_ret (ret1 (t := 4) (by kernel_rfl) hS rfl ⟨_, rfl, by rw [hk]; simp [firstV, h1], hB⟩))
    refine sI hS (runs_neq (r := false) rfl rfl (by simpa using h1)) fun _ hS => ?_
    refine nil_ok (wp_cond_false (hS.eval rfl) (wp_skip (qx_seq (reg_seq ?_))))
    refine sI hS (runs_assign rfl) fun _ hS => ?_
    exact nil_ok (qx_ret (ret1 (t := 4) (by kernel_rfl) hS rfl ⟨_, rfl, by rw [hk]; simp [firstV, h1], hB⟩))
  · skip
    refine calls_qx (args := [.agg (jc tg src steps).toArray, .int .i64 v]) 27 Tryz.func59 rfl (by kernel_rfl) (by simp) (fun a hS => ?_)
    have hB := Below.refl w.heap.size w
    refine qx_seq (reg_seq ?_)
    refine seq_op hS (by decide) (runs_boxB (cs := jc tg src steps) rfl rfl) (fun v1 w1 a1 hp hS => ?_)
    obtain ⟨rfl, hM1, hB1⟩ := hp
    have hB := hB.trans (hB1.mono hB.size)
    refine sI hS (runs_assign rfl) fun _ hS => ?_
    refine nil_ok (qx_seq (qx_seq (reg_seq ?_)))
    refine sI hS (runs_fieldK fo26_0 rfl) fun _ hS => ?_
    refine sI hS (runs_load rfl pl9 (hM1.at rfl)) fun _ hS => ?_
    refine nil_ok (qx_block (qx_seq (reg_seq ?_)))
    refine sI hS (eqS1 rfl rfl hk) fun _ hS => ?_
    refine sI hS (runs_assign rfl) fun _ hS => ?_
    refine nil_ok (wp_cond_false (hS.eval rfl) (qx_seq (reg_seq ?_)))
    refine sI hS (eqS2 rfl rfl hk) fun _ hS => ?_
    refine sI hS (runs_assign rfl) fun _ hS => ?_
    refine nil_ok (wp_cond_false (hS.eval rfl) (qx_seq (qx_seq (reg_seq ?_))))
    refine sI hS (eqS3 rfl rfl hk) fun _ hS => ?_
    refine sI hS (runs_assign rfl) fun _ hS => ?_
    refine nil_ok (wp_cond_false (hS.eval rfl) (reg_seq ?_))
    refine sI hS (eqS4 rfl rfl hk) fun _ hS => ?_
    refine sI hS (runs_assign rfl) fun _ hS => ?_
    refine nil_ok (wp_cond_false (hS.eval rfl) (qx_seq (reg_seq ?_)))
    refine sI hS (eqS6 rfl rfl hk) fun _ hS => ?_
    refine sI hS (runs_assign rfl) fun _ hS => ?_
    refine nil_ok (wp_cond_false (hS.eval rfl) (qx_seq (reg_seq ?_)))
    refine sI hS (eqS7 rfl rfl hk) fun _ hS => ?_
    refine sI hS (runs_assign rfl) fun _ hS => ?_
    refine nil_ok (wp_cond_false (hS.eval rfl) (wp_skip (qx_seq (reg_seq ?_))))
    refine sI hS (runs_assign rfl) fun _ hS => ?_
    exact nil_ok (qx_ret (ret1 (t := 4) (by kernel_rfl) hS rfl ⟨_, rfl, by rw [hk]; simp [firstV], hB⟩))
  · skip
    refine calls_qx (args := [.agg (jc tg src steps).toArray, .int .i64 v]) 27 Tryz.func59 rfl (by kernel_rfl) (by simp) (fun a hS => ?_)
    have hB := Below.refl w.heap.size w
    refine qx_seq (reg_seq ?_)
    refine seq_op hS (by decide) (runs_boxB (cs := jc tg src steps) rfl rfl) (fun v1 w1 a1 hp hS => ?_)
    obtain ⟨rfl, hM1, hB1⟩ := hp
    have hB := hB.trans (hB1.mono hB.size)
    refine sI hS (runs_assign rfl) fun _ hS => ?_
    refine nil_ok (qx_seq (qx_seq (reg_seq ?_)))
    refine sI hS (runs_fieldK fo26_0 rfl) fun _ hS => ?_
    refine sI hS (runs_load rfl pl9 (hM1.at rfl)) fun _ hS => ?_
    refine nil_ok (qx_block (qx_seq (reg_seq ?_)))
    refine sI hS (eqS1 rfl rfl hk) fun _ hS => ?_
    refine sI hS (runs_assign rfl) fun _ hS => ?_
    refine nil_ok (wp_cond_false (hS.eval rfl) (qx_seq (reg_seq ?_)))
    refine sI hS (eqS2 rfl rfl hk) fun _ hS => ?_
    refine sI hS (runs_assign rfl) fun _ hS => ?_
    refine nil_ok (wp_cond_false (hS.eval rfl) (qx_seq (qx_seq (reg_seq ?_))))
    refine sI hS (eqS3 rfl rfl hk) fun _ hS => ?_
    refine sI hS (runs_assign rfl) fun _ hS => ?_
    refine nil_ok (wp_cond_false (hS.eval rfl) (reg_seq ?_))
    refine sI hS (eqS4 rfl rfl hk) fun _ hS => ?_
    refine sI hS (runs_assign rfl) fun _ hS => ?_
    refine nil_ok (wp_cond_false (hS.eval rfl) (qx_seq (reg_seq ?_)))
    refine sI hS (eqS6 rfl rfl hk) fun _ hS => ?_
    refine sI hS (runs_assign rfl) fun _ hS => ?_
    refine nil_ok (wp_cond_true (hS.eval rfl) (qx_seq (reg_seq ?_)))
    refine sI hS (runs_assign rfl) fun _ hS => ?_
    exact nil_ok (qx_ret (ret1 (t := 4) (by kernel_rfl) hS rfl ⟨_, rfl, by rw [hk]; simp [firstV], hB⟩))
  · skip
    refine calls_qx (args := [.agg (jc tg src steps).toArray, .int .i64 v]) 27 Tryz.func59 rfl (by kernel_rfl) (by simp) (fun a hS => ?_)
    have hB := Below.refl w.heap.size w
    refine qx_seq (reg_seq ?_)
    refine seq_op hS (by decide) (runs_boxB (cs := jc tg src steps) rfl rfl) (fun v1 w1 a1 hp hS => ?_)
    obtain ⟨rfl, hM1, hB1⟩ := hp
    have hB := hB.trans (hB1.mono hB.size)
    refine sI hS (runs_assign rfl) fun _ hS => ?_
    refine nil_ok (qx_seq (qx_seq (reg_seq ?_)))
    refine sI hS (runs_fieldK fo26_0 rfl) fun _ hS => ?_
    refine sI hS (runs_load rfl pl9 (hM1.at rfl)) fun _ hS => ?_
    refine nil_ok (qx_block (qx_seq (reg_seq ?_)))
    refine sI hS (eqS1 rfl rfl hk) fun _ hS => ?_
    refine sI hS (runs_assign rfl) fun _ hS => ?_
    refine nil_ok (wp_cond_false (hS.eval rfl) (qx_seq (reg_seq ?_)))
    refine sI hS (eqS2 rfl rfl hk) fun _ hS => ?_
    refine sI hS (runs_assign rfl) fun _ hS => ?_
    refine nil_ok (wp_cond_false (hS.eval rfl) (qx_seq (qx_seq (reg_seq ?_))))
    refine sI hS (eqS3 rfl rfl hk) fun _ hS => ?_
    refine sI hS (runs_assign rfl) fun _ hS => ?_
    refine nil_ok (wp_cond_false (hS.eval rfl) (reg_seq ?_))
    refine sI hS (eqS4 rfl rfl hk) fun _ hS => ?_
    refine sI hS (runs_assign rfl) fun _ hS => ?_
    refine nil_ok (wp_cond_false (hS.eval rfl) (qx_seq (reg_seq ?_)))
    refine sI hS (eqS6 rfl rfl hk) fun _ hS => ?_
    refine sI hS (runs_assign rfl) fun _ hS => ?_
    refine nil_ok (wp_cond_false (hS.eval rfl) (qx_seq (reg_seq ?_)))
    refine sI hS (eqS7 rfl rfl hk) fun _ hS => ?_
    refine sI hS (runs_assign rfl) fun _ hS => ?_
    refine nil_ok (wp_cond_true (hS.eval rfl) (qx_seq (reg_seq ?_)))
    refine sI hS (runs_assign rfl) fun _ hS => ?_
    exact nil_ok (qx_ret (ret1 (t := 4) (by kernel_rfl) hS rfl ⟨_, rfl, by rw [hk]; simp [firstV], hB⟩))
set_option maxHeartbeats 1000000 in
theorem first_any (tg : ByteArray) (src steps v : Int) (hv0 : 0 ≤ v) (hv1 : v ≤ 1048576) (w : World) : Ans 35 [jv tg src steps, .int .i64 v] w (fun u w' => u = vv (if kindL tg.data.toList = 0 then noVx else ⟨v, firstV (kindL tg.data.toList) src v, true, false, 0⟩) ∧ Below w.heap.size w w') := by
  by_cases hk : kindL tg.data.toList = 0
  · skip
    refine calls_qx (args := [.agg (jc tg src steps).toArray, .int .i64 v]) 15 Tryz.func35 rfl (by kernel_rfl) (by simp) (fun a hS => ?_)
    have hB := Below.refl w.heap.size w
    refine qx_seq (reg_seq ?_)
    refine seq_op hS (by decide) (runs_boxB (cs := jc tg src steps) rfl rfl) (fun v1 w1 a1 hp hS => ?_)
    obtain ⟨rfl, hM1, hB1⟩ := hp
    have hB := hB.trans (hB1.mono hB.size)
    refine seq_op hS (by decide) (runs_allocB (cs := [.int .i64 0, .int .i64 0, .bool false, .bool false, .int .i64 0]) zo28 rfl) (fun v3 w3 a1 hp hS => ?_)
    obtain ⟨rfl, hM3, hB3⟩ := hp
    have hLhM3 : w.heap.size ≤ w1.heap.size := hB.size
    have hB := hB.trans (hB3.mono hB.size)
    have hM1 := hM1.below hB3 hM1.lt
    refine nil_ok (qx_seq (qx_seq (reg_seq ?_)))
    refine sI hS (runs_fieldK fo26_0 rfl) fun _ hS => ?_
    refine sI hS (runs_load rfl pl9 (hM1.at rfl)) fun _ hS => ?_
    refine sI hS (runs_call (args := [.string tg]) goes40 rfl (known_is _ w3 (b := false) (by rw [hk]; rfl))) fun _ hS => ?_
    refine sI hS (runs_not (b := false) rfl) fun _ hS => ?_
    refine nil_ok (wp_cond_true (hS.eval rfl) (qx_seq (reg_seq ?_)))
    refine sI hS (runs_buildK (pv := []) (cells := #[.int .i64 0, .int .i64 0, .bool false, .bool false, .int .i64 0]) rfl (by kernel_rfl)) fun _ hS => ?_
    refine seq_none hS (runs_storeB (cs := [.int .i64 0, .int .i64 0, .bool false, .bool false, .int .i64 0]) rfl rfl hM3 rfl rfl sz28) (fun v5 w5 a1 hp hS => ?_)
    have hQ5 := hM3
    obtain ⟨hM3, hU5⟩ := hp
    have hB := But.new hB hU5 (fun i e => by rw [e]; exact hLhM3) (Nat.le_refl _)
    have hM1 := hM1.but hU5 (has_ne hM1 hQ5 (by decide))
    exact nil_ok (qx_ret (retRow (t := 0) (p := 4) (ty := 50) (by kernel_rfl) hS rfl hM3 rfl Tryz.underlying50 rfl (by rw [sz28]; rfl) ⟨_, rfl, by rw [if_pos hk]; try rfl, hB⟩))
  refine calls_qx (args := [.agg (jc tg src steps).toArray, .int .i64 v]) 15 Tryz.func35 rfl (by kernel_rfl) (by simp) (fun a hS => ?_)
  have hB := Below.refl w.heap.size w
  refine qx_seq (reg_seq ?_)
  refine seq_op hS (by decide) (runs_boxB (cs := jc tg src steps) rfl rfl) (fun v1 w1 a1 hp hS => ?_)
  obtain ⟨rfl, hM1, hB1⟩ := hp
  have hB := hB.trans (hB1.mono hB.size)
  refine seq_op hS (by decide) (runs_allocB (cs := [.int .i64 0, .int .i64 0, .bool false, .bool false, .int .i64 0]) zo28 rfl) (fun v3 w3 a1 hp hS => ?_)
  obtain ⟨rfl, hM3, hB3⟩ := hp
  have hLhM3 : w.heap.size ≤ w1.heap.size := hB.size
  have hB := hB.trans (hB3.mono hB.size)
  have hM1 := hM1.below hB3 hM1.lt
  refine nil_ok (qx_seq (qx_seq (reg_seq ?_)))
  refine sI hS (runs_fieldK fo26_0 rfl) fun _ hS => ?_
  refine sI hS (runs_load rfl pl9 (hM1.at rfl)) fun _ hS => ?_
  refine sI hS (runs_call (args := [.string tg]) goes40 rfl (known_is _ w3 (b := true) (by simpa using hk))) fun _ hS => ?_
  refine sI hS (runs_not (b := true) rfl) fun _ hS => ?_
  refine nil_ok (wp_cond_false (hS.eval rfl) (wp_skip (qx_seq (reg_seq ?_))))
  refine sI hS (runs_move rfl) fun _ hS => ?_
  refine sI hS (runs_loadRow rfl hM1 Tryz.underlying26 rfl (by rw [sz26]; rfl)) fun _ hS => ?_
  refine sI hS (runs_move rfl) fun _ hS => ?_
  refine seq_op hS (by decide) (runs_call (args := [.agg (jc tg src steps).toArray, .int .i64 v]) goes59 rfl (firstv_any tg src steps v hv0 hv1 w3)) (fun v5 w5 a1 hp hS => ?_)
  obtain ⟨rfl, hB5⟩ := hp
  have hB := hB.trans (hB5.mono hB.size)
  have hM3 := hM3.below hB5 hM3.lt
  refine sI hS (runs_buildK (pv := [(0, .int .i64 v), (1, .int .i64 (firstV (kindL tg.data.toList) src v)), (2, .bool true)]) (cells := #[.int .i64 v, .int .i64 (firstV (kindL tg.data.toList) src v), .bool true, .bool false, .int .i64 0]) rfl (by kernel_rfl)) fun _ hS => ?_
  refine seq_none hS (runs_storeB (cs := [.int .i64 v, .int .i64 (firstV (kindL tg.data.toList) src v), .bool true, .bool false, .int .i64 0]) rfl rfl hM3 rfl rfl sz28) (fun v7 w7 a1 hp hS => ?_)
  obtain ⟨hM3, hU7⟩ := hp
  have hB := But.new hB hU7 (fun i e => by rw [e]; exact hLhM3) (Nat.le_refl _)
  exact nil_ok (qx_ret (retRow (t := 0) (p := 4) (ty := 50) (by kernel_rfl) hS rfl hM3 rfl Tryz.underlying50 rfl (by rw [sz28]; rfl) ⟨_, rfl, by rw [if_neg hk]; try rfl, hB⟩))
set_option maxHeartbeats 1000000 in
theorem rfirst_any (tg : ByteArray) (src steps v : Int) (hv0 : 0 ≤ v) (hv1 : v ≤ 1048576) (w : World) : Ans 38 [jv tg src steps, .int .i64 v] w (fun u w' => u = vv (if kindL tg.data.toList = 0 then noVx else ⟨v, firstV (kindL tg.data.toList) src v, true, false, 0⟩) ∧ Below w.heap.size w w') := by
  by_cases hk : kindL tg.data.toList = 0
  · skip
    refine calls_qx (args := [.agg (jc tg src steps).toArray, .int .i64 v]) 56 Tryz.func38 rfl (by kernel_rfl) (by simp) (fun a hS => ?_)
    have hB := Below.refl w.heap.size w
    refine qx_seq (reg_seq ?_)
    refine seq_op hS (by decide) (runs_boxB (cs := jc tg src steps) rfl rfl) (fun v1 w1 a1 hp hS => ?_)
    obtain ⟨rfl, hM1, hB1⟩ := hp
    have hB := hB.trans (hB1.mono hB.size)
    refine seq_op hS (by decide) (runs_allocB (cs := [.int .i64 0, .int .i64 0, .bool false, .bool false, .int .i64 0]) zo28 rfl) (fun v3 w3 a1 hp hS => ?_)
    obtain ⟨rfl, hM3, hB3⟩ := hp
    have hLhM3 : w.heap.size ≤ w1.heap.size := hB.size
    have hB := hB.trans (hB3.mono hB.size)
    have hM1 := hM1.below hB3 hM1.lt
    refine nil_ok (qx_seq (reg_seq ?_))
    refine sI hS (runs_move rfl) fun _ hS => ?_
    refine sI hS (runs_buildK (pv := [(0, .int .i64 v), (2, .bool true)]) (cells := #[.int .i64 v, .int .i64 0, .bool true, .bool false, .int .i64 0]) rfl (by kernel_rfl)) fun _ hS => ?_
    refine seq_op hS (by decide) (runs_allocB (cs := [.int .i64 0, .int .i64 0, .bool false, .bool false, .int .i64 0]) zo28 rfl) (fun v5 w5 a1 hp hS => ?_)
    obtain ⟨rfl, hM5, hB5⟩ := hp
    have hLhM5 : w.heap.size ≤ w3.heap.size := hB.size
    have hNhM3hM5 : w1.heap.size ≠ w3.heap.size := by have := hM3.lt; omega
    have hB := hB.trans (hB5.mono hB.size)
    have hM1 := hM1.below hB5 hM1.lt
    have hM3 := hM3.below hB5 hM3.lt
    refine seq_none hS (runs_storeB (cs := [.int .i64 v, .int .i64 0, .bool true, .bool false, .int .i64 0]) rfl rfl hM5 rfl rfl sz28) (fun v7 w7 a1 hp hS => ?_)
    have hQ7 := hM5
    obtain ⟨hM5, hU7⟩ := hp
    have hB := But.new hB hU7 (fun i e => by rw [e]; exact hLhM5) (Nat.le_refl _)
    have hM1 := hM1.but hU7 (has_ne hM1 hQ7 (by decide))
    have hM3 := hM3.but hU7 (hNhM3hM5)
    refine nil_ok (qx_seq (qx_block (qx_seq (reg_seq ?_))))
    refine sI hS (runs_fieldK fo26_0 rfl) fun _ hS => ?_
    refine sI hS (runs_load rfl pl9 (hM1.at rfl)) fun _ hS => ?_
    refine sI hS (runs_call (args := [.string tg]) goes37 rfl (rknown_is _ w7 (b := false) (by rw [hk]; rfl))) fun _ hS => ?_
    refine sI hS (runs_not (b := false) rfl) fun _ hS => ?_
    refine sI hS (runs_assign rfl) fun _ hS => ?_
    refine nil_ok (wp_cond_true (hS.eval rfl) (qx_seq (reg_seq ?_)))
    refine sI hS (runs_buildK (pv := []) (cells := #[.int .i64 0, .int .i64 0, .bool false, .bool false, .int .i64 0]) rfl (by kernel_rfl)) fun _ hS => ?_
    refine seq_none hS (runs_storeB (cs := [.int .i64 0, .int .i64 0, .bool false, .bool false, .int .i64 0]) rfl rfl hM3 rfl rfl sz28) (fun v9 w9 a1 hp hS => ?_)
    have hQ9 := hM3
    obtain ⟨hM3, hU9⟩ := hp
    have hB := But.new hB hU9 (fun i e => by rw [e]; exact hLhM3) (Nat.le_refl _)
    have hM1 := hM1.but hU9 (has_ne hM1 hQ9 (by decide))
    have hM5 := hM5.but hU9 ((Ne.symm hNhM3hM5))
    exact nil_ok (qx_ret (retRow (t := 0) (p := 4) (ty := 50) (by kernel_rfl) hS rfl hM3 rfl Tryz.underlying50 rfl (by rw [sz28]; rfl) ⟨_, rfl, by rw [if_pos hk]; rfl, hB⟩))
  refine calls_qx (args := [.agg (jc tg src steps).toArray, .int .i64 v]) 56 Tryz.func38 rfl (by kernel_rfl) (by simp) (fun a hS => ?_)
  have hB := Below.refl w.heap.size w
  refine qx_seq (reg_seq ?_)
  refine seq_op hS (by decide) (runs_boxB (cs := jc tg src steps) rfl rfl) (fun v1 w1 a1 hp hS => ?_)
  obtain ⟨rfl, hM1, hB1⟩ := hp
  have hB := hB.trans (hB1.mono hB.size)
  refine seq_op hS (by decide) (runs_allocB (cs := [.int .i64 0, .int .i64 0, .bool false, .bool false, .int .i64 0]) zo28 rfl) (fun v3 w3 a1 hp hS => ?_)
  obtain ⟨rfl, hM3, hB3⟩ := hp
  have hLhM3 : w.heap.size ≤ w1.heap.size := hB.size
  have hB := hB.trans (hB3.mono hB.size)
  have hM1 := hM1.below hB3 hM1.lt
  refine nil_ok (qx_seq (reg_seq ?_))
  refine sI hS (runs_move rfl) fun _ hS => ?_
  refine sI hS (runs_buildK (pv := [(0, .int .i64 v), (2, .bool true)]) (cells := #[.int .i64 v, .int .i64 0, .bool true, .bool false, .int .i64 0]) rfl (by kernel_rfl)) fun _ hS => ?_
  refine seq_op hS (by decide) (runs_allocB (cs := [.int .i64 0, .int .i64 0, .bool false, .bool false, .int .i64 0]) zo28 rfl) (fun v5 w5 a1 hp hS => ?_)
  obtain ⟨rfl, hM5, hB5⟩ := hp
  have hLhM5 : w.heap.size ≤ w3.heap.size := hB.size
  have hNhM3hM5 : w1.heap.size ≠ w3.heap.size := by have := hM3.lt; omega
  have hB := hB.trans (hB5.mono hB.size)
  have hM1 := hM1.below hB5 hM1.lt
  have hM3 := hM3.below hB5 hM3.lt
  refine seq_none hS (runs_storeB (cs := [.int .i64 v, .int .i64 0, .bool true, .bool false, .int .i64 0]) rfl rfl hM5 rfl rfl sz28) (fun v7 w7 a1 hp hS => ?_)
  have hQ7 := hM5
  obtain ⟨hM5, hU7⟩ := hp
  have hB := But.new hB hU7 (fun i e => by rw [e]; exact hLhM5) (Nat.le_refl _)
  have hM1 := hM1.but hU7 (has_ne hM1 hQ7 (by decide))
  have hM3 := hM3.but hU7 (hNhM3hM5)
  refine nil_ok (qx_seq (qx_block (qx_seq (reg_seq ?_))))
  refine sI hS (runs_fieldK fo26_0 rfl) fun _ hS => ?_
  refine sI hS (runs_load rfl pl9 (hM1.at rfl)) fun _ hS => ?_
  refine sI hS (runs_call (args := [.string tg]) goes37 rfl (rknown_is _ w7 (b := true) (by simpa using hk))) fun _ hS => ?_
  refine sI hS (runs_not (b := true) rfl) fun _ hS => ?_
  refine sI hS (runs_assign rfl) fun _ hS => ?_
  refine nil_ok (wp_cond_false (hS.eval rfl) (qx_seq (?_)))
  rcases kind_cases tg.data.toList with hk2 | hk2 | hk2 | hk2 | hk2 | hk2 | hk2 | hk2
  · exact absurd hk2 hk
  · skip
    refine reg_seq ?_
    refine sI hS (runs_fieldK fo26_0 rfl) fun _ hS => ?_
    refine sI hS (runs_load rfl pl9 (hM1.at rfl)) fun _ hS => ?_
    refine sI hS (eqS1 rfl rfl hk2) fun _ hS => ?_
    refine sI hS (runs_assign rfl) fun _ hS => ?_
    refine nil_ok (wp_cond_true (hS.eval rfl) (reg_seq ?_))
    refine sI hS (runs_move rfl) fun _ hS => ?_
    refine sI hS (runs_mul rfl rfl (wrap64 (by omega) (by omega))) fun _ hS => ?_
    refine sI hS (runs_add rfl rfl (wrap64 (by omega) (by omega))) fun _ hS => ?_
    refine sI hS (runs_rem rfl rfl (by omega) (Int.tmod_eq_emod_of_nonneg (by omega))) fun _ hS => ?_
    refine sI hS (runs_fieldK fo28_1 rfl) fun _ hS => ?_
    refine seq_none hS (runs_storeC rfl rfl rfl s1_2 hM5 rfl) (fun v9 w9 a1 hp hS => ?_)
    have hQ9 := hM5
    obtain ⟨hM5, hU9⟩ := hp
    have hB := But.new hB hU9 (fun i e => by rw [e]; exact hLhM5) (Nat.le_refl _)
    have hM1 := hM1.but hU9 (has_ne hM1 hQ9 (by decide))
    have hM3 := hM3.but hU9 (hNhM3hM5)
    refine nil_ok (qx_seq (reg_seq ?_))
    refine sI hS (runs_loadRow rfl hM5 Tryz.underlying50 rfl (by rw [sz28]; rfl)) fun _ hS => ?_
    refine seq_none hS (runs_storeB (cs := [.int .i64 v, .int .i64 ((37 * v + 11) % 64), .bool true, .bool false, .int .i64 0]) rfl rfl hM3 rfl rfl sz28) (fun v11 w11 a1 hp hS => ?_)
    have hQ11 := hM3
    obtain ⟨hM3, hU11⟩ := hp
    have hB := But.new hB hU11 (fun i e => by rw [e]; exact hLhM3) (Nat.le_refl _)
    have hM1 := hM1.but hU11 (has_ne hM1 hQ11 (by decide))
    have hM5 := hM5.but hU11 ((Ne.symm hNhM3hM5))
    exact nil_ok (qx_ret (retRow (t := 0) (p := 4) (ty := 50) (by kernel_rfl) hS rfl hM3 rfl Tryz.underlying50 rfl (by rw [sz28]; rfl) ⟨_, rfl, by rw [if_neg hk]; rw [hk2]; simp [firstV], hB⟩))
  · skip
    refine reg_seq ?_
    refine sI hS (runs_fieldK fo26_0 rfl) fun _ hS => ?_
    refine sI hS (runs_load rfl pl9 (hM1.at rfl)) fun _ hS => ?_
    refine sI hS (eqS1 rfl rfl hk2) fun _ hS => ?_
    refine sI hS (runs_assign rfl) fun _ hS => ?_
    refine nil_ok (wp_cond_false (hS.eval rfl) (qx_seq (reg_seq ?_)))
    refine sI hS (runs_fieldK fo26_0 rfl) fun _ hS => ?_
    refine sI hS (runs_load rfl pl9 (hM1.at rfl)) fun _ hS => ?_
    refine sI hS (eqS2 rfl rfl hk2) fun _ hS => ?_
    refine sI hS (runs_assign rfl) fun _ hS => ?_
    refine nil_ok (wp_cond_true (hS.eval rfl) (reg_seq ?_))
    refine sI hS (runs_move rfl) fun _ hS => ?_
    refine sI hS (runs_fieldK fo28_1 rfl) fun _ hS => ?_
    refine seq_none hS (runs_storeC rfl rfl rfl s1_2 hM5 rfl) (fun v13 w13 a1 hp hS => ?_)
    have hQ13 := hM5
    obtain ⟨hM5, hU13⟩ := hp
    have hB := But.new hB hU13 (fun i e => by rw [e]; exact hLhM5) (Nat.le_refl _)
    have hM1 := hM1.but hU13 (has_ne hM1 hQ13 (by decide))
    have hM3 := hM3.but hU13 (hNhM3hM5)
    refine nil_ok (qx_seq (reg_seq ?_))
    refine sI hS (runs_loadRow rfl hM5 Tryz.underlying50 rfl (by rw [sz28]; rfl)) fun _ hS => ?_
    refine seq_none hS (runs_storeB (cs := [.int .i64 v, .int .i64 v, .bool true, .bool false, .int .i64 0]) rfl rfl hM3 rfl rfl sz28) (fun v15 w15 a1 hp hS => ?_)
    have hQ15 := hM3
    obtain ⟨hM3, hU15⟩ := hp
    have hB := But.new hB hU15 (fun i e => by rw [e]; exact hLhM3) (Nat.le_refl _)
    have hM1 := hM1.but hU15 (has_ne hM1 hQ15 (by decide))
    have hM5 := hM5.but hU15 ((Ne.symm hNhM3hM5))
    exact nil_ok (qx_ret (retRow (t := 0) (p := 4) (ty := 50) (by kernel_rfl) hS rfl hM3 rfl Tryz.underlying50 rfl (by rw [sz28]; rfl) ⟨_, rfl, by rw [if_neg hk]; rw [hk2]; simp [firstV], hB⟩))
  · skip
    refine reg_seq ?_
    refine sI hS (runs_fieldK fo26_0 rfl) fun _ hS => ?_
    refine sI hS (runs_load rfl pl9 (hM1.at rfl)) fun _ hS => ?_
    refine sI hS (eqS1 rfl rfl hk2) fun _ hS => ?_
    refine sI hS (runs_assign rfl) fun _ hS => ?_
    refine nil_ok (wp_cond_false (hS.eval rfl) (qx_seq (reg_seq ?_)))
    refine sI hS (runs_fieldK fo26_0 rfl) fun _ hS => ?_
    refine sI hS (runs_load rfl pl9 (hM1.at rfl)) fun _ hS => ?_
    refine sI hS (eqS2 rfl rfl hk2) fun _ hS => ?_
    refine sI hS (runs_assign rfl) fun _ hS => ?_
    refine nil_ok (wp_cond_false (hS.eval rfl) (qx_seq (reg_seq ?_)))
    refine sI hS (runs_fieldK fo26_0 rfl) fun _ hS => ?_
    refine sI hS (runs_load rfl pl9 (hM1.at rfl)) fun _ hS => ?_
    refine sI hS (eqS3 rfl rfl hk2) fun _ hS => ?_
    refine sI hS (runs_move rfl) fun _ hS => ?_
    refine sN hS fun _ hS => ?_
    refine sN hS fun _ hS => ?_
    refine sN hS fun _ hS => ?_
    refine sI hS (runs_pick rfl rfl) fun _ hS => ?_
    refine sI hS (runs_move rfl) fun _ hS => ?_
    refine sY hS (runs_move rfl) fun _ hS => ?_
    refine sY hS (runs_fieldK fo26_1 rfl) fun _ hS => ?_
    refine sY hS (runs_load rfl pl3 (hM1.at rfl)) fun _ hS => ?_
    by_cases h1 : v ≠ src
    · skip
      refine sY hS (runs_neq (r := true) rfl rfl (by simpa using h1)) fun _ hS => ?_
      refine sI hS (runs_pick rfl rfl) fun _ hS => ?_
      refine sI hS (runs_assign rfl) fun _ hS => ?_
      refine nil_ok (wp_cond_true (hS.eval rfl) (reg_seq ?_))
      refine sI hS (runs_fieldK fo28_1 rfl) fun _ hS => ?_
      refine seq_none hS (runs_storeC rfl rfl rfl s1_2 hM5 rfl) (fun v17 w17 a1 hp hS => ?_)
      have hQ17 := hM5
      obtain ⟨hM5, hU17⟩ := hp
      have hB := But.new hB hU17 (fun i e => by rw [e]; exact hLhM5) (Nat.le_refl _)
      have hM1 := hM1.but hU17 (has_ne hM1 hQ17 (by decide))
      have hM3 := hM3.but hU17 (hNhM3hM5)
      refine nil_ok (qx_seq (reg_seq ?_))
      refine sI hS (runs_loadRow rfl hM5 Tryz.underlying50 rfl (by rw [sz28]; rfl)) fun _ hS => ?_
      refine seq_none hS (runs_storeB (cs := [.int .i64 v, .int .i64 (-1), .bool true, .bool false, .int .i64 0]) rfl rfl hM3 rfl rfl sz28) (fun v19 w19 a1 hp hS => ?_)
      have hQ19 := hM3
      obtain ⟨hM3, hU19⟩ := hp
      have hB := But.new hB hU19 (fun i e => by rw [e]; exact hLhM3) (Nat.le_refl _)
      have hM1 := hM1.but hU19 (has_ne hM1 hQ19 (by decide))
      have hM5 := hM5.but hU19 ((Ne.symm hNhM3hM5))
      exact nil_ok (qx_ret (retRow (t := 0) (p := 4) (ty := 50) (by kernel_rfl) hS rfl hM3 rfl Tryz.underlying50 rfl (by rw [sz28]; rfl) ⟨_, rfl, by rw [if_neg hk]; rw [hk2]; simp [firstV, h1], hB⟩))
    refine sY hS (runs_neq (r := false) rfl rfl (by simpa using h1)) fun _ hS => ?_
    refine sI hS (runs_pick rfl rfl) fun _ hS => ?_
    refine sI hS (runs_assign rfl) fun _ hS => ?_
    refine nil_ok (wp_cond_false (hS.eval rfl) (qx_seq (reg_seq ?_)))
    refine sI hS (runs_fieldK fo26_0 rfl) fun _ hS => ?_
    refine sI hS (runs_load rfl pl9 (hM1.at rfl)) fun _ hS => ?_
    refine sI hS (eqS6 rfl rfl hk2) fun _ hS => ?_
    refine sI hS (runs_assign rfl) fun _ hS => ?_
    refine nil_ok (wp_cond_false (hS.eval rfl) (qx_seq (reg_seq ?_)))
    refine sI hS (runs_fieldK fo26_0 rfl) fun _ hS => ?_
    refine sI hS (runs_load rfl pl9 (hM1.at rfl)) fun _ hS => ?_
    refine sI hS (eqS7 rfl rfl hk2) fun _ hS => ?_
    refine sI hS (runs_assign rfl) fun _ hS => ?_
    refine nil_ok (wp_cond_false (hS.eval rfl) (wp_skip (qx_seq (reg_seq ?_))))
    refine sI hS (runs_loadRow rfl hM5 Tryz.underlying50 rfl (by rw [sz28]; rfl)) fun _ hS => ?_
    refine seq_none hS (runs_storeB (cs := [.int .i64 v, .int .i64 0, .bool true, .bool false, .int .i64 0]) rfl rfl hM3 rfl rfl sz28) (fun v21 w21 a1 hp hS => ?_)
    have hQ21 := hM3
    obtain ⟨hM3, hU21⟩ := hp
    have hB := But.new hB hU21 (fun i e => by rw [e]; exact hLhM3) (Nat.le_refl _)
    have hM1 := hM1.but hU21 (has_ne hM1 hQ21 (by decide))
    have hM5 := hM5.but hU21 ((Ne.symm hNhM3hM5))
    exact nil_ok (qx_ret (retRow (t := 0) (p := 4) (ty := 50) (by kernel_rfl) hS rfl hM3 rfl Tryz.underlying50 rfl (by rw [sz28]; rfl) ⟨_, rfl, by rw [if_neg hk]; rw [hk2]; simp [firstV, h1], hB⟩))
  · skip
    refine reg_seq ?_
    refine sI hS (runs_fieldK fo26_0 rfl) fun _ hS => ?_
    refine sI hS (runs_load rfl pl9 (hM1.at rfl)) fun _ hS => ?_
    refine sI hS (eqS1 rfl rfl hk2) fun _ hS => ?_
    refine sI hS (runs_assign rfl) fun _ hS => ?_
    refine nil_ok (wp_cond_false (hS.eval rfl) (qx_seq (reg_seq ?_)))
    refine sI hS (runs_fieldK fo26_0 rfl) fun _ hS => ?_
    refine sI hS (runs_load rfl pl9 (hM1.at rfl)) fun _ hS => ?_
    refine sI hS (eqS2 rfl rfl hk2) fun _ hS => ?_
    refine sI hS (runs_assign rfl) fun _ hS => ?_
    refine nil_ok (wp_cond_false (hS.eval rfl) (qx_seq (reg_seq ?_)))
    refine sI hS (runs_fieldK fo26_0 rfl) fun _ hS => ?_
    refine sI hS (runs_load rfl pl9 (hM1.at rfl)) fun _ hS => ?_
    refine sI hS (eqS3 rfl rfl hk2) fun _ hS => ?_
    refine sI hS (runs_move rfl) fun _ hS => ?_
    refine sY hS (runs_fieldK fo26_0 rfl) fun _ hS => ?_
    refine sY hS (runs_load rfl pl9 (hM1.at rfl)) fun _ hS => ?_
    refine sY hS (eqS4 rfl rfl hk2) fun _ hS => ?_
    refine sI hS (runs_pick rfl rfl) fun _ hS => ?_
    refine sI hS (runs_move rfl) fun _ hS => ?_
    refine sY hS (runs_move rfl) fun _ hS => ?_
    refine sY hS (runs_fieldK fo26_1 rfl) fun _ hS => ?_
    refine sY hS (runs_load rfl pl3 (hM1.at rfl)) fun _ hS => ?_
    by_cases h1 : v ≠ src
    · skip
      refine sY hS (runs_neq (r := true) rfl rfl (by simpa using h1)) fun _ hS => ?_
      refine sI hS (runs_pick rfl rfl) fun _ hS => ?_
      refine sI hS (runs_assign rfl) fun _ hS => ?_
      refine nil_ok (wp_cond_true (hS.eval rfl) (reg_seq ?_))
      refine sI hS (runs_fieldK fo28_1 rfl) fun _ hS => ?_
      refine seq_none hS (runs_storeC rfl rfl rfl s1_2 hM5 rfl) (fun v23 w23 a1 hp hS => ?_)
      have hQ23 := hM5
      obtain ⟨hM5, hU23⟩ := hp
      have hB := But.new hB hU23 (fun i e => by rw [e]; exact hLhM5) (Nat.le_refl _)
      have hM1 := hM1.but hU23 (has_ne hM1 hQ23 (by decide))
      have hM3 := hM3.but hU23 (hNhM3hM5)
      refine nil_ok (qx_seq (reg_seq ?_))
      refine sI hS (runs_loadRow rfl hM5 Tryz.underlying50 rfl (by rw [sz28]; rfl)) fun _ hS => ?_
      refine seq_none hS (runs_storeB (cs := [.int .i64 v, .int .i64 (-1), .bool true, .bool false, .int .i64 0]) rfl rfl hM3 rfl rfl sz28) (fun v25 w25 a1 hp hS => ?_)
      have hQ25 := hM3
      obtain ⟨hM3, hU25⟩ := hp
      have hB := But.new hB hU25 (fun i e => by rw [e]; exact hLhM3) (Nat.le_refl _)
      have hM1 := hM1.but hU25 (has_ne hM1 hQ25 (by decide))
      have hM5 := hM5.but hU25 ((Ne.symm hNhM3hM5))
      exact nil_ok (qx_ret (retRow (t := 0) (p := 4) (ty := 50) (by kernel_rfl) hS rfl hM3 rfl Tryz.underlying50 rfl (by rw [sz28]; rfl) ⟨_, rfl, by rw [if_neg hk]; rw [hk2]; simp [firstV, h1], hB⟩))
    refine sY hS (runs_neq (r := false) rfl rfl (by simpa using h1)) fun _ hS => ?_
    refine sI hS (runs_pick rfl rfl) fun _ hS => ?_
    refine sI hS (runs_assign rfl) fun _ hS => ?_
    refine nil_ok (wp_cond_false (hS.eval rfl) (qx_seq (reg_seq ?_)))
    refine sI hS (runs_fieldK fo26_0 rfl) fun _ hS => ?_
    refine sI hS (runs_load rfl pl9 (hM1.at rfl)) fun _ hS => ?_
    refine sI hS (eqS6 rfl rfl hk2) fun _ hS => ?_
    refine sI hS (runs_assign rfl) fun _ hS => ?_
    refine nil_ok (wp_cond_false (hS.eval rfl) (qx_seq (reg_seq ?_)))
    refine sI hS (runs_fieldK fo26_0 rfl) fun _ hS => ?_
    refine sI hS (runs_load rfl pl9 (hM1.at rfl)) fun _ hS => ?_
    refine sI hS (eqS7 rfl rfl hk2) fun _ hS => ?_
    refine sI hS (runs_assign rfl) fun _ hS => ?_
    refine nil_ok (wp_cond_false (hS.eval rfl) (wp_skip (qx_seq (reg_seq ?_))))
    refine sI hS (runs_loadRow rfl hM5 Tryz.underlying50 rfl (by rw [sz28]; rfl)) fun _ hS => ?_
    refine seq_none hS (runs_storeB (cs := [.int .i64 v, .int .i64 0, .bool true, .bool false, .int .i64 0]) rfl rfl hM3 rfl rfl sz28) (fun v27 w27 a1 hp hS => ?_)
    have hQ27 := hM3
    obtain ⟨hM3, hU27⟩ := hp
    have hB := But.new hB hU27 (fun i e => by rw [e]; exact hLhM3) (Nat.le_refl _)
    have hM1 := hM1.but hU27 (has_ne hM1 hQ27 (by decide))
    have hM5 := hM5.but hU27 ((Ne.symm hNhM3hM5))
    exact nil_ok (qx_ret (retRow (t := 0) (p := 4) (ty := 50) (by kernel_rfl) hS rfl hM3 rfl Tryz.underlying50 rfl (by rw [sz28]; rfl) ⟨_, rfl, by rw [if_neg hk]; rw [hk2]; simp [firstV, h1], hB⟩))
  · skip
    refine reg_seq ?_
    refine sI hS (runs_fieldK fo26_0 rfl) fun _ hS => ?_
    refine sI hS (runs_load rfl pl9 (hM1.at rfl)) fun _ hS => ?_
    refine sI hS (eqS1 rfl rfl hk2) fun _ hS => ?_
    refine sI hS (runs_assign rfl) fun _ hS => ?_
    refine nil_ok (wp_cond_false (hS.eval rfl) (qx_seq (reg_seq ?_)))
    refine sI hS (runs_fieldK fo26_0 rfl) fun _ hS => ?_
    refine sI hS (runs_load rfl pl9 (hM1.at rfl)) fun _ hS => ?_
    refine sI hS (eqS2 rfl rfl hk2) fun _ hS => ?_
    refine sI hS (runs_assign rfl) fun _ hS => ?_
    refine nil_ok (wp_cond_false (hS.eval rfl) (qx_seq (reg_seq ?_)))
    refine sI hS (runs_fieldK fo26_0 rfl) fun _ hS => ?_
    refine sI hS (runs_load rfl pl9 (hM1.at rfl)) fun _ hS => ?_
    refine sI hS (eqS3 rfl rfl hk2) fun _ hS => ?_
    refine sI hS (runs_move rfl) fun _ hS => ?_
    refine sY hS (runs_fieldK fo26_0 rfl) fun _ hS => ?_
    refine sY hS (runs_load rfl pl9 (hM1.at rfl)) fun _ hS => ?_
    refine sY hS (eqS4 rfl rfl hk2) fun _ hS => ?_
    refine sI hS (runs_pick rfl rfl) fun _ hS => ?_
    refine sI hS (runs_move rfl) fun _ hS => ?_
    refine sN hS fun _ hS => ?_
    refine sN hS fun _ hS => ?_
    refine sN hS fun _ hS => ?_
    refine sN hS fun _ hS => ?_
    refine sI hS (runs_pick rfl rfl) fun _ hS => ?_
    refine sI hS (runs_assign rfl) fun _ hS => ?_
    refine nil_ok (wp_cond_false (hS.eval rfl) (qx_seq (reg_seq ?_)))
    refine sI hS (runs_fieldK fo26_0 rfl) fun _ hS => ?_
    refine sI hS (runs_load rfl pl9 (hM1.at rfl)) fun _ hS => ?_
    refine sI hS (eqS6 rfl rfl hk2) fun _ hS => ?_
    refine sI hS (runs_assign rfl) fun _ hS => ?_
    refine nil_ok (wp_cond_false (hS.eval rfl) (qx_seq (reg_seq ?_)))
    refine sI hS (runs_fieldK fo26_0 rfl) fun _ hS => ?_
    refine sI hS (runs_load rfl pl9 (hM1.at rfl)) fun _ hS => ?_
    refine sI hS (eqS7 rfl rfl hk2) fun _ hS => ?_
    refine sI hS (runs_assign rfl) fun _ hS => ?_
    refine nil_ok (wp_cond_false (hS.eval rfl) (wp_skip (qx_seq (reg_seq ?_))))
    refine sI hS (runs_loadRow rfl hM5 Tryz.underlying50 rfl (by rw [sz28]; rfl)) fun _ hS => ?_
    refine seq_none hS (runs_storeB (cs := [.int .i64 v, .int .i64 0, .bool true, .bool false, .int .i64 0]) rfl rfl hM3 rfl rfl sz28) (fun v29 w29 a1 hp hS => ?_)
    have hQ29 := hM3
    obtain ⟨hM3, hU29⟩ := hp
    have hB := But.new hB hU29 (fun i e => by rw [e]; exact hLhM3) (Nat.le_refl _)
    have hM1 := hM1.but hU29 (has_ne hM1 hQ29 (by decide))
    have hM5 := hM5.but hU29 ((Ne.symm hNhM3hM5))
    exact nil_ok (qx_ret (retRow (t := 0) (p := 4) (ty := 50) (by kernel_rfl) hS rfl hM3 rfl Tryz.underlying50 rfl (by rw [sz28]; rfl) ⟨_, rfl, by rw [if_neg hk]; rw [hk2]; simp [firstV], hB⟩))
  · skip
    refine reg_seq ?_
    refine sI hS (runs_fieldK fo26_0 rfl) fun _ hS => ?_
    refine sI hS (runs_load rfl pl9 (hM1.at rfl)) fun _ hS => ?_
    refine sI hS (eqS1 rfl rfl hk2) fun _ hS => ?_
    refine sI hS (runs_assign rfl) fun _ hS => ?_
    refine nil_ok (wp_cond_false (hS.eval rfl) (qx_seq (reg_seq ?_)))
    refine sI hS (runs_fieldK fo26_0 rfl) fun _ hS => ?_
    refine sI hS (runs_load rfl pl9 (hM1.at rfl)) fun _ hS => ?_
    refine sI hS (eqS2 rfl rfl hk2) fun _ hS => ?_
    refine sI hS (runs_assign rfl) fun _ hS => ?_
    refine nil_ok (wp_cond_false (hS.eval rfl) (qx_seq (reg_seq ?_)))
    refine sI hS (runs_fieldK fo26_0 rfl) fun _ hS => ?_
    refine sI hS (runs_load rfl pl9 (hM1.at rfl)) fun _ hS => ?_
    refine sI hS (eqS3 rfl rfl hk2) fun _ hS => ?_
    refine sI hS (runs_move rfl) fun _ hS => ?_
    refine sY hS (runs_fieldK fo26_0 rfl) fun _ hS => ?_
    refine sY hS (runs_load rfl pl9 (hM1.at rfl)) fun _ hS => ?_
    refine sY hS (eqS4 rfl rfl hk2) fun _ hS => ?_
    refine sI hS (runs_pick rfl rfl) fun _ hS => ?_
    refine sI hS (runs_move rfl) fun _ hS => ?_
    refine sN hS fun _ hS => ?_
    refine sN hS fun _ hS => ?_
    refine sN hS fun _ hS => ?_
    refine sN hS fun _ hS => ?_
    refine sI hS (runs_pick rfl rfl) fun _ hS => ?_
    refine sI hS (runs_assign rfl) fun _ hS => ?_
    refine nil_ok (wp_cond_false (hS.eval rfl) (qx_seq (reg_seq ?_)))
    refine sI hS (runs_fieldK fo26_0 rfl) fun _ hS => ?_
    refine sI hS (runs_load rfl pl9 (hM1.at rfl)) fun _ hS => ?_
    refine sI hS (eqS6 rfl rfl hk2) fun _ hS => ?_
    refine sI hS (runs_assign rfl) fun _ hS => ?_
    refine nil_ok (wp_cond_true (hS.eval rfl) (reg_seq ?_))
    refine sI hS (runs_fieldK fo28_1 rfl) fun _ hS => ?_
    refine seq_none hS (runs_storeC rfl rfl rfl s1_2 hM5 rfl) (fun v31 w31 a1 hp hS => ?_)
    have hQ31 := hM5
    obtain ⟨hM5, hU31⟩ := hp
    have hB := But.new hB hU31 (fun i e => by rw [e]; exact hLhM5) (Nat.le_refl _)
    have hM1 := hM1.but hU31 (has_ne hM1 hQ31 (by decide))
    have hM3 := hM3.but hU31 (hNhM3hM5)
    refine nil_ok (qx_seq (reg_seq ?_))
    refine sI hS (runs_loadRow rfl hM5 Tryz.underlying50 rfl (by rw [sz28]; rfl)) fun _ hS => ?_
    refine seq_none hS (runs_storeB (cs := [.int .i64 v, .int .i64 65536, .bool true, .bool false, .int .i64 0]) rfl rfl hM3 rfl rfl sz28) (fun v33 w33 a1 hp hS => ?_)
    have hQ33 := hM3
    obtain ⟨hM3, hU33⟩ := hp
    have hB := But.new hB hU33 (fun i e => by rw [e]; exact hLhM3) (Nat.le_refl _)
    have hM1 := hM1.but hU33 (has_ne hM1 hQ33 (by decide))
    have hM5 := hM5.but hU33 ((Ne.symm hNhM3hM5))
    exact nil_ok (qx_ret (retRow (t := 0) (p := 4) (ty := 50) (by kernel_rfl) hS rfl hM3 rfl Tryz.underlying50 rfl (by rw [sz28]; rfl) ⟨_, rfl, by rw [if_neg hk]; rw [hk2]; simp [firstV], hB⟩))
  refine reg_seq ?_
  refine sI hS (runs_fieldK fo26_0 rfl) fun _ hS => ?_
  refine sI hS (runs_load rfl pl9 (hM1.at rfl)) fun _ hS => ?_
  refine sI hS (eqS1 rfl rfl hk2) fun _ hS => ?_
  refine sI hS (runs_assign rfl) fun _ hS => ?_
  refine nil_ok (wp_cond_false (hS.eval rfl) (qx_seq (reg_seq ?_)))
  refine sI hS (runs_fieldK fo26_0 rfl) fun _ hS => ?_
  refine sI hS (runs_load rfl pl9 (hM1.at rfl)) fun _ hS => ?_
  refine sI hS (eqS2 rfl rfl hk2) fun _ hS => ?_
  refine sI hS (runs_assign rfl) fun _ hS => ?_
  refine nil_ok (wp_cond_false (hS.eval rfl) (qx_seq (reg_seq ?_)))
  refine sI hS (runs_fieldK fo26_0 rfl) fun _ hS => ?_
  refine sI hS (runs_load rfl pl9 (hM1.at rfl)) fun _ hS => ?_
  refine sI hS (eqS3 rfl rfl hk2) fun _ hS => ?_
  refine sI hS (runs_move rfl) fun _ hS => ?_
  refine sY hS (runs_fieldK fo26_0 rfl) fun _ hS => ?_
  refine sY hS (runs_load rfl pl9 (hM1.at rfl)) fun _ hS => ?_
  refine sY hS (eqS4 rfl rfl hk2) fun _ hS => ?_
  refine sI hS (runs_pick rfl rfl) fun _ hS => ?_
  refine sI hS (runs_move rfl) fun _ hS => ?_
  refine sN hS fun _ hS => ?_
  refine sN hS fun _ hS => ?_
  refine sN hS fun _ hS => ?_
  refine sN hS fun _ hS => ?_
  refine sI hS (runs_pick rfl rfl) fun _ hS => ?_
  refine sI hS (runs_assign rfl) fun _ hS => ?_
  refine nil_ok (wp_cond_false (hS.eval rfl) (qx_seq (reg_seq ?_)))
  refine sI hS (runs_fieldK fo26_0 rfl) fun _ hS => ?_
  refine sI hS (runs_load rfl pl9 (hM1.at rfl)) fun _ hS => ?_
  refine sI hS (eqS6 rfl rfl hk2) fun _ hS => ?_
  refine sI hS (runs_assign rfl) fun _ hS => ?_
  refine nil_ok (wp_cond_false (hS.eval rfl) (qx_seq (reg_seq ?_)))
  refine sI hS (runs_fieldK fo26_0 rfl) fun _ hS => ?_
  refine sI hS (runs_load rfl pl9 (hM1.at rfl)) fun _ hS => ?_
  refine sI hS (eqS7 rfl rfl hk2) fun _ hS => ?_
  refine sI hS (runs_assign rfl) fun _ hS => ?_
  refine nil_ok (wp_cond_true (hS.eval rfl) (reg_seq ?_))
  refine sI hS (runs_fieldK fo28_1 rfl) fun _ hS => ?_
  refine seq_none hS (runs_storeC rfl rfl rfl s1_2 hM5 rfl) (fun v35 w35 a1 hp hS => ?_)
  obtain ⟨hM5, hU35⟩ := hp
  have hB := But.new hB hU35 (fun i e => by rw [e]; exact hLhM5) (Nat.le_refl _)
  have hM3 := hM3.but hU35 (hNhM3hM5)
  refine nil_ok (qx_seq (reg_seq ?_))
  refine sI hS (runs_loadRow rfl hM5 Tryz.underlying50 rfl (by rw [sz28]; rfl)) fun _ hS => ?_
  refine seq_none hS (runs_storeB (cs := [.int .i64 v, .int .i64 1, .bool true, .bool false, .int .i64 0]) rfl rfl hM3 rfl rfl sz28) (fun v37 w37 a1 hp hS => ?_)
  obtain ⟨hM3, hU37⟩ := hp
  have hB := But.new hB hU37 (fun i e => by rw [e]; exact hLhM3) (Nat.le_refl _)
  exact nil_ok (qx_ret (retRow (t := 0) (p := 4) (ty := 50) (by kernel_rfl) hS rfl hM3 rfl Tryz.underlying50 rfl (by rw [sz28]; rfl) ⟨_, rfl, by rw [if_neg hk]; rw [hk2]; simp [firstV], hB⟩))
end Go.Proofs.YtapcpmalgdhakaaGreat
