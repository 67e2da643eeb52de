/- Layer 7 and the document: values at first, two values as one. Conditions: none of our own. -/
import Derived.Test.YtapcpmalgdhakaaSSmall
import Derived.Laws.Small
import Derived.Laws.BitsLemmas
namespace Go.Proofs.Ytapcpmalgdhakaa
open Go.RowKit
set_option maxRecDepth 100000

section
variable {P : Program} {L : List (Nat × Value)} {w : World} {ty : TypeId}
theorem runs_max2 {x y : Operand} {ts : Array TypeId} {k : IntKind} {a b r : Int} (hx : vals L x = some (.int k a)) (hy : vals L y = some (.int k b)) (hr : (if b > a then b else a) = r) : Runs P (.call { callee := .builtin .max, args := #[x, y], argTypes := ts }) ty L w (Is (.int k r) w) := fun o act K Q ho _ hL hK => by
  have ex := hL x (by simp [Op.operands, Call.operands]) _ hx
  have ey := hL y (by simp [Op.operands, Call.operands]) _ hy
  unfold Oper.wp
  have : (execOp act.eval o).run P w = .ok (.value (.int k r)) w := by
    simp [execOp, ho, resolve, invoke, builtin, ex, ey, run_max_int2, ← hr]
  rw [this]
  exact hK _ _ ⟨rfl, rfl⟩
theorem runs_min2 {x y : Operand} {ts : Array TypeId} {k : IntKind} {a b r : Int} (hx : vals L x = some (.int k a)) (hy : vals L y = some (.int k b)) (hr : (if b < a then b else a) = r) : Runs P (.call { callee := .builtin .min, args := #[x, y], argTypes := ts }) ty L w (Is (.int k r) w) := fun o act K Q ho _ hL hK => by
  have ex := hL x (by simp [Op.operands, Call.operands]) _ hx
  have ey := hL y (by simp [Op.operands, Call.operands]) _ hy
  unfold Oper.wp
  have : (execOp act.eval o).run P w = .ok (.value (.int k r)) w := by
    simp [execOp, ho, resolve, invoke, builtin, ex, ey, run_min_int2, ← hr]
  rw [this]
  exact hK _ _ ⟨rfl, rfl⟩
end
theorem and63 (n : Int) : bits .and .i64 n 63 = n % 64 := by
  have h63 : (BitVec.ofInt 64 63).toNat = 2 ^ 6 - 1 := by decide
  have key : (BitVec.ofInt 64 n &&& BitVec.ofInt 64 63).toNat = (n % ((2 ^ 64 : Nat) : Int)).toNat % 2 ^ 6 := by
    rw [BitVec.toNat_and, BitVec.toNat_ofInt, h63, Nat.and_two_pow_sub_one_eq_mod]
  show IntKind.i64.wrap ((BitVec.ofInt 64 n &&& BitVec.ofInt 64 63).toNat : Nat) = n % 64
  rw [key, IntKind.wrap_i64]
  omega
set_option maxHeartbeats 1000000 in
theorem folded_any (tg : ByteArray) (x y : Int) (hx : great x = false) (hy : great y = false) (w : World) : Ans 53 [.string tg, .int .i64 x, .int .i64 y] w (Is (.int .i64 (foldV (kindL tg.data.toList) x y)) w) := by
  obtain ⟨hx1, hx2⟩ := great_no hx
  obtain ⟨hy1, hy2⟩ := great_no hy
  rcases kind_cases tg.data.toList with hk | hk | hk | hk | hk | hk | hk | hk
  · skip
    refine calls_qx (args := [.string tg, .int .i64 x, .int .i64 y]) 23 Try.func53 rfl (by kernel_rfl) (by simp) (fun a hS => ?_)
    refine qx_seq (reg_seq ?_)
    refine sI hS (runs_assign rfl) fun _ hS => ?_
    refine nil_ok (qx_seq (qx_seq (reg_seq ?_)))
    refine sI hS (runs_move rfl) fun _ hS => ?_
    refine nil_ok (qx_block (qx_seq (reg_seq ?_)))
    refine sI hS (eqS1 rfl rfl hk) fun _ hS => ?_
    refine sI hS (runs_assign rfl) fun _ hS => ?_
    refine nil_ok (wp_cond_false (hS.eval rfl) (qx_seq (qx_seq (reg_seq ?_))))
    refine sI hS (eqS2 rfl rfl hk) fun _ hS => ?_
    refine sI hS (runs_assign rfl) fun _ hS => ?_
    refine nil_ok (wp_cond_false (hS.eval rfl) (qx_seq (reg_seq ?_)))
    refine sI hS (eqS3 rfl rfl hk) fun _ hS => ?_
    refine sI hS (runs_assign rfl) fun _ hS => ?_
    refine nil_ok (wp_cond_false (hS.eval rfl) (reg_seq ?_))
    refine sI hS (eqS4 rfl rfl hk) fun _ hS => ?_
    refine sI hS (runs_assign rfl) fun _ hS => ?_
    refine nil_ok (wp_cond_false (hS.eval rfl) (wp_skip (qx_seq (reg_seq ?_))))
    refine sI hS (runs_move rfl) fun _ hS => ?_
    refine sI hS (runs_move rfl) fun _ hS => ?_
    refine sI hS (runs_add rfl rfl (wrap64 (by omega) (by omega))) fun _ hS => ?_
    refine sI hS (runs_assign rfl) fun _ hS => ?_
    exact nil_ok (qx_ret (ret1 (t := 6) (by kernel_rfl) hS rfl ⟨_, rfl, by rw [hk]; try rfl, rfl⟩))
  · skip
    refine calls_qx (args := [.string tg, .int .i64 x, .int .i64 y]) 23 Try.func53 rfl (by kernel_rfl) (by simp) (fun a hS => ?_)
    refine qx_seq (reg_seq ?_)
    refine sI hS (runs_assign rfl) fun _ hS => ?_
    refine nil_ok (qx_seq (qx_seq (reg_seq ?_)))
    refine sI hS (runs_move rfl) fun _ hS => ?_
    refine nil_ok (qx_block (qx_seq (reg_seq ?_)))
    refine sI hS (eqS1 rfl rfl hk) fun _ hS => ?_
    refine sI hS (runs_assign rfl) fun _ hS => ?_
    refine nil_ok (wp_cond_true (hS.eval rfl) (qx_seq (reg_seq ?_)))
    refine sI hS (runs_move rfl) fun _ hS => ?_
    refine sI hS (runs_move rfl) fun _ hS => ?_
    refine sI hS (runs_max2 (r := foldV 1 x y) rfl rfl (by unfold foldV; simp only [if_true]; repeat' split <;> omega)) fun _ hS => ?_
    refine sI hS (runs_assign rfl) fun _ hS => ?_
    exact nil_ok (qx_ret (ret1 (t := 6) (by kernel_rfl) hS rfl ⟨_, rfl, by rw [hk]; try rfl, rfl⟩))
  · skip
    refine calls_qx (args := [.string tg, .int .i64 x, .int .i64 y]) 23 Try.func53 rfl (by kernel_rfl) (by simp) (fun a hS => ?_)
    refine qx_seq (reg_seq ?_)
    refine sI hS (runs_assign rfl) fun _ hS => ?_
    refine nil_ok (qx_seq (qx_seq (reg_seq ?_)))
    refine sI hS (runs_move rfl) fun _ hS => ?_
    refine nil_ok (qx_block (qx_seq (reg_seq ?_)))
    refine sI hS (eqS1 rfl rfl hk) fun _ hS => ?_
    refine sI hS (runs_assign rfl) fun _ hS => ?_
    refine nil_ok (wp_cond_false (hS.eval rfl) (qx_seq (qx_seq (reg_seq ?_))))
    refine sI hS (eqS2 rfl rfl hk) fun _ hS => ?_
    refine sI hS (runs_assign rfl) fun _ hS => ?_
    refine nil_ok (wp_cond_true (hS.eval rfl) (wp_skip (wp_cond_true (hS.eval rfl) (qx_seq (reg_seq ?_)))))
    refine sI hS (runs_move rfl) fun _ hS => ?_
    refine sI hS (runs_move rfl) fun _ hS => ?_
    refine sI hS (runs_min2 (r := foldV 2 x y) rfl rfl (by simp [foldV]; repeat' split <;> omega)) fun _ hS => ?_
    refine sI hS (runs_assign rfl) fun _ hS => ?_
    exact nil_ok (qx_ret (ret1 (t := 6) (by kernel_rfl) hS rfl ⟨_, rfl, by rw [hk]; try rfl, rfl⟩))
  · skip
    refine calls_qx (args := [.string tg, .int .i64 x, .int .i64 y]) 23 Try.func53 rfl (by kernel_rfl) (by simp) (fun a hS => ?_)
    refine qx_seq (reg_seq ?_)
    refine sI hS (runs_assign rfl) fun _ hS => ?_
    refine nil_ok (qx_seq (qx_seq (reg_seq ?_)))
    refine sI hS (runs_move rfl) fun _ hS => ?_
    refine nil_ok (qx_block (qx_seq (reg_seq ?_)))
    refine sI hS (eqS1 rfl rfl hk) fun _ hS => ?_
    refine sI hS (runs_assign rfl) fun _ hS => ?_
    refine nil_ok (wp_cond_false (hS.eval rfl) (qx_seq (qx_seq (reg_seq ?_))))
    refine sI hS (eqS2 rfl rfl hk) fun _ hS => ?_
    refine sI hS (runs_assign rfl) fun _ hS => ?_
    refine nil_ok (wp_cond_false (hS.eval rfl) (qx_seq (reg_seq ?_)))
    refine sI hS (eqS3 rfl rfl hk) fun _ hS => ?_
    refine sI hS (runs_assign rfl) fun _ hS => ?_
    refine nil_ok (wp_cond_true (hS.eval rfl) (wp_skip (wp_cond_true (hS.eval rfl) (qx_seq (reg_seq ?_)))))
    refine sI hS (runs_move rfl) fun _ hS => ?_
    refine sI hS (runs_move rfl) fun _ hS => ?_
    refine sI hS (runs_min2 (r := foldV 3 x y) rfl rfl (by simp [foldV]; repeat' split <;> omega)) fun _ hS => ?_
    refine sI hS (runs_assign rfl) fun _ hS => ?_
    exact nil_ok (qx_ret (ret1 (t := 6) (by kernel_rfl) hS rfl ⟨_, rfl, by rw [hk]; try rfl, rfl⟩))
  · skip
    refine calls_qx (args := [.string tg, .int .i64 x, .int .i64 y]) 23 Try.func53 rfl (by kernel_rfl) (by simp) (fun a hS => ?_)
    refine qx_seq (reg_seq ?_)
    refine sI hS (runs_assign rfl) fun _ hS => ?_
    refine nil_ok (qx_seq (qx_seq (reg_seq ?_)))
    refine sI hS (runs_move rfl) fun _ hS => ?_
    refine nil_ok (qx_block (qx_seq (reg_seq ?_)))
    refine sI hS (eqS1 rfl rfl hk) fun _ hS => ?_
    refine sI hS (runs_assign rfl) fun _ hS => ?_
    refine nil_ok (wp_cond_false (hS.eval rfl) (qx_seq (qx_seq (reg_seq ?_))))
    refine sI hS (eqS2 rfl rfl hk) fun _ hS => ?_
    refine sI hS (runs_assign rfl) fun _ hS => ?_
    refine nil_ok (wp_cond_false (hS.eval rfl) (qx_seq (reg_seq ?_)))
    refine sI hS (eqS3 rfl rfl hk) fun _ hS => ?_
    refine sI hS (runs_assign rfl) fun _ hS => ?_
    refine nil_ok (wp_cond_false (hS.eval rfl) (reg_seq ?_))
    refine sI hS (eqS4 rfl rfl hk) fun _ hS => ?_
    refine sI hS (runs_assign rfl) fun _ hS => ?_
    refine nil_ok (wp_cond_true (hS.eval rfl) (qx_seq (reg_seq ?_)))
    refine sI hS (runs_move rfl) fun _ hS => ?_
    refine sI hS (runs_move rfl) fun _ hS => ?_
    refine sI hS (runs_min2 (r := foldV 4 x y) rfl rfl (by simp [foldV]; repeat' split <;> omega)) fun _ hS => ?_
    refine sI hS (runs_assign rfl) fun _ hS => ?_
    exact nil_ok (qx_ret (ret1 (t := 6) (by kernel_rfl) hS rfl ⟨_, rfl, by rw [hk]; try rfl, rfl⟩))
  · skip
    refine calls_qx (args := [.string tg, .int .i64 x, .int .i64 y]) 23 Try.func53 rfl (by kernel_rfl) (by simp) (fun a hS => ?_)
    refine qx_seq (reg_seq ?_)
    refine sI hS (runs_assign rfl) fun _ hS => ?_
    refine nil_ok (qx_seq (qx_seq (reg_seq ?_)))
    refine sI hS (runs_move rfl) fun _ hS => ?_
    refine nil_ok (qx_block (qx_seq (reg_seq ?_)))
    refine sI hS (eqS1 rfl rfl hk) fun _ hS => ?_
    refine sI hS (runs_assign rfl) fun _ hS => ?_
    refine nil_ok (wp_cond_false (hS.eval rfl) (qx_seq (qx_seq (reg_seq ?_))))
    refine sI hS (eqS2 rfl rfl hk) fun _ hS => ?_
    refine sI hS (runs_assign rfl) fun _ hS => ?_
    refine nil_ok (wp_cond_false (hS.eval rfl) (qx_seq (reg_seq ?_)))
    refine sI hS (eqS3 rfl rfl hk) fun _ hS => ?_
    refine sI hS (runs_assign rfl) fun _ hS => ?_
    refine nil_ok (wp_cond_false (hS.eval rfl) (reg_seq ?_))
    refine sI hS (eqS4 rfl rfl hk) fun _ hS => ?_
    refine sI hS (runs_assign rfl) fun _ hS => ?_
    refine nil_ok (wp_cond_false (hS.eval rfl) (wp_skip (qx_seq (reg_seq ?_))))
    refine sI hS (runs_move rfl) fun _ hS => ?_
    refine sI hS (runs_move rfl) fun _ hS => ?_
    refine sI hS (runs_add rfl rfl (wrap64 (by omega) (by omega))) fun _ hS => ?_
    refine sI hS (runs_assign rfl) fun _ hS => ?_
    exact nil_ok (qx_ret (ret1 (t := 6) (by kernel_rfl) hS rfl ⟨_, rfl, by rw [hk]; try rfl, rfl⟩))
  · skip
    refine calls_qx (args := [.string tg, .int .i64 x, .int .i64 y]) 23 Try.func53 rfl (by kernel_rfl) (by simp) (fun a hS => ?_)
    refine qx_seq (reg_seq ?_)
    refine sI hS (runs_assign rfl) fun _ hS => ?_
    refine nil_ok (qx_seq (qx_seq (reg_seq ?_)))
    refine sI hS (runs_move rfl) fun _ hS => ?_
    refine nil_ok (qx_block (qx_seq (reg_seq ?_)))
    refine sI hS (eqS1 rfl rfl hk) fun _ hS => ?_
    refine sI hS (runs_assign rfl) fun _ hS => ?_
    refine nil_ok (wp_cond_false (hS.eval rfl) (qx_seq (qx_seq (reg_seq ?_))))
    refine sI hS (eqS2 rfl rfl hk) fun _ hS => ?_
    refine sI hS (runs_assign rfl) fun _ hS => ?_
    refine nil_ok (wp_cond_false (hS.eval rfl) (qx_seq (reg_seq ?_)))
    refine sI hS (eqS3 rfl rfl hk) fun _ hS => ?_
    refine sI hS (runs_assign rfl) fun _ hS => ?_
    refine nil_ok (wp_cond_false (hS.eval rfl) (reg_seq ?_))
    refine sI hS (eqS4 rfl rfl hk) fun _ hS => ?_
    refine sI hS (runs_assign rfl) fun _ hS => ?_
    refine nil_ok (wp_cond_false (hS.eval rfl) (wp_skip (qx_seq (reg_seq ?_))))
    refine sI hS (runs_move rfl) fun _ hS => ?_
    refine sI hS (runs_move rfl) fun _ hS => ?_
    refine sI hS (runs_add rfl rfl (wrap64 (by omega) (by omega))) fun _ hS => ?_
    refine sI hS (runs_assign rfl) fun _ hS => ?_
    exact nil_ok (qx_ret (ret1 (t := 6) (by kernel_rfl) hS rfl ⟨_, rfl, by rw [hk]; try rfl, rfl⟩))
  · skip
    refine calls_qx (args := [.string tg, .int .i64 x, .int .i64 y]) 23 Try.func53 rfl (by kernel_rfl) (by simp) (fun a hS => ?_)
    refine qx_seq (reg_seq ?_)
    refine sI hS (runs_assign rfl) fun _ hS => ?_
    refine nil_ok (qx_seq (qx_seq (reg_seq ?_)))
    refine sI hS (runs_move rfl) fun _ hS => ?_
    refine nil_ok (qx_block (qx_seq (reg_seq ?_)))
    refine sI hS (eqS1 rfl rfl hk) fun _ hS => ?_
    refine sI hS (runs_assign rfl) fun _ hS => ?_
    refine nil_ok (wp_cond_false (hS.eval rfl) (qx_seq (qx_seq (reg_seq ?_))))
    refine sI hS (eqS2 rfl rfl hk) fun _ hS => ?_
    refine sI hS (runs_assign rfl) fun _ hS => ?_
    refine nil_ok (wp_cond_false (hS.eval rfl) (qx_seq (reg_seq ?_)))
    refine sI hS (eqS3 rfl rfl hk) fun _ hS => ?_
    refine sI hS (runs_assign rfl) fun _ hS => ?_
    refine nil_ok (wp_cond_false (hS.eval rfl) (reg_seq ?_))
    refine sI hS (eqS4 rfl rfl hk) fun _ hS => ?_
    refine sI hS (runs_assign rfl) fun _ hS => ?_
    refine nil_ok (wp_cond_false (hS.eval rfl) (wp_skip (qx_seq (reg_seq ?_))))
    refine sI hS (runs_move rfl) fun _ hS => ?_
    refine sI hS (runs_move rfl) fun _ hS => ?_
    refine sI hS (runs_add rfl rfl (wrap64 (by omega) (by omega))) fun _ hS => ?_
    refine sI hS (runs_assign rfl) fun _ hS => ?_
    exact nil_ok (qx_ret (ret1 (t := 6) (by kernel_rfl) hS rfl ⟨_, rfl, by rw [hk]; try rfl, rfl⟩))
set_option maxHeartbeats 1000000 in
theorem fold_any (tg : ByteArray) (x y : Int) (w : World) : Ans 42 [.string tg, .int .i64 x, .int .i64 y] w (fun u w' => u = .tuple #[.int .i64 (foldL (kindL tg.data.toList) x y).1, .int .i64 (foldL (kindL tg.data.toList) x y).2] ∧ w' = w) := by
  by_cases hk : kindL tg.data.toList = 0
  · skip
    refine calls_qx (args := [.string tg, .int .i64 x, .int .i64 y]) 25 Try.func42 rfl (by kernel_rfl) (by simp) (fun a hS => ?_)
    refine qx_seq (reg_seq ?_)
    refine sI hS (runs_assign rfl) fun _ hS => ?_
    refine sI hS (runs_assign rfl) fun _ hS => ?_
    refine nil_ok (qx_seq (qx_seq (reg_seq ?_)))
    refine sI hS (runs_move rfl) fun _ hS => ?_
    refine sI hS (runs_call (args := [.string tg]) goes32 rfl (known_is _ w (b := false) (by rw [hk]; rfl))) fun _ hS => ?_
    refine sI hS (runs_not (b := false) rfl) fun _ hS => ?_
    refine nil_ok (wp_cond_true (hS.eval rfl) (qx_seq (reg_seq ?_)))
    refine sI hS (runs_assign rfl) fun _ hS => ?_
    refine sI hS (runs_assign rfl) fun _ hS => ?_
    exact nil_ok (qx_ret (ret2 (t := 6) (u := 7) (by kernel_rfl) hS rfl rfl ⟨_, rfl, by unfold foldL; rw [hk]; rfl, rfl⟩))
  refine calls_qx (args := [.string tg, .int .i64 x, .int .i64 y]) 25 Try.func42 rfl (by kernel_rfl) (by simp) (fun a hS => ?_)
  refine qx_seq (reg_seq ?_)
  refine sI hS (runs_assign rfl) fun _ hS => ?_
  refine sI hS (runs_assign rfl) fun _ hS => ?_
  refine nil_ok (qx_seq (qx_seq (reg_seq ?_)))
  refine sI hS (runs_move rfl) fun _ hS => ?_
  refine sI hS (runs_call (args := [.string tg]) goes32 rfl (known_is _ w (b := true) (by simpa using hk))) fun _ hS => ?_
  refine sI hS (runs_not (b := true) rfl) fun _ hS => ?_
  refine nil_ok (wp_cond_false (hS.eval rfl) (wp_skip (qx_seq (qx_seq (reg_seq ?_)))))
  refine sI hS (runs_move rfl) fun _ hS => ?_
  by_cases h1 : great x = true
  · skip
    refine sI hS (runs_call (args := [.int .i64 x]) goes36 rfl (great_is w h1)) fun _ hS => ?_
    refine sI hS (runs_move rfl) fun _ hS => ?_
    refine sN hS fun _ hS => ?_
    refine sN hS fun _ hS => ?_
    refine sI hS (runs_pick rfl rfl) fun _ hS => ?_
    refine nil_ok (wp_cond_true (hS.eval rfl) (qx_seq (reg_seq ?_)))
    refine sI hS (runs_assign rfl) fun _ hS => ?_
    refine sI hS (runs_assign rfl) fun _ hS => ?_
    exact nil_ok (qx_ret (ret2 (t := 6) (u := 7) (by kernel_rfl) hS rfl rfl ⟨_, rfl, by unfold foldL; rw [if_neg hk]; simp [h1], rfl⟩))
  refine sI hS (runs_call (args := [.int .i64 x]) goes36 rfl (great_is w (Bool.eq_false_iff.2 h1))) fun _ hS => ?_
  refine sI hS (runs_move rfl) fun _ hS => ?_
  refine sY hS (runs_move rfl) fun _ hS => ?_
  by_cases h2 : great y = true
  · skip
    refine sY hS (runs_call (args := [.int .i64 y]) goes36 rfl (great_is w h2)) fun _ hS => ?_
    refine sI hS (runs_pick rfl rfl) fun _ hS => ?_
    refine nil_ok (wp_cond_true (hS.eval rfl) (qx_seq (reg_seq ?_)))
    refine sI hS (runs_assign rfl) fun _ hS => ?_
    refine sI hS (runs_assign rfl) fun _ hS => ?_
    exact nil_ok (qx_ret (ret2 (t := 6) (u := 7) (by kernel_rfl) hS rfl rfl ⟨_, rfl, by unfold foldL; rw [if_neg hk]; simp [h1, h2], rfl⟩))
  refine sY hS (runs_call (args := [.int .i64 y]) goes36 rfl (great_is w (Bool.eq_false_iff.2 h2))) fun _ hS => ?_
  refine sI hS (runs_pick rfl rfl) fun _ hS => ?_
  refine nil_ok (wp_cond_false (hS.eval rfl) (wp_skip (qx_seq (reg_seq ?_))))
  refine sI hS (runs_move rfl) fun _ hS => ?_
  refine sI hS (runs_move rfl) fun _ hS => ?_
  refine sI hS (runs_move rfl) fun _ hS => ?_
  refine sI hS (runs_call (args := [.string tg, .int .i64 x, .int .i64 y]) goes53 rfl (folded_any tg x y (Bool.eq_false_iff.2 h1) (Bool.eq_false_iff.2 h2) w)) fun _ hS => ?_
  refine sI hS (runs_assign rfl) fun _ hS => ?_
  refine nil_ok (qx_seq (qx_seq (reg_seq ?_)))
  refine sI hS (runs_move rfl) fun _ hS => ?_
  by_cases h3 : great (foldV (kindL tg.data.toList) x y) = true
  · skip
    refine sI hS (runs_call (args := [.int .i64 (foldV (kindL tg.data.toList) x y)]) goes36 rfl (great_is w h3)) fun _ hS => ?_
    refine nil_ok (wp_cond_true (hS.eval rfl) (qx_seq (reg_seq ?_)))
    refine sI hS (runs_assign rfl) fun _ hS => ?_
    refine sI hS (runs_assign rfl) fun _ hS => ?_
    exact nil_ok (qx_ret (ret2 (t := 6) (u := 7) (by kernel_rfl) hS rfl rfl ⟨_, rfl, by unfold foldL; rw [if_neg hk]; simp [h1, h2, h3], rfl⟩))
  refine sI hS (runs_call (args := [.int .i64 (foldV (kindL tg.data.toList) x y)]) goes36 rfl (great_is w (Bool.eq_false_iff.2 h3))) fun _ hS => ?_
  refine nil_ok (wp_cond_false (hS.eval rfl) (wp_skip (qx_seq (reg_seq ?_))))
  refine sI hS (runs_move rfl) fun _ hS => ?_
  refine sI hS (runs_assign rfl) fun _ hS => ?_
  refine sI hS (runs_assign rfl) fun _ hS => ?_
  exact nil_ok (qx_ret (ret2 (t := 6) (u := 7) (by kernel_rfl) hS rfl rfl ⟨_, rfl, by unfold foldL; rw [if_neg hk]; simp [h1, h2, h3], rfl⟩))
set_option maxHeartbeats 1000000 in
theorem firstv_any (tg : ByteArray) (src steps v : Int) (hv0 : 0 ≤ v) (hv1 : v ≤ 1048576) (w : World) : Ans 34 [jv tg src steps, .int .i64 v] w (fun u w' => u = .int .i64 (firstV (kindL tg.data.toList) src v) ∧ Below w.heap.size w w') := by
  rcases kind_cases tg.data.toList with hk | hk | hk | hk | hk | hk | hk | hk
  · skip
    refine calls_qx (args := [.agg (jc tg src steps).toArray, .int .i64 v]) 27 Try.func34 rfl (by kernel_rfl) (by simp) (fun a hS => ?_)
    have hB := Below.refl w.heap.size w
    refine qx_seq (reg_seq ?_)
    refine seq_op hS (by decide) (runs_boxB (cs := jc tg src steps) rfl rfl) (fun v1 w1 a1 hp hS => ?_)
    obtain ⟨rfl, hM1, hB1⟩ := hp
    have hB := hB.trans (hB1.mono hB.size)
    refine sI hS (runs_assign rfl) fun _ hS => ?_
    refine nil_ok (qx_seq (qx_seq (reg_seq ?_)))
    refine sI hS (runs_fieldK fo26_0 rfl) fun _ hS => ?_
    refine sI hS (runs_load rfl pl9 (hM1.at rfl)) fun _ hS => ?_
    refine nil_ok (qx_block (qx_seq (reg_seq ?_)))
    refine sI hS (eqS1 rfl rfl hk) fun _ hS => ?_
    refine sI hS (runs_assign rfl) fun _ hS => ?_
    refine nil_ok (wp_cond_false (hS.eval rfl) (qx_seq (reg_seq ?_)))
    refine sI hS (eqS2 rfl rfl hk) fun _ hS => ?_
    refine sI hS (runs_assign rfl) fun _ hS => ?_
    refine nil_ok (wp_cond_false (hS.eval rfl) (qx_seq (qx_seq (reg_seq ?_))))
    refine sI hS (eqS3 rfl rfl hk) fun _ hS => ?_
    refine sI hS (runs_assign rfl) fun _ hS => ?_
    refine nil_ok (wp_cond_false (hS.eval rfl) (reg_seq ?_))
    refine sI hS (eqS4 rfl rfl hk) fun _ hS => ?_
    refine sI hS (runs_assign rfl) fun _ hS => ?_
    refine nil_ok (wp_cond_false (hS.eval rfl) (qx_seq (reg_seq ?_)))
    refine sI hS (eqS6 rfl rfl hk) fun _ hS => ?_
    refine sI hS (runs_assign rfl) fun _ hS => ?_
    refine nil_ok (wp_cond_false (hS.eval rfl) (qx_seq (reg_seq ?_)))
    refine sI hS (eqS7 rfl rfl hk) fun _ hS => ?_
    refine sI hS (runs_assign rfl) fun _ hS => ?_
    refine nil_ok (wp_cond_false (hS.eval rfl) (wp_skip (qx_seq (reg_seq ?_))))
    refine sI hS (runs_assign rfl) fun _ hS => ?_
    exact nil_ok (qx_ret (ret1 (t := 4) (by kernel_rfl) hS rfl ⟨_, rfl, by rw [hk]; simp [firstV], hB⟩))
  · skip
    refine calls_qx (args := [.agg (jc tg src steps).toArray, .int .i64 v]) 27 Try.func34 rfl (by kernel_rfl) (by simp) (fun a hS => ?_)
    have hB := Below.refl w.heap.size w
    refine qx_seq (reg_seq ?_)
    refine seq_op hS (by decide) (runs_boxB (cs := jc tg src steps) rfl rfl) (fun v1 w1 a1 hp hS => ?_)
    obtain ⟨rfl, hM1, hB1⟩ := hp
    have hB := hB.trans (hB1.mono hB.size)
    refine sI hS (runs_assign rfl) fun _ hS => ?_
    refine nil_ok (qx_seq (qx_seq (reg_seq ?_)))
    refine sI hS (runs_fieldK fo26_0 rfl) fun _ hS => ?_
    refine sI hS (runs_load rfl pl9 (hM1.at rfl)) fun _ hS => ?_
    refine nil_ok (qx_block (qx_seq (reg_seq ?_)))
    refine sI hS (eqS1 rfl rfl hk) fun _ hS => ?_
    refine sI hS (runs_assign rfl) fun _ hS => ?_
    refine nil_ok (wp_cond_true (hS.eval rfl) (qx_seq (reg_seq ?_)))
    refine sI hS (runs_move rfl) fun _ hS => ?_
    refine sI hS (runs_mul rfl rfl (wrap64 (by omega) (by omega))) fun _ hS => ?_
    refine sI hS (runs_add rfl rfl (wrap64 (by omega) (by omega))) fun _ hS => ?_
    refine sI hS (runs_and rfl rfl (and63 _)) fun _ hS => ?_
    refine sI hS (runs_assign rfl) fun _ hS => ?_
    exact nil_ok (qx_ret (ret1 (t := 4) (by kernel_rfl) hS rfl ⟨_, rfl, by rw [hk]; simp [firstV], hB⟩))
  · skip
    refine calls_qx (args := [.agg (jc tg src steps).toArray, .int .i64 v]) 27 Try.func34 rfl (by kernel_rfl) (by simp) (fun a hS => ?_)
    have hB := Below.refl w.heap.size w
    refine qx_seq (reg_seq ?_)
    refine seq_op hS (by decide) (runs_boxB (cs := jc tg src steps) rfl rfl) (fun v1 w1 a1 hp hS => ?_)
    obtain ⟨rfl, hM1, hB1⟩ := hp
    have hB := hB.trans (hB1.mono hB.size)
    refine sI hS (runs_assign rfl) fun _ hS => ?_
    refine nil_ok (qx_seq (qx_seq (reg_seq ?_)))
    refine sI hS (runs_fieldK fo26_0 rfl) fun _ hS => ?_
    refine sI hS (runs_load rfl pl9 (hM1.at rfl)) fun _ hS => ?_
    refine nil_ok (qx_block (qx_seq (reg_seq ?_)))
    refine sI hS (eqS1 rfl rfl hk) fun _ hS => ?_
    refine sI hS (runs_assign rfl) fun _ hS => ?_
    refine nil_ok (wp_cond_false (hS.eval rfl) (qx_seq (reg_seq ?_)))
    refine sI hS (eqS2 rfl rfl hk) fun _ hS => ?_
    refine sI hS (runs_assign rfl) fun _ hS => ?_
    refine nil_ok (wp_cond_true (hS.eval rfl) (qx_seq (reg_seq ?_)))
    refine sI hS (runs_move rfl) fun _ hS => ?_
    refine sI hS (runs_assign rfl) fun _ hS => ?_
    exact nil_ok (qx_ret (ret1 (t := 4) (by kernel_rfl) hS rfl ⟨_, rfl, by rw [hk]; simp [firstV], hB⟩))
  · skip
    refine calls_qx (args := [.agg (jc tg src steps).toArray, .int .i64 v]) 27 Try.func34 rfl (by kernel_rfl) (by simp) (fun a hS => ?_)
    have hB := Below.refl w.heap.size w
    refine qx_seq (reg_seq ?_)
    refine seq_op hS (by decide) (runs_boxB (cs := jc tg src steps) rfl rfl) (fun v1 w1 a1 hp hS => ?_)
    obtain ⟨rfl, hM1, hB1⟩ := hp
    have hB := hB.trans (hB1.mono hB.size)
    refine sI hS (runs_assign rfl) fun _ hS => ?_
    refine nil_ok (qx_seq (qx_seq (reg_seq ?_)))
    refine sI hS (runs_fieldK fo26_0 rfl) fun _ hS => ?_
    refine sI hS (runs_load rfl pl9 (hM1.at rfl)) fun _ hS => ?_
    refine nil_ok (qx_block (qx_seq (reg_seq ?_)))
    refine sI hS (eqS1 rfl rfl hk) fun _ hS => ?_
    refine sI hS (runs_assign rfl) fun _ hS => ?_
    refine nil_ok (wp_cond_false (hS.eval rfl) (qx_seq (reg_seq ?_)))
    refine sI hS (eqS2 rfl rfl hk) fun _ hS => ?_
    refine sI hS (runs_assign rfl) fun _ hS => ?_
    refine nil_ok (wp_cond_false (hS.eval rfl) (qx_seq (qx_seq (reg_seq ?_))))
    refine sI hS (eqS3 rfl rfl hk) fun _ hS => ?_
    refine sI hS (runs_assign rfl) fun _ hS => ?_
    refine nil_ok (wp_cond_true (hS.eval rfl) (wp_skip (wp_cond_true (hS.eval rfl) (qx_seq (reg_seq ?_)))))
    refine sI hS (runs_move rfl) fun _ hS => ?_
    refine sI hS (runs_fieldK fo26_1 rfl) fun _ hS => ?_
    refine sI hS (runs_load rfl pl3 (hM1.at rfl)) fun _ hS => ?_
    by_cases h1 : v ≠ src
    · skip
      refine sI hS (runs_neq (r := true) rfl rfl (by simpa using h1)) fun _ hS => ?_
      refine nil_ok (wp_cond_true (hS.eval rfl) (qx_seq (reg_seq ?_)))
      refine sI hS (runs_assign rfl) fun _ hS => ?_
      exact nil_ok (qx_ret (ret1 (t := 4) (by kernel_rfl) hS rfl ⟨_, rfl, by rw [hk]; simp [firstV, h1], hB⟩))
    refine sI hS (runs_neq (r := false) rfl rfl (by simpa using h1)) fun _ hS => ?_
    refine nil_ok (wp_cond_false (hS.eval rfl) (wp_skip (qx_seq (reg_seq ?_))))
    refine sI hS (runs_assign rfl) fun _ hS => ?_
    exact nil_ok (qx_ret (ret1 (t := 4) (by kernel_rfl) hS rfl ⟨_, rfl, by rw [hk]; simp [firstV, h1], hB⟩))
  · skip
    refine calls_qx (args := [.agg (jc tg src steps).toArray, .int .i64 v]) 27 Try.func34 rfl (by kernel_rfl) (by simp) (fun a hS => ?_)
    have hB := Below.refl w.heap.size w
    refine qx_seq (reg_seq ?_)
    refine seq_op hS (by decide) (runs_boxB (cs := jc tg src steps) rfl rfl) (fun v1 w1 a1 hp hS => ?_)
    obtain ⟨rfl, hM1, hB1⟩ := hp
    have hB := hB.trans (hB1.mono hB.size)
    refine sI hS (runs_assign rfl) fun _ hS => ?_
    refine nil_ok (qx_seq (qx_seq (reg_seq ?_)))
    refine sI hS (runs_fieldK fo26_0 rfl) fun _ hS => ?_
    refine sI hS (runs_load rfl pl9 (hM1.at rfl)) fun _ hS => ?_
    refine nil_ok (qx_block (qx_seq (reg_seq ?_)))
    refine sI hS (eqS1 rfl rfl hk) fun _ hS => ?_
    refine sI hS (runs_assign rfl) fun _ hS => ?_
    refine nil_ok (wp_cond_false (hS.eval rfl) (qx_seq (reg_seq ?_)))
    refine sI hS (eqS2 rfl rfl hk) fun _ hS => ?_
    refine sI hS (runs_assign rfl) fun _ hS => ?_
    refine nil_ok (wp_cond_false (hS.eval rfl) (qx_seq (qx_seq (reg_seq ?_))))
    refine sI hS (eqS3 rfl rfl hk) fun _ hS => ?_
    refine sI hS (runs_assign rfl) fun _ hS => ?_
    refine nil_ok (wp_cond_false (hS.eval rfl) (reg_seq ?_))
    refine sI hS (eqS4 rfl rfl hk) fun _ hS => ?_
    refine sI hS (runs_assign rfl) fun _ hS => ?_
    refine nil_ok (wp_cond_true (hS.eval rfl) (qx_seq (reg_seq ?_)))
    refine sI hS (runs_move rfl) fun _ hS => ?_
    refine sI hS (runs_fieldK fo26_1 rfl) fun _ hS => ?_
    refine sI hS (runs_load rfl pl3 (hM1.at rfl)) fun _ hS => ?_
    by_cases h1 : v ≠ src
    · skip
      refine sI hS (runs_neq (r := true) rfl rfl (by simpa using h1)) fun _ hS => ?_
      refine nil_ok (wp_cond_true (hS.eval rfl) (qx_seq (reg_seq ?_)))
      refine sI hS (runs_assign rfl) fun _ hS => ?_
      exact nil_ok (qx_ret (ret1 (t := 4) (by kernel_rfl) hS rfl ⟨_, rfl, by rw [hk]; simp [firstV, h1], hB⟩))
    refine sI hS (runs_neq (r := false) rfl rfl (by simpa using h1)) fun _ hS => ?_
    refine nil_ok (wp_cond_false (hS.eval rfl) (wp_skip (qx_seq (reg_seq ?_))))
    refine sI hS (runs_assign rfl) fun _ hS => ?_
    exact nil_ok (qx_ret (ret1 (t := 4) (by kernel_rfl) hS rfl ⟨_, rfl, by rw [hk]; simp [firstV, h1], hB⟩))
  · skip
    refine calls_qx (args := [.agg (jc tg src steps).toArray, .int .i64 v]) 27 Try.func34 rfl (by kernel_rfl) (by simp) (fun a hS => ?_)
    have hB := Below.refl w.heap.size w
    refine qx_seq (reg_seq ?_)
    refine seq_op hS (by decide) (runs_boxB (cs := jc tg src steps) rfl rfl) (fun v1 w1 a1 hp hS => ?_)
    obtain ⟨rfl, hM1, hB1⟩ := hp
    have hB := hB.trans (hB1.mono hB.size)
    refine sI hS (runs_assign rfl) fun _ hS => ?_
    refine nil_ok (qx_seq (qx_seq (reg_seq ?_)))
    refine sI hS (runs_fieldK fo26_0 rfl) fun _ hS => ?_
    refine sI hS (runs_load rfl pl9 (hM1.at rfl)) fun _ hS => ?_
    refine nil_ok (qx_block (qx_seq (reg_seq ?_)))
    refine sI hS (eqS1 rfl rfl hk) fun _ hS => ?_
    refine sI hS (runs_assign rfl) fun _ hS => ?_
    refine nil_ok (wp_cond_false (hS.eval rfl) (qx_seq (reg_seq ?_)))
    refine sI hS (eqS2 rfl rfl hk) fun _ hS => ?_
    refine sI hS (runs_assign rfl) fun _ hS => ?_
    refine nil_ok (wp_cond_false (hS.eval rfl) (qx_seq (qx_seq (reg_seq ?_))))
    refine sI hS (eqS3 rfl rfl hk) fun _ hS => ?_
    refine sI hS (runs_assign rfl) fun _ hS => ?_
    refine nil_ok (wp_cond_false (hS.eval rfl) (reg_seq ?_))
    refine sI hS (eqS4 rfl rfl hk) fun _ hS => ?_
    refine sI hS (runs_assign rfl) fun _ hS => ?_
    refine nil_ok (wp_cond_false (hS.eval rfl) (qx_seq (reg_seq ?_)))
    refine sI hS (eqS6 rfl rfl hk) fun _ hS => ?_
    refine sI hS (runs_assign rfl) fun _ hS => ?_
    refine nil_ok (wp_cond_false (hS.eval rfl) (qx_seq (reg_seq ?_)))
    refine sI hS (eqS7 rfl rfl hk) fun _ hS => ?_
    refine sI hS (runs_assign rfl) fun _ hS => ?_
    refine nil_ok (wp_cond_false (hS.eval rfl) (wp_skip (qx_seq (reg_seq ?_))))
    refine sI hS (runs_assign rfl) fun _ hS => ?_
    exact nil_ok (qx_ret (ret1 (t := 4) (by kernel_rfl) hS rfl ⟨_, rfl, by rw [hk]; simp [firstV], hB⟩))
  · skip
    refine calls_qx (args := [.agg (jc tg src steps).toArray, .int .i64 v]) 27 Try.func34 rfl (by kernel_rfl) (by simp) (fun a hS => ?_)
    have hB := Below.refl w.heap.size w
    refine qx_seq (reg_seq ?_)
    refine seq_op hS (by decide) (runs_boxB (cs := jc tg src steps) rfl rfl) (fun v1 w1 a1 hp hS => ?_)
    obtain ⟨rfl, hM1, hB1⟩ := hp
    have hB := hB.trans (hB1.mono hB.size)
    refine sI hS (runs_assign rfl) fun _ hS => ?_
    refine nil_ok (qx_seq (qx_seq (reg_seq ?_)))
    refine sI hS (runs_fieldK fo26_0 rfl) fun _ hS => ?_
    refine sI hS (runs_load rfl pl9 (hM1.at rfl)) fun _ hS => ?_
    refine nil_ok (qx_block (qx_seq (reg_seq ?_)))
    refine sI hS (eqS1 rfl rfl hk) fun _ hS => ?_
    refine sI hS (runs_assign rfl) fun _ hS => ?_
    refine nil_ok (wp_cond_false (hS.eval rfl) (qx_seq (reg_seq ?_)))
    refine sI hS (eqS2 rfl rfl hk) fun _ hS => ?_
    refine sI hS (runs_assign rfl) fun _ hS => ?_
    refine nil_ok (wp_cond_false (hS.eval rfl) (qx_seq (qx_seq (reg_seq ?_))))
    refine sI hS (eqS3 rfl rfl hk) fun _ hS => ?_
    refine sI hS (runs_assign rfl) fun _ hS => ?_
    refine nil_ok (wp_cond_false (hS.eval rfl) (reg_seq ?_))
    refine sI hS (eqS4 rfl rfl hk) fun _ hS => ?_
    refine sI hS (runs_assign rfl) fun _ hS => ?_
    refine nil_ok (wp_cond_false (hS.eval rfl) (qx_seq (reg_seq ?_)))
    refine sI hS (eqS6 rfl rfl hk) fun _ hS => ?_
    refine sI hS (runs_assign rfl) fun _ hS => ?_
    refine nil_ok (wp_cond_true (hS.eval rfl) (qx_seq (reg_seq ?_)))
    refine sI hS (runs_assign rfl) fun _ hS => ?_
    exact nil_ok (qx_ret (ret1 (t := 4) (by kernel_rfl) hS rfl ⟨_, rfl, by rw [hk]; simp [firstV], hB⟩))
  · skip
    refine calls_qx (args := [.agg (jc tg src steps).toArray, .int .i64 v]) 27 Try.func34 rfl (by kernel_rfl) (by simp) (fun a hS => ?_)
    have hB := Below.refl w.heap.size w
    refine qx_seq (reg_seq ?_)
    refine seq_op hS (by decide) (runs_boxB (cs := jc tg src steps) rfl rfl) (fun v1 w1 a1 hp hS => ?_)
    obtain ⟨rfl, hM1, hB1⟩ := hp
    have hB := hB.trans (hB1.mono hB.size)
    refine sI hS (runs_assign rfl) fun _ hS => ?_
    refine nil_ok (qx_seq (qx_seq (reg_seq ?_)))
    refine sI hS (runs_fieldK fo26_0 rfl) fun _ hS => ?_
    refine sI hS (runs_load rfl pl9 (hM1.at rfl)) fun _ hS => ?_
    refine nil_ok (qx_block (qx_seq (reg_seq ?_)))
    refine sI hS (eqS1 rfl rfl hk) fun _ hS => ?_
    refine sI hS (runs_assign rfl) fun _ hS => ?_
    refine nil_ok (wp_cond_false (hS.eval rfl) (qx_seq (reg_seq ?_)))
    refine sI hS (eqS2 rfl rfl hk) fun _ hS => ?_
    refine sI hS (runs_assign rfl) fun _ hS => ?_
    refine nil_ok (wp_cond_false (hS.eval rfl) (qx_seq (qx_seq (reg_seq ?_))))
    refine sI hS (eqS3 rfl rfl hk) fun _ hS => ?_
    refine sI hS (runs_assign rfl) fun _ hS => ?_
    refine nil_ok (wp_cond_false (hS.eval rfl) (reg_seq ?_))
    refine sI hS (eqS4 rfl rfl hk) fun _ hS => ?_
    refine sI hS (runs_assign rfl) fun _ hS => ?_
    refine nil_ok (wp_cond_false (hS.eval rfl) (qx_seq (reg_seq ?_)))
    refine sI hS (eqS6 rfl rfl hk) fun _ hS => ?_
    refine sI hS (runs_assign rfl) fun _ hS => ?_
    refine nil_ok (wp_cond_false (hS.eval rfl) (qx_seq (reg_seq ?_)))
    refine sI hS (eqS7 rfl rfl hk) fun _ hS => ?_
    refine sI hS (runs_assign rfl) fun _ hS => ?_
    refine nil_ok (wp_cond_true (hS.eval rfl) (qx_seq (reg_seq ?_)))
    refine sI hS (runs_assign rfl) fun _ hS => ?_
    exact nil_ok (qx_ret (ret1 (t := 4) (by kernel_rfl) hS rfl ⟨_, rfl, by rw [hk]; simp [firstV], hB⟩))
set_option maxHeartbeats 1000000 in
theorem first_any (tg : ByteArray) (src steps v : Int) (hv0 : 0 ≤ v) (hv1 : v ≤ 1048576) (w : World) : Ans 20 [jv tg src steps, .int .i64 v] w (fun u w' => u = vv (if kindL tg.data.toList = 0 then noVx else ⟨v, firstV (kindL tg.data.toList) src v, true, false, 0⟩) ∧ Below w.heap.size w w') := by
  by_cases hk : kindL tg.data.toList = 0
  · skip
    refine calls_qx (args := [.agg (jc tg src steps).toArray, .int .i64 v]) 15 Try.func20 rfl (by kernel_rfl) (by simp) (fun a hS => ?_)
    have hB := Below.refl w.heap.size w
    refine qx_seq (reg_seq ?_)
    refine seq_op hS (by decide) (runs_boxB (cs := jc tg src steps) rfl rfl) (fun v1 w1 a1 hp hS => ?_)
    obtain ⟨rfl, hM1, hB1⟩ := hp
    have hB := hB.trans (hB1.mono hB.size)
    refine seq_op hS (by decide) (runs_allocB (cs := [.int .i64 0, .int .i64 0, .bool false, .bool false, .int .i64 0]) zo28 rfl) (fun v3 w3 a1 hp hS => ?_)
    obtain ⟨rfl, hM3, hB3⟩ := hp
    have hLhM3 : w.heap.size ≤ w1.heap.size := hB.size
    have hB := hB.trans (hB3.mono hB.size)
    have hM1 := hM1.below hB3 hM1.lt
    refine nil_ok (qx_seq (qx_seq (reg_seq ?_)))
    refine sI hS (runs_fieldK fo26_0 rfl) fun _ hS => ?_
    refine sI hS (runs_load rfl pl9 (hM1.at rfl)) fun _ hS => ?_
    refine sI hS (runs_call (args := [.string tg]) goes32 rfl (known_is _ w3 (b := false) (by rw [hk]; rfl))) fun _ hS => ?_
    refine sI hS (runs_not (b := false) rfl) fun _ hS => ?_
    refine nil_ok (wp_cond_true (hS.eval rfl) (qx_seq (reg_seq ?_)))
    refine sI hS (runs_buildK (pv := []) (cells := #[.int .i64 0, .int .i64 0, .bool false, .bool false, .int .i64 0]) rfl (by kernel_rfl)) fun _ hS => ?_
    refine seq_none hS (runs_storeB (cs := [.int .i64 0, .int .i64 0, .bool false, .bool false, .int .i64 0]) rfl rfl hM3 rfl rfl sz28) (fun v5 w5 a1 hp hS => ?_)
    have hQ5 := hM3
    obtain ⟨hM3, hU5⟩ := hp
    have hB := But.new hB hU5 (fun i e => by rw [e]; exact hLhM3) (Nat.le_refl _)
    have hM1 := hM1.but hU5 (has_ne hM1 hQ5 (by decide))
    exact nil_ok (qx_ret (retRow (t := 0) (p := 4) (ty := 50) (by kernel_rfl) hS rfl hM3 rfl Try.underlying50 rfl (by rw [sz28]; rfl) ⟨_, rfl, by rw [if_pos hk]; try rfl, hB⟩))
  refine calls_qx (args := [.agg (jc tg src steps).toArray, .int .i64 v]) 15 Try.func20 rfl (by kernel_rfl) (by simp) (fun a hS => ?_)
  have hB := Below.refl w.heap.size w
  refine qx_seq (reg_seq ?_)
  refine seq_op hS (by decide) (runs_boxB (cs := jc tg src steps) rfl rfl) (fun v1 w1 a1 hp hS => ?_)
  obtain ⟨rfl, hM1, hB1⟩ := hp
  have hB := hB.trans (hB1.mono hB.size)
  refine seq_op hS (by decide) (runs_allocB (cs := [.int .i64 0, .int .i64 0, .bool false, .bool false, .int .i64 0]) zo28 rfl) (fun v3 w3 a1 hp hS => ?_)
  obtain ⟨rfl, hM3, hB3⟩ := hp
  have hLhM3 : w.heap.size ≤ w1.heap.size := hB.size
  have hB := hB.trans (hB3.mono hB.size)
  have hM1 := hM1.below hB3 hM1.lt
  refine nil_ok (qx_seq (qx_seq (reg_seq ?_)))
  refine sI hS (runs_fieldK fo26_0 rfl) fun _ hS => ?_
  refine sI hS (runs_load rfl pl9 (hM1.at rfl)) fun _ hS => ?_
  refine sI hS (runs_call (args := [.string tg]) goes32 rfl (known_is _ w3 (b := true) (by simpa using hk))) fun _ hS => ?_
  refine sI hS (runs_not (b := true) rfl) fun _ hS => ?_
  refine nil_ok (wp_cond_false (hS.eval rfl) (wp_skip (qx_seq (reg_seq ?_))))
  refine sI hS (runs_move rfl) fun _ hS => ?_
  refine sI hS (runs_loadRow rfl hM1 Try.underlying26 rfl (by rw [sz26]; rfl)) fun _ hS => ?_
  refine sI hS (runs_move rfl) fun _ hS => ?_
  refine seq_op hS (by decide) (runs_call (args := [.agg (jc tg src steps).toArray, .int .i64 v]) goes34 rfl (firstv_any tg src steps v hv0 hv1 w3)) (fun v5 w5 a1 hp hS => ?_)
  obtain ⟨rfl, hB5⟩ := hp
  have hB := hB.trans (hB5.mono hB.size)
  have hM3 := hM3.below hB5 hM3.lt
  refine sI hS (runs_buildK (pv := [(0, .int .i64 v), (1, .int .i64 (firstV (kindL tg.data.toList) src v)), (2, .bool true)]) (cells := #[.int .i64 v, .int .i64 (firstV (kindL tg.data.toList) src v), .bool true, .bool false, .int .i64 0]) rfl (by kernel_rfl)) fun _ hS => ?_
  refine seq_none hS (runs_storeB (cs := [.int .i64 v, .int .i64 (firstV (kindL tg.data.toList) src v), .bool true, .bool false, .int .i64 0]) rfl rfl hM3 rfl rfl sz28) (fun v7 w7 a1 hp hS => ?_)
  obtain ⟨hM3, hU7⟩ := hp
  have hB := But.new hB hU7 (fun i e => by rw [e]; exact hLhM3) (Nat.le_refl _)
  exact nil_ok (qx_ret (retRow (t := 0) (p := 4) (ty := 50) (by kernel_rfl) hS rfl hM3 rfl Try.underlying50 rfl (by rw [sz28]; rfl) ⟨_, rfl, by rw [if_neg hk]; try rfl, hB⟩))
end Go.Proofs.Ytapcpmalgdhakaa
