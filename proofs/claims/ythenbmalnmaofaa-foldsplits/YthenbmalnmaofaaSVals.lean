/- Layer 7 and the document: values at first, two values as one. Conditions: none of our own. -/
import Derived.Test.YthenbmalnmaofaaSSmall
import Derived.Laws.Small
import Derived.Laws.BitsLemmas
namespace Go.Proofs.Ythenbmalnmaofaa
open Go.RowKit
set_option maxRecDepth 100000

section
variable {P : Program} {L : List (Nat × Value)} {w : World} {ty : TypeId}
theorem runs_max2 {x y : Operand} {ts : Array TypeId} {k : IntKind} {a b r : Int} (hx : vals L x = some (.int k a)) (hy : vals L y = some (.int k b)) (hr : (if b > a then b else a) = r) : Runs P (.call { callee := .builtin .max, args := #[x, y], argTypes := ts }) ty L w (Is (.int k r) w) := fun o act K Q ho _ hL hK => by
  have ex := hL x (by simp [Op.operands, Call.operands]) _ hx
  have ey := hL y (by simp [Op.operands, Call.operands]) _ hy
  unfold Oper.wp
  have : (execOp act.eval o).run P w = .ok (.value (.int k r)) w := by
    simp [execOp, ho, resolve, invoke, builtin, ex, ey, run_max_int2, ← hr]
  rw [this]
  exact hK _ _ ⟨rfl, rfl⟩
theorem runs_min2 {x y : Operand} {ts : Array TypeId} {k : IntKind} {a b r : Int} (hx : vals L x = some (.int k a)) (hy : vals L y = some (.int k b)) (hr : (if b < a then b else a) = r) : Runs P (.call { callee := .builtin .min, args := #[x, y], argTypes := ts }) ty L w (Is (.int k r) w) := fun o act K Q ho _ hL hK => by
  have ex := hL x (by simp [Op.operands, Call.operands]) _ hx
  have ey := hL y (by simp [Op.operands, Call.operands]) _ hy
  unfold Oper.wp
  have : (execOp act.eval o).run P w = .ok (.value (.int k r)) w := by
    simp [execOp, ho, resolve, invoke, builtin, ex, ey, run_min_int2, ← hr]
  rw [this]
  exact hK _ _ ⟨rfl, rfl⟩
end
theorem and63 (n : Int) : bits .and .i64 n 63 = n % 64 := by
  have h63 : (BitVec.ofInt 64 63).toNat = 2 ^ 6 - 1 := by decide
  have key : (BitVec.ofInt 64 n &&& BitVec.ofInt 64 63).toNat = (n % ((2 ^ 64 : Nat) : Int)).toNat % 2 ^ 6 := by
    rw [BitVec.toNat_and, BitVec.toNat_ofInt, h63, Nat.and_two_pow_sub_one_eq_mod]
  show IntKind.i64.wrap ((BitVec.ofInt 64 n &&& BitVec.ofInt 64 63).toNat : Nat) = n % 64
  rw [key, IntKind.wrap_i64]
  omega
set_option maxHeartbeats 1000000 in
theorem folded_any (tg : ByteArray) (x y : Int) (hx : great x = false) (hy : great y = false) (w : World) : Ans 42 [.string tg, .int .i64 x, .int .i64 y] w (Is (.int .i64 (foldV (kindL tg.data.toList) x y)) w) := by
  obtain ⟨hx1, hx2⟩ := great_no hx
  obtain ⟨hy1, hy2⟩ := great_no hy
  rcases kind_cases tg.data.toList with hk | hk | hk | hk | hk | hk | hk | hk
  · skip
    refine calls_qx (args := [.string tg, .int .i64 x, .int .i64 y]) 23 Try.func42 rfl (by kernel_rfl) (by simp) (fun a hS => ?_)
    refine qx_seq (reg_seq ?_)
    refine sI hS (runs_assign rfl) fun _ hS => ?_
    refine nil_ok (qx_seq (qx_seq (reg_seq ?_)))
    refine sI hS (runs_move rfl) fun _ hS => ?_
    refine nil_ok (qx_block (qx_seq (reg_seq ?_)))
    refine sI hS (eqS1 rfl rfl hk) fun _ hS => ?_
    refine sI hS (runs_assign rfl) fun _ hS => ?_
    refine nil_ok (wp_cond_false (hS.eval rfl) (qx_seq (qx_seq (reg_seq ?_))))
    refine sI hS (eqS2 rfl rfl hk) fun _ hS => ?_
    refine sI hS (runs_assign rfl) fun _ hS => ?_
    refine nil_ok (wp_cond_false (hS.eval rfl) (qx_seq (reg_seq ?_)))
    refine sI hS (eqS3 rfl rfl hk) fun _ hS => ?_
    refine sI hS (runs_assign rfl) fun _ hS => ?_
    refine nil_ok (wp_cond_false (hS.eval rfl) (reg_seq ?_))
    refine sI hS (eqS4 rfl rfl hk) fun _ hS => ?_
    refine sI hS (runs_assign rfl) fun _ hS => ?_
    refine nil_ok (wp_cond_false (hS.eval rfl) (wp_skip (qx_seq (reg_seq ?_))))
    refine sI hS (runs_move rfl) fun _ hS => ?_
    refine sI hS (runs_move rfl) fun _ hS => ?_
    refine sI hS (runs_add rfl rfl (wrap64 (by omega) (by omega))) fun _ hS => ?_
    refine sI hS (runs_assign rfl) fun _ hS => ?_
    exact nil_ok (qx_ret (ret1 (t := 6) (by kernel_rfl) hS rfl ⟨_, rfl, by rw [hk]; try rfl, rfl⟩))
  · skip
    refine calls_qx (args := [.string tg, .int .i64 x, .int .i64 y]) 23 Try.func42 rfl (by kernel_rfl) (by simp) (fun a hS => ?_)
    refine qx_seq (reg_seq ?_)
    refine sI hS (runs_assign rfl) fun _ hS => ?_
    refine nil_ok (qx_seq (qx_seq (reg_seq ?_)))
    refine sI hS (runs_move rfl) fun _ hS => ?_
    refine nil_ok (qx_block (qx_seq (reg_seq ?_)))
    refine sI hS (eqS1 rfl rfl hk) fun _ hS => ?_
    refine sI hS (runs_assign rfl) fun _ hS => ?_
    refine nil_ok (wp_cond_true (hS.eval rfl) (qx_seq (reg_seq ?_)))
    refine sI hS (runs_move rfl) fun _ hS => ?_
    refine sI hS (runs_move rfl) fun _ hS => ?_
    refine sI hS (runs_max2 (r := foldV 1 x y) rfl rfl (by unfold foldV; simp only [if_true]; repeat' split <;> omega)) fun _ hS => ?_
    refine sI hS (runs_assign rfl) fun _ hS => ?_
    exact nil_ok (qx_ret (ret1 (t := 6) (by kernel_rfl) hS rfl ⟨_, rfl, by rw [hk]; try rfl, rfl⟩))
  · skip
    refine calls_qx (args := [.string tg, .int .i64 x, .int .i64 y]) 23 Try.func42 rfl (by kernel_rfl) (by simp) (fun a hS => ?_)
    refine qx_seq (reg_seq ?_)
    refine sI hS (runs_assign rfl) fun _ hS => ?_
    refine nil_ok (qx_seq (qx_seq (reg_seq ?_)))
    refine sI hS (runs_move rfl) fun _ hS => ?_
    refine nil_ok (qx_block (qx_seq (reg_seq ?_)))
    refine sI hS (eqS1 rfl rfl hk) fun _ hS => ?_
    refine sI hS (runs_assign rfl) fun _ hS => ?_
    refine nil_ok (wp_cond_false (hS.eval rfl) (qx_seq (qx_seq (reg_seq ?_))))
    refine sI hS (eqS2 rfl rfl hk) fun _ hS => ?_
    refine sI hS (runs_assign rfl) fun _ hS => ?_
    refine nil_ok (wp_cond_true (hS.eval rfl) (wp_skip (wp_cond_true (hS.eval rfl) (qx_seq (reg_seq ?_)))))
    refine sI hS (runs_move rfl) fun _ hS => ?_
    refine sI hS (runs_move rfl) fun _ hS => ?_
    refine sI hS (runs_min2 (r := foldV 2 x y) rfl rfl (by simp [foldV]; repeat' split <;> omega)) fun _ hS => ?_
    refine sI hS (runs_assign rfl) fun _ hS => ?_
    exact nil_ok (qx_ret (ret1 (t := 6) (by kernel_rfl) hS rfl ⟨_, rfl, by rw [hk]; try rfl, rfl⟩))
  · skip
    refine calls_qx (args := [.string tg, .int .i64 x, .int .i64 y]) 23 Try.func42 rfl (by kernel_rfl) (by simp) (fun a hS => ?_)
    refine qx_seq (reg_seq ?_)
    refine sI hS (runs_assign rfl) fun _ hS => ?_
    refine nil_ok (qx_seq (qx_seq (reg_seq ?_)))
    refine sI hS (runs_move rfl) fun _ hS => ?_
    refine nil_ok (qx_block (qx_seq (reg_seq ?_)))
    refine sI hS (eqS1 rfl rfl hk) fun _ hS => ?_
    refine sI hS (runs_assign rfl) fun _ hS => ?_
    refine nil_ok (wp_cond_false (hS.eval rfl) (qx_seq (qx_seq (reg_seq ?_))))
    refine sI hS (eqS2 rfl rfl hk) fun _ hS => ?_
    refine sI hS (runs_assign rfl) fun _ hS => ?_
    refine nil_ok (wp_cond_false (hS.eval rfl) (qx_seq (reg_seq ?_)))
    refine sI hS (eqS3 rfl rfl hk) fun _ hS => ?_
    refine sI hS (runs_assign rfl) fun _ hS => ?_
    refine nil_ok (wp_cond_true (hS.eval rfl) (wp_skip (wp_cond_true (hS.eval rfl) (qx_seq (reg_seq ?_)))))
    refine sI hS (runs_move rfl) fun _ hS => ?_
    refine sI hS (runs_move rfl) fun _ hS => ?_
    refine sI hS (runs_min2 (r := foldV 3 x y) rfl rfl (by simp [foldV]; repeat' split <;> omega)) fun _ hS => ?_
    refine sI hS (runs_assign rfl) fun _ hS => ?_
    exact nil_ok (qx_ret (ret1 (t := 6) (by kernel_rfl) hS rfl ⟨_, rfl, by rw [hk]; try rfl, rfl⟩))
  · skip
    refine calls_qx (args := [.string tg, .int .i64 x, .int .i64 y]) 23 Try.func42 rfl (by kernel_rfl) (by simp) (fun a hS => ?_)
    refine qx_seq (reg_seq ?_)
    refine sI hS (runs_assign rfl) fun _ hS => ?_
    refine nil_ok (qx_seq (qx_seq (reg_seq ?_)))
    refine sI hS (runs_move rfl) fun _ hS => ?_
    refine nil_ok (qx_block (qx_seq (reg_seq ?_)))
    refine sI hS (eqS1 rfl rfl hk) fun _ hS => ?_
    refine sI hS (runs_assign rfl) fun _ hS => ?_
    refine nil_ok (wp_cond_false (hS.eval rfl) (qx_seq (qx_seq (reg_seq ?_))))
    refine sI hS (eqS2 rfl rfl hk) fun _ hS => ?_
    refine sI hS (runs_assign rfl) fun _ hS => ?_
    refine nil_ok (wp_cond_false (hS.eval rfl) (qx_seq (reg_seq ?_)))
    refine sI hS (eqS3 rfl rfl hk) fun _ hS => ?_
    refine sI hS (runs_assign rfl) fun _ hS => ?_
    refine nil_ok (wp_cond_false (hS.eval rfl) (reg_seq ?_))
    refine sI hS (eqS4 rfl rfl hk) fun _ hS => ?_
    refine sI hS (runs_assign rfl) fun _ hS => ?_
    refine nil_ok (wp_cond_true (hS.eval rfl) (qx_seq (reg_seq ?_)))
    refine sI hS (runs_move rfl) fun _ hS => ?_
    refine sI hS (runs_move rfl) fun _ hS => ?_
    refine sI hS (runs_min2 (r := foldV 4 x y) rfl rfl (by simp [foldV]; repeat' split <;> omega)) fun _ hS => ?_
    refine sI hS (runs_assign rfl) fun _ hS => ?_
    exact nil_ok (qx_ret (ret1 (t := 6) (by kernel_rfl) hS rfl ⟨_, rfl, by rw [hk]; try rfl, rfl⟩))
  · skip
    refine calls_qx (args := [.string tg, .int .i64 x, .int .i64 y]) 23 Try.func42 rfl (by kernel_rfl) (by simp) (fun a hS => ?_)
    refine qx_seq (reg_seq ?_)
    refine sI hS (runs_assign rfl) fun _ hS => ?_
    refine nil_ok (qx_seq (qx_seq (reg_seq ?_)))
    refine sI hS (runs_move rfl) fun _ hS => ?_
    refine nil_ok (qx_block (qx_seq (reg_seq ?_)))
    refine sI hS (eqS1 rfl rfl hk) fun _ hS => ?_
    refine sI hS (runs_assign rfl) fun _ hS => ?_
    refine nil_ok (wp_cond_false (hS.eval rfl) (qx_seq (qx_seq (reg_seq ?_))))
    refine sI hS (eqS2 rfl rfl hk) fun _ hS => ?_
    refine sI hS (runs_assign rfl) fun _ hS => ?_
    refine nil_ok (wp_cond_false (hS.eval rfl) (qx_seq (reg_seq ?_)))
    refine sI hS (eqS3 rfl rfl hk) fun _ hS => ?_
    refine sI hS (runs_assign rfl) fun _ hS => ?_
    refine nil_ok (wp_cond_false (hS.eval rfl) (reg_seq ?_))
    refine sI hS (eqS4 rfl rfl hk) fun _ hS => ?_
    refine sI hS (runs_assign rfl) fun _ hS => ?_
    refine nil_ok (wp_cond_false (hS.eval rfl) (wp_skip (qx_seq (reg_seq ?_))))
    refine sI hS (runs_move rfl) fun _ hS => ?_
    refine sI hS (runs_move rfl) fun _ hS => ?_
    refine sI hS (runs_add rfl rfl (wrap64 (by omega) (by omega))) fun _ hS => ?_
    refine sI hS (runs_assign rfl) fun _ hS => ?_
    exact nil_ok (qx_ret (ret1 (t := 6) (by kernel_rfl) hS rfl ⟨_, rfl, by rw [hk]; try rfl, rfl⟩))
  · skip
    refine calls_qx (args := [.string tg, .int .i64 x, .int .i64 y]) 23 Try.func42 rfl (by kernel_rfl) (by simp) (fun a hS => ?_)
    refine qx_seq (reg_seq ?_)
    refine sI hS (runs_assign rfl) fun _ hS => ?_
    refine nil_ok (qx_seq (qx_seq (reg_seq ?_)))
    refine sI hS (runs_move rfl) fun _ hS => ?_
    refine nil_ok (qx_block (qx_seq (reg_seq ?_)))
    refine sI hS (eqS1 rfl rfl hk) fun _ hS => ?_
    refine sI hS (runs_assign rfl) fun _ hS => ?_
    refine nil_ok (wp_cond_false (hS.eval rfl) (qx_seq (qx_seq (reg_seq ?_))))
    refine sI hS (eqS2 rfl rfl hk) fun _ hS => ?_
    refine sI hS (runs_assign rfl) fun _ hS => ?_
    refine nil_ok (wp_cond_false (hS.eval rfl) (qx_seq (reg_seq ?_)))
    refine sI hS (eqS3 rfl rfl hk) fun _ hS => ?_
    refine sI hS (runs_assign rfl) fun _ hS => ?_
    refine nil_ok (wp_cond_false (hS.eval rfl) (reg_seq ?_))
    refine sI hS (eqS4 rfl rfl hk) fun _ hS => ?_
    refine sI hS (runs_assign rfl) fun _ hS => ?_
    refine nil_ok (wp_cond_false (hS.eval rfl) (wp_skip (qx_seq (reg_seq ?_))))
    refine sI hS (runs_move rfl) fun _ hS => ?_
    refine sI hS (runs_move rfl) fun _ hS => ?_
    refine sI hS (runs_add rfl rfl (wrap64 (by omega) (by omega))) fun _ hS => ?_
    refine sI hS (runs_assign rfl) fun _ hS => ?_
    exact nil_ok (qx_ret (ret1 (t := 6) (by kernel_rfl) hS rfl ⟨_, rfl, by rw [hk]; try rfl, rfl⟩))
  · skip
    refine calls_qx (args := [.string tg, .int .i64 x, .int .i64 y]) 23 Try.func42 rfl (by kernel_rfl) (by simp) (fun a hS => ?_)
    refine qx_seq (reg_seq ?_)
    refine sI hS (runs_assign rfl) fun _ hS => ?_
    refine nil_ok (qx_seq (qx_seq (reg_seq ?_)))
    refine sI hS (runs_move rfl) fun _ hS => ?_
    refine nil_ok (qx_block (qx_seq (reg_seq ?_)))
    refine sI hS (eqS1 rfl rfl hk) fun _ hS => ?_
    refine sI hS (runs_assign rfl) fun _ hS => ?_
    refine nil_ok (wp_cond_false (hS.eval rfl) (qx_seq (qx_seq (reg_seq ?_))))
    refine sI hS (eqS2 rfl rfl hk) fun _ hS => ?_
    refine sI hS (runs_assign rfl) fun _ hS => ?_
    refine nil_ok (wp_cond_false (hS.eval rfl) (qx_seq (reg_seq ?_)))
    refine sI hS (eqS3 rfl rfl hk) fun _ hS => ?_
    refine sI hS (runs_assign rfl) fun _ hS => ?_
    refine nil_ok (wp_cond_false (hS.eval rfl) (reg_seq ?_))
    refine sI hS (eqS4 rfl rfl hk) fun _ hS => ?_
    refine sI hS (runs_assign rfl) fun _ hS => ?_
    refine nil_ok (wp_cond_false (hS.eval rfl) (wp_skip (qx_seq (reg_seq ?_))))
    refine sI hS (runs_move rfl) fun _ hS => ?_
    refine sI hS (runs_move rfl) fun _ hS => ?_
    refine sI hS (runs_add rfl rfl (wrap64 (by omega) (by omega))) fun _ hS => ?_
    refine sI hS (runs_assign rfl) fun _ hS => ?_
    exact nil_ok (qx_ret (ret1 (t := 6) (by kernel_rfl) hS rfl ⟨_, rfl, by rw [hk]; try rfl, rfl⟩))
set_option maxHeartbeats 1000000 in
theorem fold_any (tg : ByteArray) (x y : Int) (w : World) : Ans 25 [.string tg, .int .i64 x, .int .i64 y] w (fun u w' => u = .tuple #[.int .i64 (foldL (kindL tg.data.toList) x y).1, .int .i64 (foldL (kindL tg.data.toList) x y).2] ∧ w' = w) := by
  by_cases hk : kindL tg.data.toList = 0
  · skip
    refine calls_qx (args := [.string tg, .int .i64 x, .int .i64 y]) 25 Try.func25 rfl (by kernel_rfl) (by simp) (fun a hS => ?_)
    refine qx_seq (reg_seq ?_)
    refine sI hS (runs_assign rfl) fun _ hS => ?_
    refine sI hS (runs_assign rfl) fun _ hS => ?_
    refine nil_ok (qx_seq (qx_seq (reg_seq ?_)))
    refine sI hS (runs_move rfl) fun _ hS => ?_
    refine sI hS (runs_call (args := [.string tg]) goes23 rfl (known_is _ w (b := false) (by rw [hk]; rfl))) fun _ hS => ?_
    refine sI hS (runs_not (b := false) rfl) fun _ hS => ?_
    refine nil_ok (wp_cond_true (hS.eval rfl) (qx_seq (reg_seq ?_)))
    refine sI hS (runs_assign rfl) fun _ hS => ?_
    refine sI hS (runs_assign rfl) fun _ hS => ?_
    exact nil_ok (qx_ret (ret2 (t := 6) (u := 7) (by kernel_rfl) hS rfl rfl ⟨_, rfl, by unfold foldL; rw [hk]; rfl, rfl⟩))
  refine calls_qx (args := [.string tg, .int .i64 x, .int .i64 y]) 25 Try.func25 rfl (by kernel_rfl) (by simp) (fun a hS => ?_)
  refine qx_seq (reg_seq ?_)
  refine sI hS (runs_assign rfl) fun _ hS => ?_
  refine sI hS (runs_assign rfl) fun _ hS => ?_
  refine nil_ok (qx_seq (qx_seq (reg_seq ?_)))
  refine sI hS (runs_move rfl) fun _ hS => ?_
  refine sI hS (runs_call (args := [.string tg]) goes23 rfl (known_is _ w (b := true) (by simpa using hk))) fun _ hS => ?_
  refine sI hS (runs_not (b := true) rfl) fun _ hS => ?_
  refine nil_ok (wp_cond_false (hS.eval rfl) (wp_skip (qx_seq (qx_seq (reg_seq ?_)))))
  refine sI hS (runs_move rfl) fun _ hS => ?_
  by_cases h1 : great x = true
  · skip
    refine sI hS (runs_call (args := [.int .i64 x]) goes41 rfl (great_is w h1)) fun _ hS => ?_
    refine sI hS (runs_move rfl) fun _ hS => ?_
    refine sN hS fun _ hS => ?_
    refine sN hS fun _ hS => ?_
    refine sI hS (runs_pick rfl rfl) fun _ hS => ?_
    refine nil_ok (wp_cond_true (hS.eval rfl) (qx_seq (reg_seq ?_)))
    refine sI hS (runs_assign rfl) fun _ hS => ?_
    refine sI hS (runs_assign rfl) fun _ hS => ?_
    exact nil_ok (qx_ret (ret2 (t := 6) (u := 7) (by kernel_rfl) hS rfl rfl ⟨_, rfl, by unfold foldL; rw [if_neg hk]; simp [h1], rfl⟩))
  refine sI hS (runs_call (args := [.int .i64 x]) goes41 rfl (great_is w (Bool.eq_false_iff.2 h1))) fun _ hS => ?_
  refine sI hS (runs_move rfl) fun _ hS => ?_
  refine sY hS (runs_move rfl) fun _ hS => ?_
  by_cases h2 : great y = true
  · skip
    refine sY hS (runs_call (args := [.int .i64 y]) goes41 rfl (great_is w h2)) fun _ hS => ?_
    refine sI hS (runs_pick rfl rfl) fun _ hS => ?_
    refine nil_ok (wp_cond_true (hS.eval rfl) (qx_seq (reg_seq ?_)))
    refine sI hS (runs_assign rfl) fun _ hS => ?_
    refine sI hS (runs_assign rfl) fun _ hS => ?_
    exact nil_ok (qx_ret (ret2 (t := 6) (u := 7) (by kernel_rfl) hS rfl rfl ⟨_, rfl, by unfold foldL; rw [if_neg hk]; simp [h1, h2], rfl⟩))
  refine sY hS (runs_call (args := [.int .i64 y]) goes41 rfl (great_is w (Bool.eq_false_iff.2 h2))) fun _ hS => ?_
  refine sI hS (runs_pick rfl rfl) fun _ hS => ?_
  refine nil_ok (wp_cond_false (hS.eval rfl) (wp_skip (qx_seq (reg_seq ?_))))
  refine sI hS (runs_move rfl) fun _ hS => ?_
  refine sI hS (runs_move rfl) fun _ hS => ?_
  refine sI hS (runs_move rfl) fun _ hS => ?_
  refine sI hS (runs_call (args := [.string tg, .int .i64 x, .int .i64 y]) goes42 rfl (folded_any tg x y (Bool.eq_false_iff.2 h1) (Bool.eq_false_iff.2 h2) w)) fun _ hS => ?_
  refine sI hS (runs_assign rfl) fun _ hS => ?_
  refine nil_ok (qx_seq (qx_seq (reg_seq ?_)))
  refine sI hS (runs_move rfl) fun _ hS => ?_
  by_cases h3 : great (foldV (kindL tg.data.toList) x y) = true
  · skip
    refine sI hS (runs_call (args := [.int .i64 (foldV (kindL tg.data.toList) x y)]) goes41 rfl (great_is w h3)) fun _ hS => ?_
    refine nil_ok (wp_cond_true (hS.eval rfl) (qx_seq (reg_seq ?_)))
    refine sI hS (runs_assign rfl) fun _ hS => ?_
    refine sI hS (runs_assign rfl) fun _ hS => ?_
    exact nil_ok (qx_ret (ret2 (t := 6) (u := 7) (by kernel_rfl) hS rfl rfl ⟨_, rfl, by unfold foldL; rw [if_neg hk]; simp [h1, h2, h3], rfl⟩))
  refine sI hS (runs_call (args := [.int .i64 (foldV (kindL tg.data.toList) x y)]) goes41 rfl (great_is w (Bool.eq_false_iff.2 h3))) fun _ hS => ?_
  refine nil_ok (wp_cond_false (hS.eval rfl) (wp_skip (qx_seq (reg_seq ?_))))
  refine sI hS (runs_move rfl) fun _ hS => ?_
  refine sI hS (runs_assign rfl) fun _ hS => ?_
  refine sI hS (runs_assign rfl) fun _ hS => ?_
  exact nil_ok (qx_ret (ret2 (t := 6) (u := 7) (by kernel_rfl) hS rfl rfl ⟨_, rfl, by unfold foldL; rw [if_neg hk]; simp [h1, h2, h3], rfl⟩))
end Go.Proofs.Ythenbmalnmaofaa
