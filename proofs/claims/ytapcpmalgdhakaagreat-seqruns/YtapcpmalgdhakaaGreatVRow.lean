/- Rows of numbers and of vertices compared. No condition. -/
import Derived.Test.YtapcpmalgdhakaaGreatVMem
import Derived.Test.YtapcpmalgdhakaaGreatIMem
namespace Go.Proofs.YtapcpmalgdhakaaGreat
open Go.RowKit
set_option maxRecDepth 100000

section
variable {L : List (Nat × Value)} {w : World} {ty : TypeId}
theorem run_neV (a b : Vx) (w : World) : (binOp .neq 50 (vv a) (vv b)).run Tryz.prog w = .ok (.bool (!decide (a = b))) w := by
  have h := run_eqV a b w
  rw [run_eql_struct] at h
  rw [run_neq_struct]
  generalize (Op.equalIn 10000 50 (vv a) (vv b)).run Tryz.prog w = r at h ⊢
  cases r with
  | ok x w1 => simp only [Result.andThen_ok, Result.ok.injEq, Value.bool.injEq] at h ⊢; exact ⟨by rw [h.1], h.2⟩
  | _ => simp [Result.andThen] at h
theorem runs_neV {t' : TypeId} {X Y : Operand} {a b : Vx} {r : Bool} (hx : vals L X = some (vv a)) (hy : vals L Y = some (vv b)) (hr : (!decide (a = b)) = r) : Runs Tryz.prog (.binOp .neq 50 X Y t') ty L w (Is (.bool r) w) := fun o act K Q ho _ hL hK => by
  have ex := hL X (by simp [Op.operands]) _ hx
  have ey := hL Y (by simp [Op.operands]) _ hy
  have h := run_neV a b w
  rw [hr] at h
  have hg : (eqGuard .neq 50 X Y (vv a) (vv b)).run Tryz.prog w = .ok () w := by
    have hp : Tryz.prog.eqGuardType Tryz.prog.depth 50 = false := by kernel_rfl
    simp [eqGuard, hp]
  unfold Oper.wp
  have : (execOp act.eval o).run Tryz.prog w = .ok (.value (.bool r)) w := by
    simp only [execOp, ho, ex, ey]
    simp only [Sem.run_bind, hg, Result.andThen_ok, h, Sem.run_pure]
  rw [this]
  exact hK _ w ⟨rfl, rfl⟩
end
theorem goes13 : Goes Tryz.prog 13 := goes_of Tryz.func13 (by kernel_rfl) rfl
set_option maxHeartbeats 1000000 in
theorem row_any (xs ys : List Int) (va vb : Value) (w : World) (ha : Nums w va xs) (hb : Nums w vb ys) : Ans 13 [va, vb] w (fun u w' => u = .bool (decide (xs = ys)) ∧ Below w.heap.size w w') := by
  have ha0 := ha
  have hb0 := hb
  obtain ⟨A, c, rfl, _, h2, hA⟩ := ha
  obtain ⟨A', c', rfl, _, _, hA'⟩ := hb
  unfold maxLen at h2
  refine calls_qx (args := [.slice A xs.length c, .slice A' ys.length c']) 26 Tryz.func13 rfl (by kernel_rfl) (by simp) (fun a hS => ?_)
  refine qx_seq (reg_seq ?_)
  refine seq_is hS (by decide) (runs_assign rfl) (fun a1 hS => ?_)
  refine nil_ok (qx_seq (qx_seq (reg_seq ?_)))
  refine seq_is hS (by decide) (runs_move rfl) (fun a1 hS => ?_)
  refine seq_is hS (by decide) (runs_len rfl undI64) (fun a1 hS => ?_)
  refine seq_is hS (by decide) (runs_move rfl) (fun a1 hS => ?_)
  refine seq_is hS (by decide) (runs_len rfl undI64) (fun a1 hS => ?_)
  by_cases hl : xs.length = ys.length
  · skip
    refine seq_is hS (by decide) (runs_neq (r := false) rfl rfl (by simp; omega)) (fun a1 hS => ?_)
    refine nil_ok (wp_cond_false (hS.eval rfl) (wp_skip (qx_seq (qx_seq (reg_seq ?_)))))
    refine seq_is hS (by decide) (runs_assign rfl) (fun a1 hS => ?_)
    refine nil_ok (qx_for (fun m a w' => ∃ i : Nat, i ≤ xs.length ∧ m = xs.length - i ∧ Below w.heap.size w w' ∧ (∀ j, j < i → xs[j]? = ys[j]?) ∧ Sees 26 [(5, .int .i64 (i : Int)), (0, .slice A xs.length c), (1, .slice A' ys.length c')] a) xs.length ⟨0, by omega, by omega, Below.refl _ _, by omega, hS.only _ ⟨rfl, rfl, rfl, trivial⟩⟩ ?_)
    rintro m a w' ⟨i, hi, rfl, hB, heq, hS⟩
    refine reg_seq ?_
    refine seq_is hS (by decide) (runs_move rfl) (fun a1 hS => ?_)
    refine seq_is hS (by decide) (runs_move rfl) (fun a1 hS => ?_)
    refine seq_is hS (by decide) (runs_len rfl undI64) (fun a1 hS => ?_)
    by_cases hlt : i < xs.length
    · skip
      obtain ⟨b, o, rfl, hb, hr⟩ := hA (by omega)
      obtain ⟨b', o', rfl, hb', hr'⟩ := hA' (by omega)
      obtain ⟨x, hx⟩ : ∃ x, xs[i]? = some x := ⟨_, List.getElem?_eq_getElem hlt⟩
      obtain ⟨y, hy⟩ : ∃ y, ys[i]? = some y := ⟨_, List.getElem?_eq_getElem (by omega)⟩
      have hrx := range_below (nums_at hr hx) hB hb
      have hry := range_below (nums_at hr' hy) hB hb'
      have hbw := Nat.lt_of_lt_of_le hb hB.size
      have hbw' := Nat.lt_of_lt_of_le hb' hB.size
      refine seq_is hS (by decide) (runs_lss (r := true) rfl rfl (by rw [decide_eq_true_eq]; omega)) (fun a1 hS => ?_)
      refine nil_ok ⟨_, hS.eval rfl, fun h => by simp at h, fun _ => ?_⟩
      refine qx_seq (qx_block ?_)
      refine qx_seq (reg_guard (fun w2 => Below w'.heap.size w' w2) [.inl (.slice (some ⟨b, o, none⟩) xs.length c), .inl (.int .i64 (i : Int)), .inl (.pointer (some ⟨b, o + i * 1, none⟩)), .inl (.int .i64 x), .inl (.slice (some ⟨b', o', none⟩) ys.length c'), .inl (.int .i64 (i : Int)), .inl (.pointer (some ⟨b', o' + i * 1, none⟩)), .inl (.int .i64 y), .inl (.bool (!decide (x = y)))] 9 0 mixed rfl (by kernel_rfl) hS (Below.refl _ _) (fun _ h => h.drew) ?_)
      refine hs_is rfl (fun w' hw => runs_move rfl) ?_
      refine hs_is rfl (fun w' hw => runs_move rfl) ?_
      refine hs_is rfl (fun w' hw => runs_indexAddrG (j := i) rfl rfl undI64 siz2 rfl hlt) ?_
      refine hs_is rfl (fun w' hw => runs_load rfl pl2 (by have h0 := (range_below hrx hw hbw) 0 _ rfl; exact h0)) ?_
      refine hs_is rfl (fun w' hw => runs_move rfl) ?_
      refine hs_is rfl (fun w' hw => runs_move rfl) ?_
      refine hs_is rfl (fun w' hw => runs_indexAddrG (j := i) rfl rfl undI64 siz2 rfl (by omega)) ?_
      refine hs_is rfl (fun w' hw => runs_load rfl pl2 (by have h0 := (range_below hry hw hbw') 0 _ rfl; exact h0)) ?_
      refine hs_is rfl (fun w' hw => runs_neq rfl rfl (by by_cases h : x = y <;> simp [h])) ?_
      refine (fun a5 w5 hS5 hB5 _ => ?_)
      refine wpAnyH_done (by kernel_rfl) ?_ _
      have hB := hB.trans (hB5.mono hB.size)
      have hS := hS5
      by_cases hxy : x = y
      · skip
        rw [show (!decide (x = y)) = false by simp [hxy]] at hS
        refine wp_cond_false (hS.eval rfl) (wp_skip ?_)
        refine reg_seq ?_
        refine seq_is hS (by decide) (runs_move rfl) (fun a1 hS => ?_)
        refine seq_is hS (by decide) (runs_add (r := ((i + 1 : Nat) : Int)) rfl rfl (by simp [IntKind.wrap, IntKind.bits, IntKind.signed]; omega)) (fun a1 hS => ?_)
        refine seq_is hS (by decide) (runs_assign rfl) (fun a1 hS => ?_)
        exact nil_ok ⟨_, by omega, i + 1, by omega, rfl, hB, fun j hj => by
          by_cases hji : j = i
          · subst hji; rw [hx, hy, hxy]
          · exact heq j (by omega), hS.only _ ⟨rfl, rfl, rfl, trivial⟩⟩
      · skip
        rw [show (!decide (x = y)) = true by simp [hxy]] at hS
        refine wp_cond_true (hS.eval rfl) (qx_seq (reg_seq ?_))
        refine seq_is hS (by decide) (runs_assign rfl) (fun a1 hS => ?_)
        exact nil_ok (qx_ret (ret1 (t := 4) (by kernel_rfl) hS rfl ⟨_, rfl, by rw [decide_eq_false (fun h => hxy (by rw [h, hy] at hx; exact (Option.some.inj hx).symm))], hB⟩))
    · skip
      refine seq_is hS (by decide) (runs_lss (r := false) rfl rfl (by rw [decide_eq_false_iff_not]; omega)) (fun a1 hS => ?_)
      refine nil_ok ⟨_, hS.eval rfl, fun _ => ?_, fun h => by simp at h⟩
      refine qx_seq (reg_seq ?_)
      refine seq_is hS (by decide) (runs_assign rfl) (fun a1 hS => ?_)
      exact nil_ok (qx_ret (ret1 (t := 4) (by kernel_rfl) hS rfl ⟨_, rfl, by rw [decide_eq_true (List.ext_getElem? (fun j => by
        by_cases hj : j < xs.length
        · exact heq j (by omega)
        · rw [List.getElem?_eq_none (by omega), List.getElem?_eq_none (by omega)]))], hB⟩))
  · skip
    refine seq_is hS (by decide) (runs_neq (r := true) rfl rfl (by simp; omega)) (fun a1 hS => ?_)
    refine nil_ok (wp_cond_true (hS.eval rfl) (qx_seq (reg_seq ?_)))
    refine seq_is hS (by decide) (runs_assign rfl) (fun a1 hS => ?_)
    exact nil_ok (qx_ret (ret1 (t := 4) (by kernel_rfl) hS rfl ⟨_, rfl, by rw [decide_eq_false (fun h => hl (by rw [h]))], Below.refl _ _⟩))
theorem goes9 : Goes Tryz.prog 9 := goes_of Tryz.func9 (by kernel_rfl) rfl
set_option maxHeartbeats 1000000 in
theorem vsame_any (xs ys : List Vx) (va vb : Value) (w : World) (ha : Verts w va xs) (hb : Verts w vb ys) : Ans 9 [va, vb] w (fun u w' => u = .bool (decide (xs = ys)) ∧ Below w.heap.size w w') := by
  have ha0 := ha
  have hb0 := hb
  obtain ⟨A, c, rfl, _, h2, hA⟩ := ha
  obtain ⟨A', c', rfl, _, _, hA'⟩ := hb
  unfold maxLen at h2
  refine calls_qx (args := [.slice A xs.length c, .slice A' ys.length c']) 26 Tryz.func9 rfl (by kernel_rfl) (by simp) (fun a hS => ?_)
  refine qx_seq (reg_seq ?_)
  refine seq_is hS (by decide) (runs_assign rfl) (fun a1 hS => ?_)
  refine nil_ok (qx_seq (qx_seq (reg_seq ?_)))
  refine seq_is hS (by decide) (runs_move rfl) (fun a1 hS => ?_)
  refine seq_is hS (by decide) (runs_len rfl undVx) (fun a1 hS => ?_)
  refine seq_is hS (by decide) (runs_move rfl) (fun a1 hS => ?_)
  refine seq_is hS (by decide) (runs_len rfl undVx) (fun a1 hS => ?_)
  by_cases hl : xs.length = ys.length
  · skip
    refine seq_is hS (by decide) (runs_neq (r := false) rfl rfl (by simp; omega)) (fun a1 hS => ?_)
    refine nil_ok (wp_cond_false (hS.eval rfl) (wp_skip (qx_seq (qx_seq (reg_seq ?_)))))
    refine seq_is hS (by decide) (runs_assign rfl) (fun a1 hS => ?_)
    refine nil_ok (qx_for (fun m a w' => ∃ i : Nat, i ≤ xs.length ∧ m = xs.length - i ∧ Below w.heap.size w w' ∧ (∀ j, j < i → xs[j]? = ys[j]?) ∧ Sees 26 [(5, .int .i64 (i : Int)), (0, .slice A xs.length c), (1, .slice A' ys.length c')] a) xs.length ⟨0, by omega, by omega, Below.refl _ _, by omega, hS.only _ ⟨rfl, rfl, rfl, trivial⟩⟩ ?_)
    rintro m a w' ⟨i, hi, rfl, hB, heq, hS⟩
    refine reg_seq ?_
    refine seq_is hS (by decide) (runs_move rfl) (fun a1 hS => ?_)
    refine seq_is hS (by decide) (runs_move rfl) (fun a1 hS => ?_)
    refine seq_is hS (by decide) (runs_len rfl undVx) (fun a1 hS => ?_)
    by_cases hlt : i < xs.length
    · skip
      obtain ⟨b, o, rfl, hb, hr⟩ := hA (by omega)
      obtain ⟨b', o', rfl, hb', hr'⟩ := hA' (by omega)
      obtain ⟨x, hx⟩ : ∃ x, xs[i]? = some x := ⟨_, List.getElem?_eq_getElem hlt⟩
      obtain ⟨y, hy⟩ : ∃ y, ys[i]? = some y := ⟨_, List.getElem?_eq_getElem (by omega)⟩
      have hrx := range_below (verts_at hr hx) hB hb
      have hry := range_below (verts_at hr' hy) hB hb'
      have hbw := Nat.lt_of_lt_of_le hb hB.size
      have hbw' := Nat.lt_of_lt_of_le hb' hB.size
      refine seq_is hS (by decide) (runs_lss (r := true) rfl rfl (by rw [decide_eq_true_eq]; omega)) (fun a1 hS => ?_)
      refine nil_ok ⟨_, hS.eval rfl, fun h => by simp at h, fun _ => ?_⟩
      refine qx_seq (qx_block ?_)
      refine qx_seq (reg_guard (fun w2 => Below w'.heap.size w' w2) [.inl (.slice (some ⟨b, o, none⟩) xs.length c), .inl (.int .i64 (i : Int)), .inl (.pointer (some ⟨b, o + i * 5, none⟩)), .inl (vv x), .inl (.slice (some ⟨b', o', none⟩) ys.length c'), .inl (.int .i64 (i : Int)), .inl (.pointer (some ⟨b', o' + i * 5, none⟩)), .inl (vv y), .inl (.bool (!decide (x = y)))] 9 0 mixed rfl (by kernel_rfl) hS (Below.refl _ _) (fun _ h => h.drew) ?_)
      refine hs_is rfl (fun w' hw => runs_move rfl) ?_
      refine hs_is rfl (fun w' hw => runs_move rfl) ?_
      refine hs_is rfl (fun w' hw => runs_indexAddrG (j := i) rfl rfl undVx sz28 rfl hlt) ?_
      refine hs_is rfl (fun w' hw => runs_loadVx rfl (range_below hrx hw hbw)) ?_
      refine hs_is rfl (fun w' hw => runs_move rfl) ?_
      refine hs_is rfl (fun w' hw => runs_move rfl) ?_
      refine hs_is rfl (fun w' hw => runs_indexAddrG (j := i) rfl rfl undVx sz28 rfl (by omega)) ?_
      refine hs_is rfl (fun w' hw => runs_loadVx rfl (range_below hry hw hbw')) ?_
      refine hs_is rfl (fun w' hw => runs_neV rfl rfl rfl) ?_
      refine (fun a5 w5 hS5 hB5 _ => ?_)
      refine wpAnyH_done (by kernel_rfl) ?_ _
      have hB := hB.trans (hB5.mono hB.size)
      have hS := hS5
      by_cases hxy : x = y
      · skip
        rw [show (!decide (x = y)) = false by simp [hxy]] at hS
        refine wp_cond_false (hS.eval rfl) (wp_skip ?_)
        refine reg_seq ?_
        refine seq_is hS (by decide) (runs_move rfl) (fun a1 hS => ?_)
        refine seq_is hS (by decide) (runs_add (r := ((i + 1 : Nat) : Int)) rfl rfl (by simp [IntKind.wrap, IntKind.bits, IntKind.signed]; omega)) (fun a1 hS => ?_)
        refine seq_is hS (by decide) (runs_assign rfl) (fun a1 hS => ?_)
        exact nil_ok ⟨_, by omega, i + 1, by omega, rfl, hB, fun j hj => by
          by_cases hji : j = i
          · subst hji; rw [hx, hy, hxy]
          · exact heq j (by omega), hS.only _ ⟨rfl, rfl, rfl, trivial⟩⟩
      · skip
        rw [show (!decide (x = y)) = true by simp [hxy]] at hS
        refine wp_cond_true (hS.eval rfl) (qx_seq (reg_seq ?_))
        refine seq_is hS (by decide) (runs_assign rfl) (fun a1 hS => ?_)
        exact nil_ok (qx_ret (ret1 (t := 4) (by kernel_rfl) hS rfl ⟨_, rfl, by rw [decide_eq_false (fun h => hxy (by rw [h, hy] at hx; exact (Option.some.inj hx).symm))], hB⟩))
    · skip
      refine seq_is hS (by decide) (runs_lss (r := false) rfl rfl (by rw [decide_eq_false_iff_not]; omega)) (fun a1 hS => ?_)
      refine nil_ok ⟨_, hS.eval rfl, fun _ => ?_, fun h => by simp at h⟩
      refine qx_seq (reg_seq ?_)
      refine seq_is hS (by decide) (runs_assign rfl) (fun a1 hS => ?_)
      exact nil_ok (qx_ret (ret1 (t := 4) (by kernel_rfl) hS rfl ⟨_, rfl, by rw [decide_eq_true (List.ext_getElem? (fun j => by
        by_cases hj : j < xs.length
        · exact heq j (by omega)
        · rw [List.getElem?_eq_none (by omega), List.getElem?_eq_none (by omega)]))], hB⟩))
  · skip
    refine seq_is hS (by decide) (runs_neq (r := true) rfl rfl (by simp; omega)) (fun a1 hS => ?_)
    refine nil_ok (wp_cond_true (hS.eval rfl) (qx_seq (reg_seq ?_)))
    refine seq_is hS (by decide) (runs_assign rfl) (fun a1 hS => ?_)
    exact nil_ok (qx_ret (ret1 (t := 4) (by kernel_rfl) hS rfl ⟨_, rfl, by rw [decide_eq_false (fun h => hl (by rw [h]))], Below.refl _ _⟩))
end Go.Proofs.YtapcpmalgdhakaaGreat
