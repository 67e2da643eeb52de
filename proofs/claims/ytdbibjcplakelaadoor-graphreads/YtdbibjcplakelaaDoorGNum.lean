/- Layer 5: numbers of a text. Conditions: none of our own. -/
import Derived.Test.YtdbibjcplakelaaDoorGCheck
import Derived.Test.YtdbibjcplakelaaDoorGText
namespace Go.Proofs.YtdbibjcplakelaaDoor
open Go.RowKit
set_option maxRecDepth 100000

theorem goes75 : Goes Tryd.prog 75 := goes_of Tryd.func75 (by kernel_rfl) rfl
theorem bytes_get (s : ByteArray) (i : Nat) (h : i < s.size) : s[i]? = s.data.toList[i]? := by
  have h2 : i < s.data.size := h
  rw [Array.getElem?_toList, Array.getElem?_eq_getElem h2]
  simp [h]; rfl
theorem size_list (s : ByteArray) : s.data.toList.length = s.size := by rw [Array.length_toList]; rfl
theorem dv_step {l : Bs} {i : Nat} {b : UInt8} (h : l[i]? = some b) (n : Nat) : dv (l.drop i) n = if b.toNat < 48 ∨ b.toNat > 57 then none else dv (l.drop (i + 1)) (10 * n + (b.toNat - 48)) := by
  obtain ⟨hi, hb⟩ := List.getElem?_eq_some_iff.1 h
  rw [List.drop_eq_getElem_cons hi, hb, dv]
/-- What comes behind a region: the rest of the text from the piece that begins with region id. -/
def tailOf (id : Nat) : Code → Option Code
  | .seq (.region i ops d) c => if i = id then some (.seq (.region i ops d) c) else tailOf id c
  | .seq a b => match tailOf id a with
    | some c => some c
    | none => tailOf id b
  | _ => none
set_option maxHeartbeats 1000000 in
theorem number_any (s : ByteArray) (w : World) : Ans 75 [.string s] w (fun v w' => v = .tuple #[.int .i64 (((num s.data.toList).getD 0 : Nat) : Int), .bool (num s.data.toList).isSome] ∧ w' = w) := by
  have hl := size_list s
  refine calls_qx (args := [.string s]) 47 Tryd.func75 rfl (by kernel_rfl) (by simp) (fun a hS => ?_)
  refine qx_seq (reg_seq ?_)
  refine seq_is hS (by decide) (runs_assign rfl) (fun a1 hS => ?_)
  refine seq_is hS (by decide) (runs_assign rfl) (fun a1 hS => ?_)
  refine nil_ok (qx_seq (qx_seq (reg_seq ?_)))
  refine seq_is hS (by decide) (runs_move rfl) (fun a1 hS => ?_)
  by_cases h1 : s.data.toList = []
  · skip
    refine seq_is hS (by decide) (runs_eqStr (r := true) rfl rfl (by rw [h1]; rfl)) (fun a1 hS => ?_)
    refine seq_is hS (by decide) (runs_move rfl) (fun a1 hS => ?_)
    refine seq_no hS (by decide) rfl (by decide) rfl rfl (fun a1 hS => ?_)
    refine seq_no hS (by decide) rfl (by decide) rfl rfl (fun a1 hS => ?_)
    refine seq_no hS (by decide) rfl (by decide) rfl rfl (fun a1 hS => ?_)
    refine seq_is hS (by decide) (runs_pick rfl rfl) (fun a1 hS => ?_)
    refine seq_is hS (by decide) (runs_move rfl) (fun a1 hS => ?_)
    refine seq_no hS (by decide) rfl (by decide) rfl rfl (fun a1 hS => ?_)
    refine seq_no hS (by decide) rfl (by decide) rfl rfl (fun a1 hS => ?_)
    refine seq_no hS (by decide) rfl (by decide) rfl rfl (fun a1 hS => ?_)
    refine seq_no hS (by decide) rfl (by decide) rfl rfl (fun a1 hS => ?_)
    refine seq_skip2 hS (by decide) rfl (by decide) rfl (fun a1 hS => ?_)
    refine seq_skip2 hS (by decide) rfl (by decide) rfl (fun a1 hS => ?_)
    refine seq_no hS (by decide) rfl (by decide) rfl rfl (fun a1 hS => ?_)
    refine seq_is hS (by decide) (runs_pick rfl rfl) (fun a1 hS => ?_)
    refine nil_ok (wp_cond_true (hS.eval rfl) (qx_seq (reg_seq ?_)))
    refine seq_is hS (by decide) (runs_assign rfl) (fun a1 hS => ?_)
    refine seq_is hS (by decide) (runs_assign rfl) (fun a1 hS => ?_)
    exact nil_ok (qx_ret (ret2 (t := 2) (u := 3) (by kernel_rfl) hS rfl rfl ⟨_, rfl, by rw [num, show badNum s.data.toList = true from by rw [h1]; rfl]; rfl, rfl⟩))
  · skip
    refine seq_is hS (by decide) (runs_eqStr (r := false) rfl rfl (by rw [beq_eq_false_iff_ne]; exact h1)) (fun a1 hS => ?_)
    refine seq_is hS (by decide) (runs_move rfl) (fun a1 hS => ?_)
    refine seq_yis hS (by decide) rfl (by decide) rfl (runs_move rfl) (fun a1 hS => ?_)
    refine seq_yis hS (by decide) rfl (by decide) rfl (runs_lens rfl (by kernel_rfl)) (fun a1 hS => ?_)
    by_cases h2 : (s.size : Int) > 9
    · skip
      refine seq_yis hS (by decide) rfl (by decide) rfl (runs_gtr (r := true) rfl rfl (by rw [decide_eq_true_eq]; omega)) (fun a1 hS => ?_)
      refine seq_is hS (by decide) (runs_pick rfl rfl) (fun a1 hS => ?_)
      refine seq_is hS (by decide) (runs_move rfl) (fun a1 hS => ?_)
      refine seq_no hS (by decide) rfl (by decide) rfl rfl (fun a1 hS => ?_)
      refine seq_no hS (by decide) rfl (by decide) rfl rfl (fun a1 hS => ?_)
      refine seq_no hS (by decide) rfl (by decide) rfl rfl (fun a1 hS => ?_)
      refine seq_no hS (by decide) rfl (by decide) rfl rfl (fun a1 hS => ?_)
      refine seq_skip2 hS (by decide) rfl (by decide) rfl (fun a1 hS => ?_)
      refine seq_skip2 hS (by decide) rfl (by decide) rfl (fun a1 hS => ?_)
      refine seq_no hS (by decide) rfl (by decide) rfl rfl (fun a1 hS => ?_)
      refine seq_is hS (by decide) (runs_pick rfl rfl) (fun a1 hS => ?_)
      refine nil_ok (wp_cond_true (hS.eval rfl) (qx_seq (reg_seq ?_)))
      refine seq_is hS (by decide) (runs_assign rfl) (fun a1 hS => ?_)
      refine seq_is hS (by decide) (runs_assign rfl) (fun a1 hS => ?_)
      exact nil_ok (qx_ret (ret2 (t := 2) (u := 3) (by kernel_rfl) hS rfl rfl ⟨_, rfl, by rw [num, show badNum s.data.toList = true from by unfold badNum; rw [show decide (s.data.toList.length > 9) = true by rw [hl, decide_eq_true_eq]; omega]; simp]; rfl, rfl⟩))
    · skip
      refine seq_yis hS (by decide) rfl (by decide) rfl (runs_gtr (r := false) rfl rfl (by rw [decide_eq_false_iff_not]; omega)) (fun a1 hS => ?_)
      obtain ⟨b, l, hbl⟩ : ∃ b l, s.data.toList = b :: l := by
        cases hh : s.data.toList with
        | nil => exact absurd hh h1
        | cons b l => exact ⟨b, l, rfl⟩
      have hb0 : s[0]? = some b := by rw [bytes_get s 0 (by rw [← hl, hbl]; simp), hbl]; rfl
      refine seq_is hS (by decide) (runs_pick rfl rfl) (fun a1 hS => ?_)
      refine seq_is hS (by decide) (runs_move rfl) (fun a1 hS => ?_)
      refine seq_yis hS (by decide) rfl (by decide) rfl (runs_move rfl) (fun a1 hS => ?_)
      refine seq_yis hS (by decide) rfl (by decide) rfl (runs_index (j := 0) rfl rfl rfl und9 hb0) (fun a1 hS => ?_)
      have body : badNum s.data.toList = false → ∀ (L : List (Nat × Value)) (a9 : Act), Sees 47 L a9 → look L 0 = some (.string s) → ((Tryd.f75.body.bind (tailOf 3)).getD .skip).wp Tryd.prog (Qx (Rets Tryd.prog Tryd.f75 (fun e w' => ∃ v, e = .returned v ∧ (v = .tuple #[.int .i64 (((num s.data.toList).getD 0 : Nat) : Int), .bool (num s.data.toList).isSome] ∧ w' = w))) (fun _ _ _ => False) (Rets Tryd.prog Tryd.f75 (fun e w' => ∃ v, e = .returned v ∧ (v = .tuple #[.int .i64 (((num s.data.toList).getD 0 : Nat) : Int), .bool (num s.data.toList).isSome] ∧ w' = w)))) a9 w := fun hg L a9 hS h0 => by
        have hS := hS.only [(0, .string s)] ⟨h0, trivial⟩
        rw [num, hg]
        simp only [Bool.false_eq_true, if_false]
        refine qx_seq (reg_seq ?_)
        refine seq_is hS (by decide) (runs_assign rfl) (fun a1 hS => ?_)
        refine nil_ok (qx_seq (qx_seq (reg_seq ?_)))
        refine seq_is hS (by decide) (runs_move rfl) (fun a1 hS => ?_)
        refine seq_is hS (by decide) (runs_lens rfl (by kernel_rfl)) (fun a1 hS => ?_)
        refine seq_is hS (by decide) (runs_move rfl) (fun a1 hS => ?_)
        refine nil_ok (qx_range (fun m a w' => ∃ (i n : Nat), i ≤ s.size ∧ m = s.size - i ∧ w' = w ∧ n < 10 ^ i ∧ dv s.data.toList 0 = dv (s.data.toList.drop i) n ∧ Sees 47 [(24, .int .i64 (i : Int)), (23, .int .i64 (s.size : Int)), (4, .int .i64 (n : Int)), (0, .string s)] a) s.size ⟨0, 0, by omega, by omega, rfl, by simp, by rw [List.drop_zero], hS.only _ ⟨rfl, rfl, rfl, rfl, trivial⟩⟩ ?_)
        rintro m a w' ⟨i, n, hi, rfl, rfl, hn, he, hS⟩
        have hn9 : n < 10 ^ 9 := Nat.lt_of_lt_of_le hn (Nat.pow_le_pow_right (by omega) (by omega))
        refine reg_seq ?_
        by_cases hlt : i < s.size
        · skip
          obtain ⟨d, hd⟩ : ∃ d, s.data.toList[i]? = some d := ⟨_, List.getElem?_eq_getElem (by rw [hl]; exact hlt)⟩
          have hsd : s[i]? = some d := by rw [bytes_get s i hlt, hd]
          rw [dv_step hd] at he
          refine seq_is hS (by decide) (runs_lss (r := true) rfl rfl (by rw [decide_eq_true_eq]; omega)) (fun a1 hS => ?_)
          refine nil_ok ⟨_, hS.eval rfl, fun h => by simp at h, fun _ => ?_⟩
          refine qx_seq (qx_block (qx_seq (reg_seq ?_)))
          refine seq_is hS (by decide) (runs_move rfl) (fun a1 hS => ?_)
          refine seq_is hS (by decide) (runs_assign rfl) (fun a1 hS => ?_)
          refine nil_ok (qx_seq (qx_seq (reg_seq ?_)))
          refine seq_is hS (by decide) (runs_move rfl) (fun a1 hS => ?_)
          refine seq_is hS (by decide) (runs_move rfl) (fun a1 hS => ?_)
          refine seq_is hS (by decide) (runs_index (j := i) rfl rfl rfl und9 hsd) (fun a1 hS => ?_)
          by_cases d1 : (d.toNat : Int) < 48
          · skip
            refine seq_is hS (by decide) (runs_lss (r := true) rfl rfl (by rw [decide_eq_true_eq]; omega)) (fun a1 hS => ?_)
            refine seq_is hS (by decide) (runs_move rfl) (fun a1 hS => ?_)
            refine seq_no hS (by decide) rfl (by decide) rfl rfl (fun a1 hS => ?_)
            refine seq_no hS (by decide) rfl (by decide) rfl rfl (fun a1 hS => ?_)
            refine seq_no hS (by decide) rfl (by decide) rfl rfl (fun a1 hS => ?_)
            refine seq_no hS (by decide) rfl (by decide) rfl rfl (fun a1 hS => ?_)
            refine seq_is hS (by decide) (runs_pick rfl rfl) (fun a1 hS => ?_)
            rw [if_pos (by omega)] at he
            refine nil_ok (wp_cond_true (hS.eval rfl) (qx_seq (reg_seq ?_)))
            refine seq_is hS (by decide) (runs_assign rfl) (fun a1 hS => ?_)
            refine seq_is hS (by decide) (runs_assign rfl) (fun a1 hS => ?_)
            exact nil_ok (qx_ret (ret2 (t := 2) (u := 3) (by kernel_rfl) hS rfl rfl ⟨_, rfl, by rw [he]; rfl, rfl⟩))
          · skip
            refine seq_is hS (by decide) (runs_lss (r := false) rfl rfl (by rw [decide_eq_false_iff_not]; omega)) (fun a1 hS => ?_)
            refine seq_is hS (by decide) (runs_move rfl) (fun a1 hS => ?_)
            refine seq_yis hS (by decide) rfl (by decide) rfl (runs_move rfl) (fun a1 hS => ?_)
            refine seq_yis hS (by decide) rfl (by decide) rfl (runs_move rfl) (fun a1 hS => ?_)
            refine seq_yis hS (by decide) rfl (by decide) rfl (runs_index (j := i) rfl rfl rfl und9 hsd) (fun a1 hS => ?_)
            by_cases d2 : (d.toNat : Int) > 57
            · skip
              refine seq_yis hS (by decide) rfl (by decide) rfl (runs_gtr (r := true) rfl rfl (by rw [decide_eq_true_eq]; omega)) (fun a1 hS => ?_)
              refine seq_is hS (by decide) (runs_pick rfl rfl) (fun a1 hS => ?_)
              rw [if_pos (by omega)] at he
              refine nil_ok (wp_cond_true (hS.eval rfl) (qx_seq (reg_seq ?_)))
              refine seq_is hS (by decide) (runs_assign rfl) (fun a1 hS => ?_)
              refine seq_is hS (by decide) (runs_assign rfl) (fun a1 hS => ?_)
              exact nil_ok (qx_ret (ret2 (t := 2) (u := 3) (by kernel_rfl) hS rfl rfl ⟨_, rfl, by rw [he]; rfl, rfl⟩))
            · skip
              refine seq_yis hS (by decide) rfl (by decide) rfl (runs_gtr (r := false) rfl rfl (by rw [decide_eq_false_iff_not]; omega)) (fun a1 hS => ?_)
              refine seq_is hS (by decide) (runs_pick rfl rfl) (fun a1 hS => ?_)
              rw [if_neg (by omega)] at he
              refine nil_ok (wp_cond_false (hS.eval rfl) (wp_skip (reg_seq ?_)))
              refine seq_is hS (by decide) (runs_move rfl) (fun a1 hS => ?_)
              refine seq_is hS (by decide) (runs_mul (r := ((10 * n : Nat) : Int)) rfl rfl (by simp [IntKind.wrap, IntKind.bits, IntKind.signed]; omega)) (fun a1 hS => ?_)
              refine seq_is hS (by decide) (runs_move rfl) (fun a1 hS => ?_)
              refine seq_is hS (by decide) (runs_move rfl) (fun a1 hS => ?_)
              refine seq_is hS (by decide) (runs_index (j := i) rfl rfl rfl und9 hsd) (fun a1 hS => ?_)
              refine seq_is hS (by decide) (runs_sub (r := ((d.toNat - 48 : Nat) : Int)) rfl rfl (by simp [IntKind.wrap, IntKind.bits, IntKind.signed]; omega)) (fun a1 hS => ?_)
              refine seq_is hS (by decide) (runs_convInt (k' := .i64) (r := ((d.toNat - 48 : Nat) : Int)) rfl (by rw [Tryd.underlying5]; rfl) und3 (by simp [IntKind.wrap, IntKind.bits, IntKind.signed]; omega)) (fun a1 hS => ?_)
              refine seq_is hS (by decide) (runs_add (r := ((10 * n + (d.toNat - 48) : Nat) : Int)) rfl rfl (by simp [IntKind.wrap, IntKind.bits, IntKind.signed]; omega)) (fun a1 hS => ?_)
              refine seq_is hS (by decide) (runs_assign rfl) (fun a1 hS => ?_)
              refine nil_ok ?_
              refine reg_seq ?_
              refine seq_is hS (by decide) (runs_add (r := ((i + 1 : Nat) : Int)) rfl rfl (by simp [IntKind.wrap, IntKind.bits, IntKind.signed]; omega)) (fun a1 hS => ?_)
              refine seq_is hS (by decide) (runs_move rfl) (fun a1 hS => ?_)
              exact nil_ok ⟨_, by omega, i + 1, 10 * n + (d.toNat - 48), by omega, rfl, rfl, by rw [Nat.pow_succ]; omega, he, hS.only _ ⟨rfl, rfl, rfl, rfl, trivial⟩⟩
        · skip
          refine seq_is hS (by decide) (runs_lss (r := false) rfl rfl (by rw [decide_eq_false_iff_not]; omega)) (fun a1 hS => ?_)
          refine nil_ok ⟨_, hS.eval rfl, fun _ => ?_, fun h => by simp at h⟩
          refine qx_seq (reg_seq ?_)
          rw [List.drop_eq_nil_of_le (by omega), dv] at he
          refine seq_is hS (by decide) (runs_move rfl) (fun a1 hS => ?_)
          refine seq_is hS (by decide) (runs_assign rfl) (fun a1 hS => ?_)
          refine seq_is hS (by decide) (runs_assign rfl) (fun a1 hS => ?_)
          exact nil_ok (qx_ret (ret2 (t := 2) (u := 3) (by kernel_rfl) hS rfl rfl ⟨_, rfl, by rw [he]; rfl, rfl⟩))
      have h9 : decide (s.data.toList.length > 9) = false := by rw [hl, decide_eq_false_iff_not]; omega
      by_cases h3 : (b.toNat : Int) = 48
      · skip
        have hb48 : b = 48 := UInt8.toNat_inj.1 (show b.toNat = (48 : UInt8).toNat by simp; omega)
        refine seq_yis hS (by decide) rfl (by decide) rfl (runs_eql (r := true) rfl rfl (by simp [h3])) (fun a1 hS => ?_)
        refine seq_yis hS (by decide) rfl (by decide) rfl (runs_move rfl) (fun a1 hS => ?_)
        refine seq_yis hS (by decide) rfl (by decide) rfl (runs_move rfl) (fun a1 hS => ?_)
        by_cases h4 : s.data.toList = [48]
        · skip
          refine seq_yis hS (by decide) rfl (by decide) rfl (runs_neStr (r := false) rfl rfl (by rw [h4]; rfl)) (fun a1 hS => ?_)
          refine seq_yis hS (by decide) rfl (by decide) rfl (runs_pick rfl rfl) (fun a1 hS => ?_)
          refine seq_is hS (by decide) (runs_pick rfl rfl) (fun a1 hS => ?_)
          refine nil_ok (wp_cond_false (hS.eval rfl) (wp_skip ?_))
          exact body (by rw [h4]; rfl) _ _ hS rfl
        · skip
          refine seq_yis hS (by decide) rfl (by decide) rfl (runs_neStr (r := true) rfl rfl (by simpa using h4)) (fun a1 hS => ?_)
          refine seq_yis hS (by decide) rfl (by decide) rfl (runs_pick rfl rfl) (fun a1 hS => ?_)
          refine seq_is hS (by decide) (runs_pick rfl rfl) (fun a1 hS => ?_)
          refine nil_ok (wp_cond_true (hS.eval rfl) (qx_seq (reg_seq ?_)))
          refine seq_is hS (by decide) (runs_assign rfl) (fun a1 hS => ?_)
          refine seq_is hS (by decide) (runs_assign rfl) (fun a1 hS => ?_)
          exact nil_ok (qx_ret (ret2 (t := 2) (u := 3) (by kernel_rfl) hS rfl rfl ⟨_, rfl, by rw [num, show badNum s.data.toList = true from by unfold badNum; rw [hbl, hb48] at *; simp at h4 ⊢; simp [h4]]; rfl, rfl⟩))
      · skip
        have hb48 : b ≠ 48 := fun h => h3 (by rw [h]; rfl)
        refine seq_yis hS (by decide) rfl (by decide) rfl (runs_eql (r := false) rfl rfl (by simp [h3])) (fun a1 hS => ?_)
        refine seq_yis hS (by decide) rfl (by decide) rfl (runs_move rfl) (fun a1 hS => ?_)
        refine seq_no hS (by decide) rfl (by decide) rfl rfl (fun a1 hS => ?_)
        refine seq_no hS (by decide) rfl (by decide) rfl rfl (fun a1 hS => ?_)
        refine seq_yis hS (by decide) rfl (by decide) rfl (runs_pick rfl rfl) (fun a1 hS => ?_)
        refine seq_is hS (by decide) (runs_pick rfl rfl) (fun a1 hS => ?_)
        refine nil_ok (wp_cond_false (hS.eval rfl) (wp_skip ?_))
        exact body (by unfold badNum; rw [h9, hbl]; simp [hb48]) _ _ hS rfl
end Go.Proofs.YtdbibjcplakelaaDoor
