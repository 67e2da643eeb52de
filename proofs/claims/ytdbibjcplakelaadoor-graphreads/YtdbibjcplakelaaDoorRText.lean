/- The document's Number and words, walked. Conditions: none of our own. -/
import Derived.Test.YtdbibjcplakelaaDoorRDig
namespace Go.Proofs.YtdbibjcplakelaaDoor
open Go.RowKit
set_option maxRecDepth 100000

theorem goes36 : Goes Tryd.prog 36 := goes_of Tryd.func36 (by kernel_rfl) rfl
theorem goes37 : Goes Tryd.prog 37 := goes_of Tryd.func37 (by kernel_rfl) rfl
section
variable {ty : TypeId} {L : List (Nat × Value)} {w : World}
theorem runs_lenL {x : Operand} {l : Bs} (hx : vals L x = some (.string ⟨l.toArray⟩)) : Runs Tryd.prog (.call { callee := .builtin .len, args := #[x], argTypes := #[9] }) ty L w (Is (.int .i64 ((l.length : Nat) : Int)) w) := runs_lens hx und9
theorem runs_idxL {x y : Operand} {l : Bs} {j : Nat} {b : UInt8} (hx : vals L x = some (.string ⟨l.toArray⟩)) (hy : vals L y = some (.int .i64 (j : Int))) (hb : l[j]? = some b) : Runs Tryd.prog (.index 9 x y) ty L w (Is (.int .u8 (b.toNat : Int)) w) :=
  runs_index (j := j) hx hy rfl und9 (by rw [bytes_get ⟨l.toArray⟩ j (List.getElem?_eq_some_iff.1 hb).1]; exact hb)
theorem runs_cutL {x lo hi : Operand} {l : Bs} {i j : Nat} (hx : vals L x = some (.string ⟨l.toArray⟩)) (hlo : vals L lo = some (.int .i64 (i : Int))) (hhi : vals L hi = some (.int .i64 (j : Int))) (hij : i ≤ j) (hj : j ≤ l.length) :
    Runs Tryd.prog (.slice 9 x (some lo) (some hi) none) ty L w (Is (.string ⟨((l.drop i).take (j - i)).toArray⟩) w) := fun o a K Q ho _ hL hK => by
  have ex := hL x (by simp [Op.operands]) _ hx
  have el := hL lo (by simp [Op.operands]) _ hlo
  have eh := hL hi (by simp [Op.operands]) _ hhi
  unfold Oper.wp
  have hsz : (ByteArray.mk l.toArray).size = l.length := rfl
  have : (execOp a.eval o).run Tryd.prog w = .ok (.value (.string ⟨((l.drop i).take (j - i)).toArray⟩)) w := by
    rw [← ByteArray.extract_mk]
    simp [execOp, ho, ex, el, eh, Instr.sliceAt, run_underlying und9, Instr.slice, Instr.sliceBounds, Instr.sliceBound, asIntOf, hij, hj, hsz]
  rw [this]
  exact hK _ _ ⟨rfl, rfl⟩
/-- A row of nothing. -/
theorem none_ownT {t e : TypeId} {i : TypeInfo} {B sz : Nat} (ht : Tryd.prog.underlying t = some (.slice e)) (hi : Tryd.prog.info? e = some i) (hB : B ≤ w.heap.size) : Runs Tryd.prog (.buildSlice t 0 #[]) ty L w (fun v w' => ∃ g, v = .slice (some ⟨g, 0, none⟩) 0 0 ∧ w'.ownsRow B e sz v 0 [] ∧ Below w.heap.size w w') :=
  (runs_buildNone ht hi).mono (by rintro v w3 ⟨rfl, rfl⟩; exact ⟨_, rfl, ⟨by simp, .inr ⟨_, 0, #[], rfl, hB, heap_alloc_new _ _, Nat.le_refl _, by unfold maxLen; omega, by simp, by simp⟩⟩, (Below.refl _ _).alloc (Nat.le_refl _) _⟩)
/-- One more in a row of single cells. -/
theorem push_ownT {t e : TypeId} {i : TypeInfo} {z u : Value} {bytes B g2 k : Nat} {s x : Operand} {sv : Value} {xs : List Value} (ht : Tryd.prog.underlying t = some (.slice e)) (hi : Tryd.prog.info? e = some i) (hz : i.zero = some z) (hsize : i.size = 1) (hby : i.bytes = bytes) (hb16 : bytes ≤ 16) (hzs : z.cells.size = 1)
    (hs : vals L s = some sv) (hown : w.ownsRow B e 1 sv k xs) (hx : vals L x = some (.slice (some ⟨g2, 0, none⟩) 1 1)) (hX : Has w g2 e [u]) (hu : u.oneCell' = true) (hn : k ≤ 10000000) (hB : B ≤ w.heap.size) :
    Runs Tryd.prog (.call { callee := .builtin .append, args := #[s, x], argTypes := #[t, t] }) ty L w (fun v w' => (∃ g3 c3, v = .slice (some ⟨g3, 0, none⟩) (k + 1) c3) ∧ w'.ownsRow B e 1 v (k + 1) (xs ++ [u]) ∧ Below B w w') := by
  refine (runs_appendN (news := [u]) ht hi hz hsize hby hzs (by omega) hs hown hx rfl (fun j v hj => by rw [add_zero_addr, Nat.zero_add, hX.cell]; exact hj) (by intro v hv; rw [List.mem_singleton] at hv; rw [hv]; exact hu) (by unfold maxLen; omega) (Nat.le_trans (Nat.mul_le_mul (show k + 1 ≤ 10000001 by omega) hb16) (by omega)) hB (by omega)).mono ?_
  rintro v w' ⟨hown3, hgr3, hne3⟩
  refine ⟨?_, hown3, ?_⟩
  · rcases hown3.2 with ⟨rfl, h0⟩ | ⟨g3, c3, _, rfl, _⟩
    · omega
    · exact ⟨g3, c3, rfl⟩
  · exact below_grown (Below.refl _ _) hgr3 (fun g hg => by rcases hown.2 with ⟨rfl, _⟩ | ⟨g0, cap, _, rfl, hg0, _⟩ <;> simp [Value.ownBlock] at hg; omega) hB
/-- A slice of one string. -/
theorem runs_oneS {x : Operand} {s : ByteArray} (hx : vals L x = some (.string s)) : Runs Tryd.prog (.buildSlice 58 1 #[(0, x)]) ty L w (fun v w' => ∃ g2, v = .slice (some ⟨g2, 0, none⟩) 1 1 ∧ Has w' g2 9 [.string s] ∧ Below w.heap.size w w') := by
  obtain ⟨i5, hi5, hz5, hs5, hb5⟩ := info_parts inf9
  exact (runs_buildSliceG (sz := 1) (pv := [(0, .string s)]) (by simp [hx]) und58 hi5 hz5 hs5 (by omega) (by omega) (cells := #[.string s]) (by kernel_rfl)).mono (by rintro v w5 ⟨rfl, rfl⟩; exact ⟨_, rfl, Has.new w 9 [.string s], (Below.refl _ _).alloc (Nat.le_refl _) _⟩)
theorem runs_oneI {x : Operand} {n : Int} (hx : vals L x = some (.int .i64 n)) : Runs Tryd.prog (.buildSlice 60 1 #[(0, x)]) ty L w (fun v w' => ∃ g2, v = .slice (some ⟨g2, 0, none⟩) 1 1 ∧ Has w' g2 3 [.int .i64 n] ∧ Below w.heap.size w w') := by
  obtain ⟨i5, hi5, hz5, hs5, hb5⟩ := info_parts inf3
  exact (runs_buildSliceG (sz := 1) (pv := [(0, .int .i64 n)]) (by simp [hx]) und60 hi5 hz5 hs5 (by omega) (by omega) (cells := #[.int .i64 n]) (by kernel_rfl)).mono (by rintro v w5 ⟨rfl, rfl⟩; exact ⟨_, rfl, Has.new w 3 [.int .i64 n], (Below.refl _ _).alloc (Nat.le_refl _) _⟩)
end
theorem owns_at {w : World} {B n : Nat} {e : TypeId} {v : Value} {xs : List Value} (h : w.ownsRow B e 1 v n xs) (hn : 0 < n) : ∃ g c, v = .slice (some ⟨g, 0, none⟩) n c ∧ B ≤ g ∧ g < w.heap.size ∧ w.rangeAt g 0 xs := by
  rcases h.2 with ⟨rfl, h0⟩ | ⟨g, c, cur, rfl, hb, hg, hc1, hc2, hc3, hc4⟩
  · omega
  · refine ⟨g, c, rfl, hb, (Array.getElem?_eq_some_iff.1 hg).1, fun j u hj => ?_⟩
    have hH : Has w g e cur.toList := by unfold Has; rw [hg]
    rw [Nat.zero_add, hH.cell]
    rw [← hc4, List.getElem?_take] at hj
    split at hj
    · exact hj
    · cases hj
/-- What Number answers. -/
def numZ (l : Bs) : Int := match num l with | some x => (x : Int) | none => -1
theorem bad_iff (l : Bs) : badNum l = true ↔ l = [] ∨ l.length > 9 ∨ (l.length > 1 ∧ l.head? = some 48) := by
  unfold badNum
  simp only [Bool.or_eq_true, Bool.and_eq_true, decide_eq_true_eq, beq_iff_eq, bne_iff_ne, ne_eq, List.isEmpty_iff, or_assoc]
  refine or_congr_right (or_congr_right ?_)
  cases l with
  | nil => simp
  | cons a l =>
    simp only [List.head?_cons, Option.some.injEq, List.length_cons]
    constructor
    · rintro ⟨rfl, h⟩
      refine ⟨?_, rfl⟩
      cases l with
      | nil => exact absurd rfl h
      | cons b l => simp
    · rintro ⟨h, rfl⟩
      refine ⟨rfl, fun h2 => ?_⟩
      rw [List.cons.injEq] at h2
      rw [h2.2] at h
      simp at h
set_option maxHeartbeats 1000000 in
theorem rnum_any (l : Bs) (w : World) : Ans 37 [.string ⟨l.toArray⟩, .int .i64 9] w (fun v w' => v = .int .i64 (numZ l) ∧ w' = w) := by
  refine calls_qx (args := [.string ⟨l.toArray⟩, .int .i64 9]) 50 Tryd.func37 rfl (by kernel_rfl) (by simp) (fun a hS => ?_)
  refine qx_seq (reg_seq ?_)
  refine seq_is hS (by decide) (runs_assign rfl) (fun a1 hS => ?_)
  refine nil_ok (qx_seq (reg_seq ?_))
  refine seq_is hS (by decide) (runs_assign rfl) (fun a1 hS => ?_)
  refine nil_ok (qx_seq (qx_seq (reg_seq ?_)))
  have body : badNum l = false → ∀ (L : List (Nat × Value)) (a9 : Act), Sees 50 L a9 → (look L 0 = some (.string ⟨l.toArray⟩) ∧ look L 5 = some (.int .i64 0)) → ((Tryd.f37.body.bind (tailOf2 4)).getD .skip).wp Tryd.prog (Qx (Rets Tryd.prog Tryd.f37 (fun e w' => ∃ v, e = .returned v ∧ (v = .int .i64 (numZ l) ∧ w' = w))) (fun _ _ _ => False) (Rets Tryd.prog Tryd.f37 (fun e w' => ∃ v, e = .returned v ∧ (v = .int .i64 (numZ l) ∧ w' = w)))) a9 w := fun hg L a9 hS hz => by
    have hS := hS.only [(0, .string ⟨l.toArray⟩), (5, .int .i64 0)] ⟨hz.1, hz.2, trivial⟩
    have hl9 : l.length ≤ 9 := by
      refine Nat.le_of_not_lt (fun h => ?_)
      rw [(bad_iff l).2 (.inr (.inl h))] at hg; cases hg
    rw [numZ, num, hg]
    simp only [Bool.false_eq_true, if_false]
    refine qx_seq (qx_seq (reg_seq ?_))
    refine seq_is hS (by decide) (runs_assign rfl) (fun a1 hS => ?_)
    refine nil_ok (qx_for (fun m a w' => ∃ (i n : Nat), i ≤ l.length ∧ m = l.length - i ∧ w' = w ∧ n < 10 ^ i ∧ dv l 0 = dv (l.drop i) n ∧ Sees 50 [(6, .int .i64 (i : Int)), (5, .int .i64 (n : Int)), (0, .string ⟨l.toArray⟩)] a) l.length ⟨0, 0, by omega, by omega, rfl, by simp, by rw [List.drop_zero], hS.only _ ⟨rfl, rfl, rfl, trivial⟩⟩ ?_)
    rintro m a w' ⟨i, n, hi, rfl, rfl, hn, he, hS⟩
    have hn9 : n < 10 ^ 9 := Nat.lt_of_lt_of_le hn (Nat.pow_le_pow_right (by omega) (by omega))
    refine reg_seq ?_
    refine seq_is hS (by decide) (runs_move rfl) (fun a1 hS => ?_)
    refine seq_is hS (by decide) (runs_move rfl) (fun a1 hS => ?_)
    refine seq_is hS (by decide) (runs_lenL rfl) (fun a1 hS => ?_)
    by_cases hlt : i < l.length
    · skip
      refine seq_is hS (by decide) (runs_lss (r := true) rfl rfl (by rw [decide_eq_true_eq]; omega)) (fun a1 hS => ?_)
      obtain ⟨d, hd⟩ : ∃ d, l[i]? = some d := ⟨_, List.getElem?_eq_getElem hlt⟩
      rw [dv_step hd] at he
      refine nil_ok ⟨_, hS.eval rfl, fun h => by simp at h, fun _ => ?_⟩
      refine qx_seq (qx_block (qx_seq (qx_seq (reg_seq ?_))))
      refine seq_is hS (by decide) (runs_move rfl) (fun a1 hS => ?_)
      refine seq_is hS (by decide) (runs_move rfl) (fun a1 hS => ?_)
      refine seq_is hS (by decide) (runs_idxL rfl rfl hd) (fun a1 hS => ?_)
      by_cases d1 : (d.toNat : Int) < 48
      · skip
        refine seq_is hS (by decide) (runs_lss (r := true) rfl rfl (by rw [decide_eq_true_eq]; omega)) (fun a1 hS => ?_)
        refine seq_is hS (by decide) (runs_move rfl) (fun a1 hS => ?_)
        refine seq_no hS (by decide) rfl (by decide) rfl rfl (fun a1 hS => ?_)
        refine seq_no hS (by decide) rfl (by decide) rfl rfl (fun a1 hS => ?_)
        refine seq_no hS (by decide) rfl (by decide) rfl rfl (fun a1 hS => ?_)
        refine seq_no hS (by decide) rfl (by decide) rfl rfl (fun a1 hS => ?_)
        refine seq_is hS (by decide) (runs_pick rfl rfl) (fun a1 hS => ?_)
        rw [if_pos (by omega)] at he
        refine nil_ok (wp_cond_true (hS.eval rfl) (qx_seq (reg_seq ?_)))
        refine seq_is hS (by decide) (runs_assign rfl) (fun a1 hS => ?_)
        exact nil_ok (qx_ret (ret1 (t := 4) (by kernel_rfl) hS rfl ⟨_, rfl, by rw [he], rfl⟩))
      · skip
        refine seq_is hS (by decide) (runs_lss (r := false) rfl rfl (by rw [decide_eq_false_iff_not]; omega)) (fun a1 hS => ?_)
        refine seq_is hS (by decide) (runs_move rfl) (fun a1 hS => ?_)
        refine seq_yis hS (by decide) rfl (by decide) rfl (runs_move rfl) (fun a1 hS => ?_)
        refine seq_yis hS (by decide) rfl (by decide) rfl (runs_move rfl) (fun a1 hS => ?_)
        refine seq_yis hS (by decide) rfl (by decide) rfl (runs_idxL rfl rfl hd) (fun a1 hS => ?_)
        by_cases d2 : (d.toNat : Int) > 57
        · skip
          refine seq_yis hS (by decide) rfl (by decide) rfl (runs_gtr (r := true) rfl rfl (by rw [decide_eq_true_eq]; omega)) (fun a1 hS => ?_)
          refine seq_is hS (by decide) (runs_pick rfl rfl) (fun a1 hS => ?_)
          rw [if_pos (by omega)] at he
          refine nil_ok (wp_cond_true (hS.eval rfl) (qx_seq (reg_seq ?_)))
          refine seq_is hS (by decide) (runs_assign rfl) (fun a1 hS => ?_)
          exact nil_ok (qx_ret (ret1 (t := 4) (by kernel_rfl) hS rfl ⟨_, rfl, by rw [he], rfl⟩))
        · skip
          refine seq_yis hS (by decide) rfl (by decide) rfl (runs_gtr (r := false) rfl rfl (by rw [decide_eq_false_iff_not]; omega)) (fun a1 hS => ?_)
          refine seq_is hS (by decide) (runs_pick rfl rfl) (fun a1 hS => ?_)
          rw [if_neg (by omega)] at he
          refine nil_ok (wp_cond_false (hS.eval rfl) (wp_skip (reg_seq ?_)))
          refine seq_is hS (by decide) (runs_move rfl) (fun a1 hS => ?_)
          refine seq_is hS (by decide) (runs_mul (r := ((10 * n : Nat) : Int)) rfl rfl (by simp [IntKind.wrap, IntKind.bits, IntKind.signed]; omega)) (fun a1 hS => ?_)
          refine seq_is hS (by decide) (runs_move rfl) (fun a1 hS => ?_)
          refine seq_is hS (by decide) (runs_move rfl) (fun a1 hS => ?_)
          refine seq_is hS (by decide) (runs_idxL rfl rfl hd) (fun a1 hS => ?_)
          refine seq_is hS (by decide) (runs_sub (r := ((d.toNat - 48 : Nat) : Int)) rfl rfl (by simp [IntKind.wrap, IntKind.bits, IntKind.signed]; omega)) (fun a1 hS => ?_)
          refine seq_is hS (by decide) (runs_convInt (k' := .i64) (r := ((d.toNat - 48 : Nat) : Int)) rfl (by rw [Tryd.underlying5]; rfl) und3 (by simp [IntKind.wrap, IntKind.bits, IntKind.signed]; omega)) (fun a1 hS => ?_)
          refine seq_is hS (by decide) (runs_add (r := ((10 * n + (d.toNat - 48) : Nat) : Int)) rfl rfl (by simp [IntKind.wrap, IntKind.bits, IntKind.signed]; omega)) (fun a1 hS => ?_)
          refine seq_is hS (by decide) (runs_assign rfl) (fun a1 hS => ?_)
          refine nil_ok (reg_seq ?_)
          refine seq_is hS (by decide) (runs_move rfl) (fun a1 hS => ?_)
          refine seq_is hS (by decide) (runs_add (r := ((i + 1 : Nat) : Int)) rfl rfl (by simp [IntKind.wrap, IntKind.bits, IntKind.signed]; omega)) (fun a1 hS => ?_)
          refine seq_is hS (by decide) (runs_assign rfl) (fun a1 hS => ?_)
          exact nil_ok ⟨_, by omega, i + 1, 10 * n + (d.toNat - 48), by omega, rfl, rfl, by rw [Nat.pow_succ]; omega, he, hS.only _ ⟨rfl, rfl, rfl, trivial⟩⟩
    · skip
      refine seq_is hS (by decide) (runs_lss (r := false) rfl rfl (by rw [decide_eq_false_iff_not]; omega)) (fun a1 hS => ?_)
      refine nil_ok ⟨_, hS.eval rfl, fun _ => ?_, fun h => by simp at h⟩
      refine qx_seq (reg_seq ?_)
      rw [List.drop_eq_nil_of_le (by omega), dv] at he
      refine seq_is hS (by decide) (runs_move rfl) (fun a1 hS => ?_)
      refine seq_is hS (by decide) (runs_assign rfl) (fun a1 hS => ?_)
      exact nil_ok (qx_ret (ret1 (t := 4) (by kernel_rfl) hS rfl ⟨_, rfl, by rw [he], rfl⟩))
  refine seq_is hS (by decide) (runs_move rfl) (fun a1 hS => ?_)
  by_cases s1 : l = []
  · skip
    refine seq_is hS (by decide) (runs_eqStr (r := true) rfl rfl (by rw [s1]; rfl)) (fun a1 hS => ?_)
    refine seq_is hS (by decide) (runs_move rfl) (fun a1 hS => ?_)
    refine seq_no hS (by decide) rfl (by decide) rfl rfl (fun a1 hS => ?_)
    refine seq_no hS (by decide) rfl (by decide) rfl rfl (fun a1 hS => ?_)
    refine seq_no hS (by decide) rfl (by decide) rfl rfl (fun a1 hS => ?_)
    refine seq_no hS (by decide) rfl (by decide) rfl rfl (fun a1 hS => ?_)
    refine seq_is hS (by decide) (runs_pick rfl rfl) (fun a1 hS => ?_)
    refine seq_is hS (by decide) (runs_move rfl) (fun a1 hS => ?_)
    refine seq_no hS (by decide) rfl (by decide) rfl rfl (fun a1 hS => ?_)
    refine seq_no hS (by decide) rfl (by decide) rfl rfl (fun a1 hS => ?_)
    refine seq_no hS (by decide) rfl (by decide) rfl rfl (fun a1 hS => ?_)
    refine seq_no hS (by decide) rfl (by decide) rfl rfl (fun a1 hS => ?_)
    refine seq_skip2 hS (by decide) rfl (by decide) rfl (fun a1 hS => ?_)
    refine seq_skip2 hS (by decide) rfl (by decide) rfl (fun a1 hS => ?_)
    refine seq_skip2 hS (by decide) rfl (by decide) rfl (fun a1 hS => ?_)
    refine seq_no hS (by decide) rfl (by decide) rfl rfl (fun a1 hS => ?_)
    refine seq_is hS (by decide) (runs_pick rfl rfl) (fun a1 hS => ?_)
    have hb : numZ l = -1 := by rw [numZ, num, show badNum l = true from (bad_iff l).2 (.inl s1)]; rfl
    refine nil_ok (wp_cond_true (hS.eval rfl) (qx_seq (reg_seq ?_)))
    refine seq_is hS (by decide) (runs_assign rfl) (fun a1 hS => ?_)
    exact nil_ok (qx_ret (ret1 (t := 4) (by kernel_rfl) hS rfl ⟨_, rfl, by rw [hb], rfl⟩))
  · skip
    obtain ⟨b, hb0⟩ : ∃ b, l[0]? = some b := ⟨_, List.getElem?_eq_getElem (List.length_pos_iff.2 s1)⟩
    refine seq_is hS (by decide) (runs_eqStr (r := false) rfl rfl (by rw [beq_eq_false_iff_ne]; exact s1)) (fun a1 hS => ?_)
    refine seq_is hS (by decide) (runs_move rfl) (fun a1 hS => ?_)
    refine seq_yis hS (by decide) rfl (by decide) rfl (runs_move rfl) (fun a1 hS => ?_)
    refine seq_yis hS (by decide) rfl (by decide) rfl (runs_lenL rfl) (fun a1 hS => ?_)
    refine seq_yis hS (by decide) rfl (by decide) rfl (runs_move rfl) (fun a1 hS => ?_)
    by_cases s2 : ((l.length : Nat) : Int) > 9
    · skip
      refine seq_yis hS (by decide) rfl (by decide) rfl (runs_gtr (r := true) rfl rfl (by rw [decide_eq_true_eq]; omega)) (fun a1 hS => ?_)
      refine seq_is hS (by decide) (runs_pick rfl rfl) (fun a1 hS => ?_)
      refine seq_is hS (by decide) (runs_move rfl) (fun a1 hS => ?_)
      refine seq_no hS (by decide) rfl (by decide) rfl rfl (fun a1 hS => ?_)
      refine seq_no hS (by decide) rfl (by decide) rfl rfl (fun a1 hS => ?_)
      refine seq_no hS (by decide) rfl (by decide) rfl rfl (fun a1 hS => ?_)
      refine seq_no hS (by decide) rfl (by decide) rfl rfl (fun a1 hS => ?_)
      refine seq_skip2 hS (by decide) rfl (by decide) rfl (fun a1 hS => ?_)
      refine seq_skip2 hS (by decide) rfl (by decide) rfl (fun a1 hS => ?_)
      refine seq_skip2 hS (by decide) rfl (by decide) rfl (fun a1 hS => ?_)
      refine seq_no hS (by decide) rfl (by decide) rfl rfl (fun a1 hS => ?_)
      refine seq_is hS (by decide) (runs_pick rfl rfl) (fun a1 hS => ?_)
      have hb : numZ l = -1 := by rw [numZ, num, show badNum l = true from (bad_iff l).2 (.inr (.inl (by omega)))]; rfl
      refine nil_ok (wp_cond_true (hS.eval rfl) (qx_seq (reg_seq ?_)))
      refine seq_is hS (by decide) (runs_assign rfl) (fun a1 hS => ?_)
      exact nil_ok (qx_ret (ret1 (t := 4) (by kernel_rfl) hS rfl ⟨_, rfl, by rw [hb], rfl⟩))
    · skip
      refine seq_yis hS (by decide) rfl (by decide) rfl (runs_gtr (r := false) rfl rfl (by rw [decide_eq_false_iff_not]; omega)) (fun a1 hS => ?_)
      refine seq_is hS (by decide) (runs_pick rfl rfl) (fun a1 hS => ?_)
      refine seq_is hS (by decide) (runs_move rfl) (fun a1 hS => ?_)
      refine seq_yis hS (by decide) rfl (by decide) rfl (runs_move rfl) (fun a1 hS => ?_)
      refine seq_yis hS (by decide) rfl (by decide) rfl (runs_lenL rfl) (fun a1 hS => ?_)
      by_cases s3 : ((l.length : Nat) : Int) > 1
      · skip
        refine seq_yis hS (by decide) rfl (by decide) rfl (runs_gtr (r := true) rfl rfl (by rw [decide_eq_true_eq]; omega)) (fun a1 hS => ?_)
        refine seq_yis hS (by decide) rfl (by decide) rfl (runs_move rfl) (fun a1 hS => ?_)
        refine seq_yis hS (by decide) rfl (by decide) rfl (runs_move rfl) (fun a1 hS => ?_)
        refine seq_yis hS (by decide) rfl (by decide) rfl (runs_idxL (j := 0) rfl rfl hb0) (fun a1 hS => ?_)
        by_cases s4 : (b.toNat : Int) = 48
        · skip
          have hb48 : b = 48 := UInt8.toNat_inj.1 (show b.toNat = (48 : UInt8).toNat by simp; omega)
          refine seq_yis hS (by decide) rfl (by decide) rfl (runs_eql (r := true) rfl rfl (by simp [s4])) (fun a1 hS => ?_)
          refine seq_yis hS (by decide) rfl (by decide) rfl (runs_pick rfl rfl) (fun a1 hS => ?_)
          refine seq_is hS (by decide) (runs_pick rfl rfl) (fun a1 hS => ?_)
          have hb : numZ l = -1 := by rw [numZ, num, show badNum l = true from (bad_iff l).2 (.inr (.inr ⟨by omega, by rw [List.head?_eq_getElem?, hb0, hb48]⟩))]; rfl
          refine nil_ok (wp_cond_true (hS.eval rfl) (qx_seq (reg_seq ?_)))
          refine seq_is hS (by decide) (runs_assign rfl) (fun a1 hS => ?_)
          exact nil_ok (qx_ret (ret1 (t := 4) (by kernel_rfl) hS rfl ⟨_, rfl, by rw [hb], rfl⟩))
        · skip
          refine seq_yis hS (by decide) rfl (by decide) rfl (runs_eql (r := false) rfl rfl (by simp [s4])) (fun a1 hS => ?_)
          refine seq_yis hS (by decide) rfl (by decide) rfl (runs_pick rfl rfl) (fun a1 hS => ?_)
          refine seq_is hS (by decide) (runs_pick rfl rfl) (fun a1 hS => ?_)
          have hbn : badNum l = false := by
            rw [Bool.eq_false_iff]
            intro h
            rcases (bad_iff l).1 h with h | h | ⟨h, h'⟩
            · exact s1 h
            · omega
            · rw [List.head?_eq_getElem?, hb0] at h'; rw [Option.some.inj h'] at s4; exact s4 rfl
          refine nil_ok (wp_cond_false (hS.eval rfl) (wp_skip ?_))
          exact body hbn _ _ hS ⟨rfl, rfl⟩
      · skip
        refine seq_yis hS (by decide) rfl (by decide) rfl (runs_gtr (r := false) rfl rfl (by rw [decide_eq_false_iff_not]; omega)) (fun a1 hS => ?_)
        refine seq_yis hS (by decide) rfl (by decide) rfl (runs_move rfl) (fun a1 hS => ?_)
        refine seq_no hS (by decide) rfl (by decide) rfl rfl (fun a1 hS => ?_)
        refine seq_no hS (by decide) rfl (by decide) rfl rfl (fun a1 hS => ?_)
        refine seq_no hS (by decide) rfl (by decide) rfl rfl (fun a1 hS => ?_)
        refine seq_yis hS (by decide) rfl (by decide) rfl (runs_pick rfl rfl) (fun a1 hS => ?_)
        refine seq_is hS (by decide) (runs_pick rfl rfl) (fun a1 hS => ?_)
        have hbn : badNum l = false := by
          rw [Bool.eq_false_iff]
          intro h
          rcases (bad_iff l).1 h with h | h | ⟨h, h'⟩
          · exact s1 h
          · omega
          · omega
        refine nil_ok (wp_cond_false (hS.eval rfl) (wp_skip ?_))
        exact body hbn _ _ hS ⟨rfl, rfl⟩
def strs (ws : List Bs) : List Value := ws.map fun p : Bs => Value.string ⟨p.toArray⟩
set_option maxHeartbeats 1000000 in
theorem rwords_any (l : Bs) (hl : l.length ≤ 1000000) (w : World) : Ans 36 [.string ⟨l.toArray⟩] w (fun v w' => Below w.heap.size w w' ∧ w'.ownsRow w.heap.size 9 1 v (splitC 32 l).length (strs (splitC 32 l))) := by
  obtain ⟨i9, hi9, hz9, hs9, hb9⟩ := info_parts inf9
  refine calls_qx (args := [.string ⟨l.toArray⟩]) 32 Tryd.func36 rfl (by kernel_rfl) (by simp) (fun a hS => ?_)
  refine qx_seq (reg_seq ?_)
  refine seq_is hS (by decide) (runs_assign rfl) (fun a1 hS => ?_)
  refine nil_ok (qx_seq (reg_seq ?_))
  refine seq_op hS (by decide) (none_ownT (sz := 1) und58 hi9 (Nat.le_refl _)) (fun v1 w1 a1 hp1 hS => ?_)
  obtain ⟨g1, rfl, hown, hB⟩ := hp1
  refine seq_is hS (by decide) (runs_assign rfl) (fun a1 hS => ?_)
  refine seq_is hS (by decide) (runs_assign rfl) (fun a1 hS => ?_)
  refine nil_ok (qx_seq (qx_seq (reg_seq ?_)))
  refine seq_is hS (by decide) (runs_assign rfl) (fun a1 hS => ?_)
  refine nil_ok (qx_for (fun m a w' => ∃ (i : Nat) (sv : Value) (ws : List Bs) (cw : Bs), i ≤ l.length ∧ m = l.length - i ∧ ws.length + cw.length ≤ i ∧ Below w.heap.size w w' ∧ w'.ownsRow w.heap.size 9 1 sv ws.length (strs ws) ∧ splitC 32 l = ws ++ splitC 32 (cw ++ l.drop i) ∧ (32 : UInt8) ∉ cw ∧ Sees 32 [(5, .int .i64 (i : Int)), (3, sv), (4, .string ⟨cw.toArray⟩), (0, .string ⟨l.toArray⟩)] a) l.length ⟨0, _, [], [], by omega, by omega, by simp, hB, hown, rfl, by simp, hS.only _ ⟨rfl, rfl, rfl, rfl, trivial⟩⟩ ?_)
  clear hS hown hB
  rintro m a w' ⟨i, sv, ws, cw, hi, rfl, hwl, hB, hown, hsp, hcw, hS⟩
  have hBs := hB.size
  refine reg_seq ?_
  refine seq_is hS (by decide) (runs_move rfl) (fun a1 hS => ?_)
  refine seq_is hS (by decide) (runs_move rfl) (fun a1 hS => ?_)
  refine seq_is hS (by decide) (runs_lenL rfl) (fun a1 hS => ?_)
  by_cases hlt : i < l.length
  · skip
    refine seq_is hS (by decide) (runs_lss (r := true) rfl rfl (by rw [decide_eq_true_eq]; omega)) (fun a1 hS => ?_)
    obtain ⟨d, hd⟩ : ∃ d, l[i]? = some d := ⟨_, List.getElem?_eq_getElem hlt⟩
    have hdr : l.drop i = d :: l.drop (i + 1) := by
      obtain ⟨h1, h2⟩ := List.getElem?_eq_some_iff.1 hd
      rw [List.drop_eq_getElem_cons h1, h2]
    rw [hdr] at hsp
    refine nil_ok ⟨_, hS.eval rfl, fun h => by simp at h, fun _ => ?_⟩
    refine qx_seq (qx_block (qx_seq (reg_seq ?_)))
    refine seq_is hS (by decide) (runs_move rfl) (fun a1 hS => ?_)
    refine seq_is hS (by decide) (runs_move rfl) (fun a1 hS => ?_)
    refine seq_is hS (by decide) (runs_idxL rfl rfl hd) (fun a1 hS => ?_)
    by_cases q1 : (d.toNat : Int) = 32
    · skip
      refine seq_is hS (by decide) (runs_eql (r := true) rfl rfl (by simp [q1])) (fun a1 hS => ?_)
      obtain rfl : d = 32 := UInt8.toNat_inj.1 (show d.toNat = (32 : UInt8).toNat by simp; omega)
      rw [splitC_mk _ hcw] at hsp
      refine nil_ok (wp_cond_true (hS.eval rfl) (reg_seq ?_))
      refine seq_is hS (by decide) (runs_move rfl) (fun a1 hS => ?_)
      refine seq_is hS (by decide) (runs_move rfl) (fun a1 hS => ?_)
      refine seq_op hS (by decide) (runs_oneS rfl) (fun v4 w4 a4 hp4 hS => ?_)
      obtain ⟨g2, rfl, hX, hB4⟩ := hp4
      have hown := owns_kept hown hB4
      have hB := hB.trans (hB4.mono hB.size)
      refine seq_op hS (by decide) (push_ownT und58 hi9 hz9 hs9 hb9 (by omega) rfl rfl hown rfl hX rfl (by omega) hB.size) (fun v5 w5 a5 hp5 hS => ?_)
      obtain ⟨_, hown5, hB5⟩ := hp5
      have hB := hB.trans hB5
      have hown5 : w5.ownsRow w.heap.size 9 1 v5 (ws ++ [cw]).length (strs (ws ++ [cw])) := by rw [List.length_append, strs, List.map_append]; exact hown5
      refine seq_is hS (by decide) (runs_assign rfl) (fun a1 hS => ?_)
      refine seq_is hS (by decide) (runs_assign rfl) (fun a1 hS => ?_)
      refine nil_ok (reg_seq ?_)
      refine seq_is hS (by decide) (runs_move rfl) (fun a1 hS => ?_)
      refine seq_is hS (by decide) (runs_add (r := ((i + 1 : Nat) : Int)) rfl rfl (by simp [IntKind.wrap, IntKind.bits, IntKind.signed]; omega)) (fun a1 hS => ?_)
      refine seq_is hS (by decide) (runs_assign rfl) (fun a1 hS => ?_)
      exact nil_ok ⟨_, by omega, i + 1, v5, ws ++ [cw], [], by omega, rfl, by simp; omega, hB, hown5, by rw [hsp]; simp, by simp, hS.only _ ⟨rfl, rfl, rfl, rfl, trivial⟩⟩
    · skip
      refine seq_is hS (by decide) (runs_eql (r := false) rfl rfl (by simp [q1])) (fun a1 hS => ?_)
      refine nil_ok (wp_cond_false (hS.eval rfl) (reg_seq ?_))
      have hone : (l.drop i).take (i + 1 - i) = [d] := by rw [hdr, show i + 1 - i = 1 by omega]; rfl
      refine seq_is hS (by decide) (runs_move rfl) (fun a1 hS => ?_)
      refine seq_is hS (by decide) (runs_move rfl) (fun a1 hS => ?_)
      refine seq_is hS (by decide) (runs_move rfl) (fun a1 hS => ?_)
      refine seq_is hS (by decide) (runs_move rfl) (fun a1 hS => ?_)
      refine seq_is hS (by decide) (runs_add (r := ((i + 1 : Nat) : Int)) rfl rfl (by simp [IntKind.wrap, IntKind.bits, IntKind.signed]; omega)) (fun a1 hS => ?_)
      refine seq_is hS (by decide) ((runs_cutL (l := l) (i := i) (j := i + 1) rfl rfl rfl (by omega) (by omega)).mono (by rintro v w2 ⟨rfl, rfl⟩; exact ⟨by rw [hone], rfl⟩)) (fun a1 hS => ?_)
      refine seq_is hS (by decide) (runs_catL rfl rfl (by simp; omega)) (fun a1 hS => ?_)
      refine seq_is hS (by decide) (runs_assign rfl) (fun a1 hS => ?_)
      refine nil_ok (reg_seq ?_)
      refine seq_is hS (by decide) (runs_move rfl) (fun a1 hS => ?_)
      refine seq_is hS (by decide) (runs_add (r := ((i + 1 : Nat) : Int)) rfl rfl (by simp [IntKind.wrap, IntKind.bits, IntKind.signed]; omega)) (fun a1 hS => ?_)
      refine seq_is hS (by decide) (runs_assign rfl) (fun a1 hS => ?_)
      exact nil_ok ⟨_, by omega, i + 1, sv, ws, cw ++ [d], by omega, rfl, by simp; omega, hB, hown, by rw [hsp, List.append_assoc]; rfl, fun h => by
        rcases List.mem_append.1 h with h | h
        · exact hcw h
        · rw [List.mem_singleton] at h; rw [← h] at q1; exact q1 rfl, hS.only _ ⟨rfl, rfl, rfl, rfl, trivial⟩⟩
  · skip
    refine seq_is hS (by decide) (runs_lss (r := false) rfl rfl (by rw [decide_eq_false_iff_not]; omega)) (fun a1 hS => ?_)
    rw [List.drop_eq_nil_of_le (by omega), List.append_nil, splitC_none hcw] at hsp
    refine nil_ok ⟨_, hS.eval rfl, fun _ => ?_, fun h => by simp at h⟩
    refine qx_seq (reg_seq ?_)
    refine seq_is hS (by decide) (runs_move rfl) (fun a1 hS => ?_)
    refine seq_is hS (by decide) (runs_move rfl) (fun a1 hS => ?_)
    refine seq_op hS (by decide) (runs_oneS rfl) (fun v4 w4 a4 hp4 hS => ?_)
    obtain ⟨g2, rfl, hX, hB4⟩ := hp4
    have hown := owns_kept hown hB4
    have hB := hB.trans (hB4.mono hB.size)
    refine seq_op hS (by decide) (push_ownT und58 hi9 hz9 hs9 hb9 (by omega) rfl rfl hown rfl hX rfl (by omega) hB.size) (fun v5 w5 a5 hp5 hS => ?_)
    obtain ⟨_, hown5, hB5⟩ := hp5
    have hB := hB.trans hB5
    have hown5 : w5.ownsRow w.heap.size 9 1 v5 (ws ++ [cw]).length (strs (ws ++ [cw])) := by rw [List.length_append, strs, List.map_append]; exact hown5
    refine seq_is hS (by decide) (runs_assign rfl) (fun a1 hS => ?_)
    rw [← hsp] at hown5
    exact nil_ok (qx_ret (ret1 (t := 2) (by kernel_rfl) hS rfl ⟨_, rfl, hB, hown5⟩))
end Go.Proofs.YtdbibjcplakelaaDoor
