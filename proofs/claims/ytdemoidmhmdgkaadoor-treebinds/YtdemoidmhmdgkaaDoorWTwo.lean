/- The walk of TreeTwo, and Few. Conditions: the table of constants lies as it was laid. -/
import Derived.Test.YtdemoidmhmdgkaaDoorWHalves
import Derived.Test.YtdemoidmhmdgkaaDoorOpens
import Derived.ArgAppend
namespace Go.Proofs.YtdemoidmhmdgkaaDoor
open Go.RowKit
set_option maxRecDepth 100000

section
variable {P : Program} {L : List (Nat × Value)} {w : World} {ty : TypeId}
/-- x[:k] -/
theorem runs_sliceTo {t e : TypeId} {x hi : Operand} {g o' m c k : Nat} {i : Int} (hx : vals L x = some (.slice (some ⟨g, o', none⟩) m c)) (hhi : vals L hi = some (.int .i64 i)) (hi' : i = (k : Int)) (hu : P.underlying t = some (.slice e)) (hs : (P.info? e).isSome = true) (hkc : k ≤ c) :
    Runs P (.slice t x none (some hi) none) ty L w (Is (.slice (some ⟨g, o', none⟩) k c) w) := fun o a K Q ho _ hL hK => by
  have ex := hL x (by simp [Op.operands]) _ hx
  have eh := hL hi (by simp [Op.operands]) _ hhi
  subst hi'
  obtain ⟨ie, hie⟩ := Option.isSome_iff_exists.1 hs
  have hadd : (⟨g, o', none⟩ : Addr).add 0 = ⟨g, o', none⟩ := rfl
  unfold Oper.wp
  have : (execOp a.eval o).run P w = .ok (.value (.slice (some ⟨g, o', none⟩) k c)) w := by
    simp [execOp, ho, ex, eh, Instr.sliceAt, run_underlying hu, Instr.slice, Instr.sliceBounds, Instr.sliceBound, asIntOf, hkc, sizeOf, typeInfo, hie, hadd]
  rw [this]
  exact hK _ _ ⟨rfl, rfl⟩
/-- x[k:] -/
theorem runs_sliceFrom {t e : TypeId} {x lo : Operand} {g o' m c l : Nat} {i : Int} (hx : vals L x = some (.slice (some ⟨g, o', none⟩) m c)) (hlo : vals L lo = some (.int .i64 i)) (hi' : i = (l : Int)) (hu : P.underlying t = some (.slice e)) (hs : (P.info? e).map (·.size) = some 1) (hlm : l < m) (hmc : m ≤ c) :
    Runs P (.slice t x (some lo) none none) ty L w (Is (.slice (some ⟨g, o' + l, none⟩) (m - l) (c - l)) w) := fun o a K Q ho _ hL hK => by
  have ex := hL x (by simp [Op.operands]) _ hx
  have el := hL lo (by simp [Op.operands]) _ hlo
  subst hi'
  obtain ⟨ie, hie⟩ : ∃ ie, P.info? e = some ie := by
    cases h : P.info? e with
    | none => rw [h] at hs; cases hs
    | some ie => exact ⟨ie, rfl⟩
  have hsz : ie.size = 1 := by rw [hie] at hs; simpa using hs
  have hadd : (⟨g, o', none⟩ : Addr).add l = ⟨g, o' + l, none⟩ := by unfold Addr.add; split <;> simp_all
  have h3 : ¬ c = l := by omega
  have h4 : l ≤ m := by omega
  have h5 : l ≤ c := by omega
  unfold Oper.wp
  have : (execOp a.eval o).run P w = .ok (.value (.slice (some ⟨g, o' + l, none⟩) (m - l) (c - l))) w := by
    simp [execOp, ho, ex, el, Instr.sliceAt, run_underlying hu, Instr.slice, Instr.sliceBounds, Instr.sliceBound, asIntOf, h4, sizeOf, typeInfo, hie, hsz, h3, hadd]
  rw [this]
  exact hK _ _ ⟨rfl, rfl⟩
/-- Onto an empty row: a new one. -/
theorem runs_append0 {t e : TypeId} {s x : Operand} {i : TypeInfo} {z : Value} {bytes g m c : Nat} {news : List Value} {ad : Addr} (ht : P.underlying t = some (.slice e)) (hi : P.info? e = some i) (hz : i.zero = some z)
    (hsize : i.size = 1) (hby : i.bytes = bytes) (hzs : z.cells.size = 1) (hs : vals L s = some (.slice (some ⟨g, 0, none⟩) 0 0)) (hx : vals L x = some (.slice (some ad) m c)) (hl : news.length = m) (hnews : ∀ j u, news[j]? = some u → w.cell? (ad.add j) = some u)
    (h63 : m ≤ maxLen) (hbytes : m * bytes ≤ 140737488355328) (hm : 0 < m) :
    Runs P (.call { callee := .builtin .append, args := #[s, x], argTypes := #[t, t] }) ty L w (fun v w' => w'.ownsRow w.heap.size e 1 v m news ∧ Below w.heap.size w w') := fun o a K Q ho _ hL hK => by
  have e1 := hL s (by simp [Op.operands, Call.operands]) _ hs
  have e2 := hL x (by simp [Op.operands, Call.operands]) _ hx
  obtain ⟨v', w', hr, h2, h3⟩ := run_append_arg_grows (P := P) w t o.type e i z 1 bytes ht hi hz hsize hby hzs (by omega) ⟨g, 0, none⟩ 0 0 [] rfl (fun j u h => by simp at h) ad m c news (by omega) hnews (by omega) (by omega) (by simpa using hbytes)
  unfold Oper.wp execOp
  simp only [ho, resolve, invoke, builtin, Sem.run_bind, Sem.run_pure, Result.andThen_ok, List.map_toArray, List.map_cons, List.map_nil, e1, e2, hr]
  rw [Nat.zero_add, List.nil_append] at h2
  exact hK v' w' ⟨h2, (Below.refl _ _).grown h3 (Nat.le_refl _) (fun k h => by cases h)⟩
end
theorem strs_own {w : World} {base : Nat} {v : Value} {n : Nat} {ss : List ByteArray} (h : w.ownsRow base 9 1 v n (ss.map Value.string)) (hn : ss.length = n) : Strs w v ss := by
  rcases h.2 with ⟨hv, h0⟩ | ⟨g, cap, cur, hv, hb, hg, hc, hm, hz, ht⟩
  · exact ⟨none, 0, by rw [hv, hn, h0], by omega, by unfold maxLen; omega, fun hp => by omega⟩
  · refine ⟨_, cap, by rw [hv, hn], by omega, hm, fun _ => ⟨g, 0, rfl, (Array.getElem?_eq_some_iff.1 hg).1, fun i hi => ?_⟩⟩
    have h1 : (cur.toList.take (n * 1))[i]? = some (.string (ss.getD i ByteArray.empty)) := by rw [ht]; simp [hi]
    rw [List.getElem?_take, if_pos (by omega)] at h1
    simp only [World.cell?, hg, Nat.zero_add]
    simpa using h1
def fewB (ss : List ByteArray) : Bool := ss.all (fun s => decide (s.size ≤ 200)) && decide (ss.length ≤ 20)
noncomputable def blk13 (id : Nat) : Code := ((Tryd.f12.body.bind (blockIn id)).getD .skip)
theorem few_loop (N R : Act → World → Prop) (X : Nat → Act → World → Prop) (ss : List ByteArray) (A : Option Addr) (c : Nat) (w : World) (a : Act) (hm : ss.length ≤ maxLen) (hS : Sees 19 [(3, .int .i64 0), (0, .slice A ss.length c)] a)
    (hA : 0 < ss.length → ∃ b o, A = some ⟨b, o, none⟩ ∧ b < w.heap.size ∧ ∀ i, i < ss.length → w.cell? ⟨b, o + i, none⟩ = some (.string (ss.getD i ByteArray.empty)))
    (h : ∀ a', (∀ s ∈ ss, s.size ≤ 200) → Sees 19 [(0, .slice A ss.length c)] a' → N a' w) (hr : ∀ a', (¬ ∀ s ∈ ss, s.size ≤ 200) → Sees 19 [(2, .bool false)] a' → R a' w) : (blk13 0).wp Tryd.prog (Qx N X R) a w := by
  unfold maxLen at hm
  refine qx_for (fun m a w' => ∃ i, i ≤ ss.length ∧ m = ss.length - i ∧ w' = w ∧ (∀ s ∈ ss.take i, s.size ≤ 200) ∧ Sees 19 [(3, .int .i64 (i : Int)), (0, .slice A ss.length c)] a) ss.length ⟨0, by omega, by omega, rfl, by simp, hS⟩ ?_
  rintro m a w' ⟨i, hi, rfl, rfl, hs, hS⟩
  refine reg_seq ?_
  refine seq_is hS (by decide) (runs_move rfl) (fun a1 hS => ?_)
  refine seq_is hS (by decide) (runs_move rfl) (fun a1 hS => ?_)
  refine seq_is hS (by decide) (runs_len rfl undStrs) (fun a1 hS => ?_)
  by_cases hlt : i < ss.length
  · obtain ⟨b, o, rfl, hb, hcell⟩ := hA (by omega)
    have hgd : ss.getD i ByteArray.empty = ss[i] := by simp [hlt]
    have hc := hcell i hlt
    rw [hgd] at hc
    have htk : ss.take (i + 1) = ss.take i ++ [ss[i]] := by rw [List.take_add_one, List.getElem?_eq_getElem hlt]; rfl
    refine seq_is hS (by decide) (runs_lss (r := true) rfl rfl (by rw [decide_eq_true_eq]; omega)) (fun a1 hS => ?_)
    refine nil_ok ⟨_, hS.eval rfl, fun h => by simp at h, fun _ => ?_⟩
    refine qx_seq (qx_block (qx_seq (reg_seq ?_)))
    refine seq_is hS (by decide) (runs_move rfl) (fun a1 hS => ?_)
    refine seq_is hS (by decide) (runs_move rfl) (fun a1 hS => ?_)
    refine seq_is hS (by decide) (runs_indexAddr (j := i) rfl rfl undStrs infStr1 rfl hlt) (fun a1 hS => ?_)
    refine seq_is hS (by decide) (runs_load rfl (by kernel_rfl) hc) (fun a1 hS => ?_)
    refine seq_is hS (by decide) (runs_lens rfl (by kernel_rfl)) (fun a1 hS => ?_)
    by_cases hbig : 200 < ss[i].size
    · refine seq_is hS (by decide) (runs_gtr (r := true) rfl rfl (by rw [decide_eq_true_eq]; omega)) (fun a1 hS => ?_)
      refine nil_ok (wp_cond_true (hS.eval rfl) (qx_seq (reg_seq ?_)))
      refine seq_is hS (by decide) (runs_assign rfl) (fun a1 hS => ?_)
      exact nil_ok (qx_ret (hr _ (fun hall => by have := hall ss[i] (List.getElem_mem _); omega) (hS.only _ ⟨rfl, trivial⟩)))
    · refine seq_is hS (by decide) (runs_gtr (r := false) rfl rfl (by rw [decide_eq_false_iff_not]; omega)) (fun a1 hS => ?_)
      refine nil_ok (wp_cond_false (hS.eval rfl) (wp_skip ?_))
      refine reg_seq ?_
      refine seq_is hS (by decide) (runs_move rfl) (fun a1 hS => ?_)
      refine seq_is hS (by decide) (runs_add rfl rfl ((IntWalk.i64_in _ (by omega)).trans (show (i : Int) + 1 = ((i + 1 : Nat) : Int) by omega))) (fun a1 hS => ?_)
      refine seq_is hS (by decide) (runs_assign rfl) (fun a1 hS => ?_)
      refine nil_ok ⟨ss.length - (i + 1), by omega, i + 1, by omega, rfl, rfl, fun s hs' => ?_, hS.only _ ⟨rfl, rfl, trivial⟩⟩
      rw [htk, List.mem_append, List.mem_singleton] at hs'
      rcases hs' with h1 | rfl
      · exact hs s h1
      · omega
  · refine seq_is hS (by decide) (runs_lss (r := false) rfl rfl (by rw [decide_eq_false_iff_not]; omega)) (fun a1 hS => ?_)
    refine nil_ok ⟨_, hS.eval rfl, fun _ => h _ ?_ (hS.only _ ⟨rfl, trivial⟩), fun h => by simp at h⟩
    rwa [List.take_of_length_le (by omega)] at hs
theorem few_any (ss : List ByteArray) (v : Value) (w : World) (hs : Strs w v ss) : Calls Tryd.prog 12 #[v] w fun e w' => e = .returned (.bool (fewB ss)) ∧ w' = w := by
  refine calls_qx (args := [v]) 19 Tryd.func12 rfl (by kernel_rfl) (by simp) (fun a hS => ?_)
  obtain ⟨A, c, rfl, h1, h2, hA⟩ := hs
  refine qx_seq (reg_seq ?_)
  refine seq_is hS (by decide) (runs_assign rfl) (fun a1 hS => ?_)
  refine nil_ok (qx_seq (qx_seq (reg_seq ?_)))
  refine seq_is hS (by decide) (runs_assign rfl) (fun a1 hS => ?_)
  refine nil_ok (few_loop _ _ _ ss A c w a1 (by omega) (hS.only _ ⟨rfl, rfl, trivial⟩) hA (fun a2 hall hS => ?_) (fun a2 hno hS => ?_))
  · refine qx_seq (reg_seq ?_)
    refine seq_is hS (by decide) (runs_move rfl) (fun a1 hS => ?_)
    refine seq_is hS (by decide) (runs_len rfl undStrs) (fun a1 hS => ?_)
    refine seq_is hS (by decide) (runs_leq (r := fewB ss) rfl rfl (by
      have : ss.all (fun s => decide (s.size ≤ 200)) = true := List.all_eq_true.2 fun s h => decide_eq_true (hall s h)
      unfold fewB
      rw [this, Bool.true_and, Bool.eq_iff_iff, decide_eq_true_eq, decide_eq_true_eq]
      omega)) (fun a1 hS => ?_)
    refine seq_is hS (by decide) (runs_assign rfl) (fun a1 hS => ?_)
    exact nil_ok (qx_ret (ret1 (t := 2) (by kernel_rfl) hS rfl ⟨rfl, rfl⟩))
  · have hf : fewB ss = false := by
      unfold fewB
      have : ss.all (fun s => decide (s.size ≤ 200)) = false := by
        rw [← Bool.not_eq_true, List.all_eq_true]
        intro hx
        exact hno fun s h => of_decide_eq_true (hx s h)
      rw [this, Bool.false_and]
    exact ret1 (t := 2) (by kernel_rfl) hS rfl ⟨by rw [hf], rfl⟩
theorem few_call (ss : List ByteArray) (v : Value) (w : World) (hs : Strs w v ss) : Calls Tryd.prog 12 [v].toArray w fun e w' => ∃ u, e = .returned u ∧ Is (.bool (fewB ss)) w u w' := (few_any ss v w hs).mono (by rintro e w' ⟨rfl, rfl⟩; exact ⟨_, rfl, rfl, rfl⟩)
end Go.Proofs.YtdemoidmhmdgkaaDoor
