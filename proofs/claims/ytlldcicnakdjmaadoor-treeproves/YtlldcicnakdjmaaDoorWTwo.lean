/- The walk of TreeTwo, and Few. Conditions: the table of constants lies as it was laid. -/
import Derived.Test.YtlldcicnakdjmaaDoorWHalves
import Derived.Test.YtlldcicnakdjmaaDoorOpens
import Derived.ArgAppend
namespace Go.Proofs.YtlldcicnakdjmaaDoor
open Go.RowKit

section
variable {P : Program} {L : List (Nat × Value)} {w : World} {ty : TypeId}
/-- x[:k] -/
theorem runs_sliceTo {t e : TypeId} {x hi : Operand} {g o' m c k : Nat} {i : Int} (hx : vals L x = some (.slice (some ⟨g, o', none⟩) m c)) (hhi : vals L hi = some (.int .i64 i)) (hi' : i = (k : Int)) (hu : P.underlying t = some (.slice e)) (hs : (P.info? e).isSome = true) (hkc : k ≤ c) :
    Runs P (.slice t x none (some hi) none) ty L w (Is (.slice (some ⟨g, o', none⟩) k c) w) := fun o a K Q ho _ hL hK => by
  have ex := hL x (by simp [Op.operands]) _ hx
  have eh := hL hi (by simp [Op.operands]) _ hhi
  subst hi'
  obtain ⟨ie, hie⟩ := Option.isSome_iff_exists.1 hs
  have hadd : (⟨g, o', none⟩ : Addr).add 0 = ⟨g, o', none⟩ := rfl
  unfold Oper.wp
  have : (execOp a.eval o).run P w = .ok (.value (.slice (some ⟨g, o', none⟩) k c)) w := by
    simp [execOp, ho, ex, eh, Instr.sliceAt, run_underlying hu, Instr.slice, Instr.sliceBounds, Instr.sliceBound, asIntOf, hkc, sizeOf, typeInfo, hie, hadd]
  rw [this]
  exact hK _ _ ⟨rfl, rfl⟩
/-- x[k:] -/
theorem runs_sliceFrom {t e : TypeId} {x lo : Operand} {g o' m c l : Nat} {i : Int} (hx : vals L x = some (.slice (some ⟨g, o', none⟩) m c)) (hlo : vals L lo = some (.int .i64 i)) (hi' : i = (l : Int)) (hu : P.underlying t = some (.slice e)) (hs : (P.info? e).map (·.size) = some 1) (hlm : l < m) (hmc : m ≤ c) :
    Runs P (.slice t x (some lo) none none) ty L w (Is (.slice (some ⟨g, o' + l, none⟩) (m - l) (c - l)) w) := fun o a K Q ho _ hL hK => by
  have ex := hL x (by simp [Op.operands]) _ hx
  have el := hL lo (by simp [Op.operands]) _ hlo
  subst hi'
  obtain ⟨ie, hie⟩ : ∃ ie, P.info? e = some ie := by
    cases h : P.info? e with
    | none => rw [h] at hs; cases hs
    | some ie => exact ⟨ie, rfl⟩
  have hsz : ie.size = 1 := by rw [hie] at hs; simpa using hs
  have hadd : (⟨g, o', none⟩ : Addr).add l = ⟨g, o' + l, none⟩ := by unfold Addr.add; split <;> simp_all
  have h3 : ¬ c = l := by omega
  have h4 : l ≤ m := by omega
  have h5 : l ≤ c := by omega
  unfold Oper.wp
  have : (execOp a.eval o).run P w = .ok (.value (.slice (some ⟨g, o' + l, none⟩) (m - l) (c - l))) w := by
    simp [execOp, ho, ex, el, Instr.sliceAt, run_underlying hu, Instr.slice, Instr.sliceBounds, Instr.sliceBound, asIntOf, h4, sizeOf, typeInfo, hie, hsz, h3, hadd]
  rw [this]
  exact hK _ _ ⟨rfl, rfl⟩
/-- Onto an empty row: a new one. -/
theorem runs_append0 {t e : TypeId} {s x : Operand} {i : TypeInfo} {z : Value} {bytes g m c : Nat} {news : List Value} {ad : Addr} (ht : P.underlying t = some (.slice e)) (hi : P.info? e = some i) (hz : i.zero = some z)
    (hsize : i.size = 1) (hby : i.bytes = bytes) (hzs : z.cells.size = 1) (hs : vals L s = some (.slice (some ⟨g, 0, none⟩) 0 0)) (hx : vals L x = some (.slice (some ad) m c)) (hl : news.length = m) (hnews : ∀ j u, news[j]? = some u → w.cell? (ad.add j) = some u)
    (h63 : m ≤ maxLen) (hbytes : m * bytes ≤ 140737488355328) (hm : 0 < m) :
    Runs P (.call { callee := .builtin .append, args := #[s, x], argTypes := #[t, t] }) ty L w (fun v w' => w'.ownsRow w.heap.size e 1 v m news ∧ Below w.heap.size w w') := fun o a K Q ho _ hL hK => by
  have e1 := hL s (by simp [Op.operands, Call.operands]) _ hs
  have e2 := hL x (by simp [Op.operands, Call.operands]) _ hx
  obtain ⟨v', w', hr, h2, h3⟩ := run_append_arg_grows (P := P) w t o.type e i z 1 bytes ht hi hz hsize hby hzs (by omega) ⟨g, 0, none⟩ 0 0 [] rfl (fun j u h => by simp at h) ad m c news (by omega) hnews (by omega) (by omega) (by simpa using hbytes)
  unfold Oper.wp execOp
  simp only [ho, resolve, invoke, builtin, Sem.run_bind, Sem.run_pure, Result.andThen_ok, List.map_toArray, List.map_cons, List.map_nil, e1, e2, hr]
  rw [Nat.zero_add, List.nil_append] at h2
  exact hK v' w' ⟨h2, (Below.refl _ _).grown h3 (Nat.le_refl _) (fun k h => by cases h)⟩
end
theorem strs_own {w : World} {base : Nat} {v : Value} {n : Nat} {ss : List ByteArray} (h : w.ownsRow base 9 1 v n (ss.map Value.string)) (hn : ss.length = n) : Strs w v ss := by
  rcases h.2 with ⟨hv, h0⟩ | ⟨g, cap, cur, hv, hb, hg, hc, hm, hz, ht⟩
  · exact ⟨none, 0, by rw [hv, hn, h0], by omega, by unfold maxLen; omega, fun hp => by omega⟩
  · refine ⟨_, cap, by rw [hv, hn], by omega, hm, fun _ => ⟨g, 0, rfl, (Array.getElem?_eq_some_iff.1 hg).1, fun i hi => ?_⟩⟩
    have h1 : (cur.toList.take (n * 1))[i]? = some (.string (ss.getD i ByteArray.empty)) := by rw [ht]; simp [hi]
    rw [List.getElem?_take, if_pos (by omega)] at h1
    simp only [World.cell?, hg, Nat.zero_add]
    simpa using h1
def fewB (ss : List ByteArray) : Bool := ss.all (fun s => decide (s.size ≤ 200)) && decide (ss.length ≤ 20)
noncomputable def blk13 (id : Nat) : Code := ((Tryd.f13.body.bind (blockIn id)).getD .skip)
theorem few_loop (N R : Act → World → Prop) (X : Nat → Act → World → Prop) (ss : List ByteArray) (A : Option Addr) (c : Nat) (w : World) (a : Act) (hm : ss.length ≤ maxLen) (hS : Sees 19 [(3, .int .i64 0), (0, .slice A ss.length c)] a)
    (hA : 0 < ss.length → ∃ b o, A = some ⟨b, o, none⟩ ∧ b < w.heap.size ∧ ∀ i, i < ss.length → w.cell? ⟨b, o + i, none⟩ = some (.string (ss.getD i ByteArray.empty)))
    (h : ∀ a', (∀ s ∈ ss, s.size ≤ 200) → Sees 19 [(0, .slice A ss.length c)] a' → N a' w) (hr : ∀ a', (¬ ∀ s ∈ ss, s.size ≤ 200) → Sees 19 [(2, .bool false)] a' → R a' w) : (blk13 0).wp Tryd.prog (Qx N X R) a w := by
  unfold maxLen at hm
  refine qx_for (fun m a w' => ∃ i, i ≤ ss.length ∧ m = ss.length - i ∧ w' = w ∧ (∀ s ∈ ss.take i, s.size ≤ 200) ∧ Sees 19 [(3, .int .i64 (i : Int)), (0, .slice A ss.length c)] a) ss.length ⟨0, by omega, by omega, rfl, by simp, hS⟩ ?_
  rintro m a w' ⟨i, hi, rfl, rfl, hs, hS⟩
  refine reg_seq ?_
  refine seq_is hS (by decide) (runs_move rfl) (fun a1 hS => ?_)
  refine seq_is hS (by decide) (runs_move rfl) (fun a1 hS => ?_)
  refine seq_is hS (by decide) (runs_len rfl undStrs) (fun a1 hS => ?_)
  by_cases hlt : i < ss.length
  · obtain ⟨b, o, rfl, hb, hcell⟩ := hA (by omega)
    have hgd : ss.getD i ByteArray.empty = ss[i] := by simp [hlt]
    have hc := hcell i hlt
    rw [hgd] at hc
    have htk : ss.take (i + 1) = ss.take i ++ [ss[i]] := by rw [List.take_add_one, List.getElem?_eq_getElem hlt]; rfl
    refine seq_is hS (by decide) (runs_lss (r := true) rfl rfl (by rw [decide_eq_true_eq]; omega)) (fun a1 hS => ?_)
    refine nil_ok ⟨_, hS.eval rfl, fun h => by simp at h, fun _ => ?_⟩
    refine qx_seq (qx_block (qx_seq (reg_seq ?_)))
    refine seq_is hS (by decide) (runs_move rfl) (fun a1 hS => ?_)
    refine seq_is hS (by decide) (runs_move rfl) (fun a1 hS => ?_)
    refine seq_is hS (by decide) (runs_indexAddr (j := i) rfl rfl undStrs infStr1 rfl hlt) (fun a1 hS => ?_)
    refine seq_is hS (by decide) (runs_load rfl (by kernel_rfl) hc) (fun a1 hS => ?_)
    refine seq_is hS (by decide) (runs_lens rfl (by kernel_rfl)) (fun a1 hS => ?_)
    by_cases hbig : 200 < ss[i].size
    · refine seq_is hS (by decide) (runs_gtr (r := true) rfl rfl (by rw [decide_eq_true_eq]; omega)) (fun a1 hS => ?_)
      refine nil_ok (wp_cond_true (hS.eval rfl) (qx_seq (reg_seq ?_)))
      refine seq_is hS (by decide) (runs_assign rfl) (fun a1 hS => ?_)
      exact nil_ok (qx_ret (hr _ (fun hall => by have := hall ss[i] (List.getElem_mem _); omega) (hS.only _ ⟨rfl, trivial⟩)))
    · refine seq_is hS (by decide) (runs_gtr (r := false) rfl rfl (by rw [decide_eq_false_iff_not]; omega)) (fun a1 hS => ?_)
      refine nil_ok (wp_cond_false (hS.eval rfl) (wp_skip ?_))
      refine reg_seq ?_
      refine seq_is hS (by decide) (runs_move rfl) (fun a1 hS => ?_)
      refine seq_is hS (by decide) (runs_add rfl rfl ((IntWalk.i64_in _ (by omega)).trans (show (i : Int) + 1 = ((i + 1 : Nat) : Int) by omega))) (fun a1 hS => ?_)
      refine seq_is hS (by decide) (runs_assign rfl) (fun a1 hS => ?_)
      refine nil_ok ⟨ss.length - (i + 1), by omega, i + 1, by omega, rfl, rfl, fun s hs' => ?_, hS.only _ ⟨rfl, rfl, trivial⟩⟩
      rw [htk, List.mem_append, List.mem_singleton] at hs'
      rcases hs' with h1 | rfl
      · exact hs s h1
      · omega
  · refine seq_is hS (by decide) (runs_lss (r := false) rfl rfl (by rw [decide_eq_false_iff_not]; omega)) (fun a1 hS => ?_)
    refine nil_ok ⟨_, hS.eval rfl, fun _ => h _ ?_ (hS.only _ ⟨rfl, trivial⟩), fun h => by simp at h⟩
    rwa [List.take_of_length_le (by omega)] at hs
theorem few_any (ss : List ByteArray) (v : Value) (w : World) (hs : Strs w v ss) : Calls Tryd.prog 13 #[v] w fun e w' => e = .returned (.bool (fewB ss)) ∧ w' = w := by
  refine calls_qx (args := [v]) 19 Tryd.func13 rfl (by kernel_rfl) (by simp) (fun a hS => ?_)
  obtain ⟨A, c, rfl, h1, h2, hA⟩ := hs
  refine qx_seq (reg_seq ?_)
  refine seq_is hS (by decide) (runs_assign rfl) (fun a1 hS => ?_)
  refine nil_ok (qx_seq (qx_seq (reg_seq ?_)))
  refine seq_is hS (by decide) (runs_assign rfl) (fun a1 hS => ?_)
  refine nil_ok (few_loop _ _ _ ss A c w a1 (by omega) (hS.only _ ⟨rfl, rfl, trivial⟩) hA (fun a2 hall hS => ?_) (fun a2 hno hS => ?_))
  · refine qx_seq (reg_seq ?_)
    refine seq_is hS (by decide) (runs_move rfl) (fun a1 hS => ?_)
    refine seq_is hS (by decide) (runs_len rfl undStrs) (fun a1 hS => ?_)
    refine seq_is hS (by decide) (runs_leq (r := fewB ss) rfl rfl (by
      have : ss.all (fun s => decide (s.size ≤ 200)) = true := List.all_eq_true.2 fun s h => decide_eq_true (hall s h)
      unfold fewB
      rw [this, Bool.true_and, Bool.eq_iff_iff, decide_eq_true_eq, decide_eq_true_eq]
      omega)) (fun a1 hS => ?_)
    refine seq_is hS (by decide) (runs_assign rfl) (fun a1 hS => ?_)
    exact nil_ok (qx_ret (ret1 (t := 2) (by kernel_rfl) hS rfl ⟨rfl, rfl⟩))
  · have hf : fewB ss = false := by
      unfold fewB
      have : ss.all (fun s => decide (s.size ≤ 200)) = false := by
        rw [← Bool.not_eq_true, List.all_eq_true]
        intro hx
        exact hno fun s h => of_decide_eq_true (hx s h)
      rw [this, Bool.false_and]
    exact ret1 (t := 2) (by kernel_rfl) hS rfl ⟨by rw [hf], rfl⟩
theorem few_call (ss : List ByteArray) (v : Value) (w : World) (hs : Strs w v ss) : Calls Tryd.prog 13 [v].toArray w fun e w' => ∃ u, e = .returned u ∧ Is (.bool (fewB ss)) w u w' := (few_any ss v w hs).mono (by rintro e w' ⟨rfl, rfl⟩; exact ⟨_, rfl, rfl, rfl⟩)
set_option maxRecDepth 100000 in
set_option maxHeartbeats 1000000 in
theorem two_walk (v : Value) (ss : List ByteArray) (w : World) (hs : Strs w v ss) (hk : Kept w) : Calls Tryd.prog 10 #[v] w fun e w' => e = .returned (.bool true) ∧ Below w.heap.size w w' := by
  refine calls_qx (args := [v]) 56 Tryd.func10 rfl (by kernel_rfl) (by simp) (fun a hS => ?_)
  refine qx_seq (reg_seq ?_)
  refine seq_is hS (by decide) (runs_assign rfl) (fun a1 hS => ?_)
  refine nil_ok (qx_seq (qx_seq (reg_seq ?_)))
  refine seq_op hS (by decide) (runs_call (args := []) goes12 rfl (awake_call w hk)) (fun v1 w1 a1 hp1 hS => ?_)
  obtain ⟨rfl, hB1⟩ := hp1
  have hk1 := hk.below hB1 hk.pos
  have hs1 := hs.kept hB1
  refine seq_is hS (by decide) (runs_not rfl) (fun a1 hS => ?_)
  refine seq_is hS (by decide) (runs_move rfl) (fun a1 hS => ?_)
  refine seq_yis hS (by decide) rfl (by decide) rfl (runs_move rfl) (fun a1 hS => ?_)
  refine seq_yis hS (by decide) rfl (by decide) rfl (runs_call (args := [v]) goes13 rfl (few_call ss v w1 hs1)) (fun a1 hS => ?_)
  have last : ∀ (L : List (Nat × Value)) (a9 : Act) (N : Act → World → Prop) (X : Nat → Act → World → Prop), Sees 56 L a9 → ((Tryd.f10.body.bind (regionIn 2)).getD .skip).wp Tryd.prog (Qx (fun a' w' => Code.ret.wp Tryd.prog (Qx N X (Rets Tryd.prog Tryd.f10 (fun e w' => e = .returned (.bool true) ∧ Below w.heap.size w w'))) a' w') X (Rets Tryd.prog Tryd.f10 (fun e w' => e = .returned (.bool true) ∧ Below w.heap.size w w'))) a9 w1 := fun L a9 N X hS => by
    refine reg_seq ?_
    refine seq_op hS (by decide) (runs_call (args := []) goes12 rfl (awake_call w1 hk1)) (fun v2 w2 a2 hp2 hS => ?_)
    obtain ⟨rfl, hB2⟩ := hp2
    refine seq_is hS (by decide) (runs_assign rfl) (fun a1 hS => ?_)
    exact nil_ok (qx_ret (ret1 (t := 2) (by kernel_rfl) hS rfl ⟨rfl, hB1.trans (hB2.mono hB1.size)⟩))
  cases hf : fewB ss with
  | false =>
    rw [hf] at hS
    refine seq_yis hS (by decide) rfl (by decide) rfl (runs_not rfl) (fun a1 hS => ?_)
    refine seq_is hS (by decide) (runs_pick rfl rfl) (fun a1 hS => ?_)
    refine seq_is hS (by decide) (runs_move rfl) (fun a1 hS => ?_)
    refine seq_no hS (by decide) rfl (by decide) rfl rfl (fun a1 hS => ?_)
    refine seq_no hS (by decide) rfl (by decide) rfl rfl (fun a1 hS => ?_)
    refine seq_no hS (by decide) rfl (by decide) rfl rfl (fun a1 hS => ?_)
    refine seq_is hS (by decide) (runs_pick rfl rfl) (fun a1 hS => ?_)
    exact nil_ok (wp_cond_true (hS.eval rfl) (qx_seq (last _ _ _ _ hS)))
  | true =>
    rw [hf] at hS
    simp only [fewB, Bool.and_eq_true, List.all_eq_true, decide_eq_true_eq] at hf
    obtain ⟨hsz, hn20⟩ := hf
    have hs1' := hs1
    obtain ⟨A, c, rfl, hc1, hc2, hA⟩ := hs1'
    refine seq_yis hS (by decide) rfl (by decide) rfl (runs_not rfl) (fun a1 hS => ?_)
    refine seq_is hS (by decide) (runs_pick rfl rfl) (fun a1 hS => ?_)
    refine seq_is hS (by decide) (runs_move rfl) (fun a1 hS => ?_)
    refine seq_yis hS (by decide) rfl (by decide) rfl (runs_move rfl) (fun a1 hS => ?_)
    refine seq_yis hS (by decide) rfl (by decide) rfl (runs_len rfl undStrs) (fun a1 hS => ?_)
    by_cases h2 : ss.length < 2
    · refine seq_yis hS (by decide) rfl (by decide) rfl (runs_lss (r := true) rfl rfl (by rw [decide_eq_true_eq]; omega)) (fun a1 hS => ?_)
      refine seq_is hS (by decide) (runs_pick rfl rfl) (fun a1 hS => ?_)
      exact nil_ok (wp_cond_true (hS.eval rfl) (qx_seq (last _ _ _ _ hS)))
    · refine seq_yis hS (by decide) rfl (by decide) rfl (runs_lss (r := false) rfl rfl (by rw [decide_eq_false_iff_not]; omega)) (fun a1 hS => ?_)
      refine seq_is hS (by decide) (runs_pick rfl rfl) (fun a1 hS => ?_)
      refine nil_ok (wp_cond_false (hS.eval rfl) (wp_skip ?_))
      obtain ⟨b, o, rfl, hb, hcell⟩ := hA (by omega)
      have hhl := Tree.half_lt (n := ss.length) (by omega)
      have hhp := Tree.half_pos ss.length
      have ht : Tree.node (Tree.top ((ss.map bl).take (Tree.half ss.length))) (Tree.top ((ss.map bl).drop (Tree.half ss.length))) = Tree.top (ss.map bl) := by
        have := Tree.top_more (l := ss.map bl) (by simp; omega)
        rw [List.length_map] at this
        exact this.symm
      have hhalf := half_call (ss.length : Int) w1 (by omega)
      rw [show halfZ (ss.length : Int) = Tree.half ss.length by unfold halfZ; rw [if_neg (by omega), Int.toNat_natCast]] at hhalf
      generalize Tree.half ss.length = k at *
      refine qx_seq (reg_seq ?_)
      refine seq_is hS (by decide) (runs_move rfl) (fun a1 hS => ?_)
      refine seq_is hS (by decide) (runs_len rfl undStrs) (fun a1 hS => ?_)
      refine seq_is hS (by decide) (runs_call (args := [.int .i64 (ss.length : Int)]) goes22 rfl hhalf) (fun a1 hS => ?_)
      refine seq_is hS (by decide) (runs_assign rfl) (fun a1 hS => ?_)
      refine nil_ok (qx_seq (qx_seq (reg_seq ?_)))
      refine seq_is hS (by decide) (runs_move rfl) (fun a1 hS => ?_)
      refine seq_is hS (by decide) (runs_lss (r := false) rfl rfl (by rw [decide_eq_false_iff_not]; omega)) (fun a1 hS => ?_)
      refine seq_is hS (by decide) (runs_move rfl) (fun a1 hS => ?_)
      refine seq_yis hS (by decide) rfl (by decide) rfl (runs_move rfl) (fun a1 hS => ?_)
      refine seq_yis hS (by decide) rfl (by decide) rfl (runs_move rfl) (fun a1 hS => ?_)
      refine seq_yis hS (by decide) rfl (by decide) rfl (runs_len rfl undStrs) (fun a1 hS => ?_)
      refine seq_yis hS (by decide) rfl (by decide) rfl (runs_geq (r := false) rfl rfl (by rw [decide_eq_false_iff_not]; omega)) (fun a1 hS => ?_)
      refine seq_is hS (by decide) (runs_pick rfl rfl) (fun a1 hS => ?_)
      refine nil_ok (wp_cond_false (hS.eval rfl) (wp_skip ?_))
      have hml : ss.length ≤ maxLen := by omega
      -- the sums, of whatever row holds such strings
      have ct : ∀ (us : List ByteArray) (u : Value) (w' : World), us.length ≤ 20 → (∀ s ∈ us, s.size ≤ 200) → Strs w' u us → Below w1.heap.size w1 w' → Calls Tryd.prog 14 [u].toArray w' fun e w2 => ∃ v, e = .returned v ∧ v = .agg (U8 (Tree.top (us.map bl))).toArray ∧ Below w1.heap.size w1 w2 ∧ Below w'.heap.size w' w2 := fun us u w' hul hus hu hB' => by
        have := top_any us.length us u w' rfl hu (fun s h => by have := hus s h; omega) (by omega) (hk1.below hB' hk1.pos)
        exact hash_post _ this (fun _ h => ⟨hB'.trans (h.mono hB'.size), h⟩)
      have cn : ∀ w', Below w1.heap.size w1 w' → Calls Tryd.prog 20 [Value.agg (U8 (Tree.top ((ss.take k).map bl))).toArray, .agg (U8 (Tree.top ((ss.drop k).map bl))).toArray].toArray w' fun e w2 => ∃ v, e = .returned v ∧ v = .agg (U8 (Tree.top (ss.map bl))).toArray ∧ Below w1.heap.size w1 w2 ∧ Below w'.heap.size w' w2 := fun w' hB' => by
        have := node_any _ _ w' (top_len ((ss.take k).map bl)) (top_len ((ss.drop k).map bl)) (top_bytes _) (top_bytes _) (hk1.below hB' hk1.pos)
        rw [List.map_take, List.map_drop, ht] at this
        rw [List.map_take, List.map_drop]
        exact hash_post _ this (fun _ h => ⟨hB'.trans (h.mono hB'.size), h⟩)
      have cl : ∀ w', Below w1.heap.size w1 w' → Calls Tryd.prog 18 [Value.string (ss.getD 0 ByteArray.empty)].toArray w' fun e w2 => ∃ v, e = .returned v ∧ v = .agg (U8 (Tree.leaf (bl (ss.getD 0 ByteArray.empty)))).toArray ∧ Below w1.heap.size w1 w2 ∧ Below w'.heap.size w' w2 := fun w' hB' => by
        have hm : ss.getD 0 ByteArray.empty ∈ ss := by rw [List.getD_eq_getElem?_getD, List.getElem?_eq_getElem (by omega)]; exact List.getElem_mem _
        exact hash_post _ (leaf_any _ w' (by have := hsz _ hm; omega) (hk1.below hB' hk1.pos)) (fun _ h => ⟨hB'.trans (h.mono hB'.size), h⟩)
      have h01 : ss.take 1 = [ss.getD 0 ByteArray.empty] := by
        cases ss with
        | nil => simp at h2
        | cons s r => simp
      -- what lies in the argument
      have news : ∀ l n, l + n ≤ ss.length → ∀ w', Below w1.heap.size w1 w' → ∀ (j : Nat) (u : Value), (((ss.drop l).take n).map Value.string)[j]? = some u → w'.cell? ((⟨b, o + l, none⟩ : Addr).add j) = some u := fun l n hln w' hB' j u hu => by
        rw [List.getElem?_map, List.getElem?_take] at hu
        split at hu
        · rw [List.getElem?_drop] at hu
          obtain ⟨s, hs2, rfl⟩ := Option.map_eq_some_iff.1 hu
          have := hcell (l + j) (by omega)
          rw [show (⟨b, o + l, none⟩ : Addr).add j = ⟨b, o + (l + j), none⟩ from by unfold Addr.add; split <;> simp_all [Nat.add_assoc], hB'.cell (p := ⟨b, o + (l + j), none⟩) hb, this, List.getD_eq_getElem?_getD, hs2]
          rfl
        · cases hu
      obtain ⟨i9, hi9, hz9, hzs9, hzb9⟩ := info_parts infStr
      have app : ∀ (L : List (Nat × Value)) (s x : Operand) (ty : TypeId) (w' : World) (u : Value) (l n c' : Nat), Below w1.heap.size w1 w' → 0 < n → l + n ≤ ss.length → (∃ g, u = .slice (some ⟨g, 0, none⟩) 0 0) → vals L s = some u → vals L x = some (.slice (some ⟨b, o + l, none⟩) n c') → ∀ us, us = (ss.drop l).take n → Runs Tryd.prog (.call { callee := .builtin .append, args := #[s, x], argTypes := #[22, 22] }) ty L w' (fun v w2 => Strs w2 v us ∧ Below w1.heap.size w1 w2 ∧ Below w'.heap.size w' w2) := fun L s x ty w' u l n c' hB' hn0 hln hu hs2 hx us hus => by
        obtain ⟨g, rfl⟩ := hu
        subst hus
        have hle : ((ss.drop l).take n).length = n := by simp; omega
        exact (runs_append0 (m := n) undStrs hi9 hz9 hzs9 hzb9 (by simp [Value.cells]) hs2 hx (news := ((ss.drop l).take n).map Value.string) (by rw [List.length_map, hle]) (news l n hln w' hB') (by omega) (by omega) hn0).mono (by rintro v w2 ⟨h3, h4⟩; exact ⟨strs_own h3 hle, hB'.trans (h4.mono hB'.size), h4⟩)
      have emp : ∀ (L : List (Nat × Value)) (ty : TypeId) (w' : World), Below w1.heap.size w1 w' → Runs Tryd.prog (.buildSlice 22 0 #[]) ty L w' (fun v w2 => (∃ g, v = .slice (some ⟨g, 0, none⟩) 0 0) ∧ Below w1.heap.size w1 w2 ∧ Below w'.heap.size w' w2) := fun L ty w' hB' =>
        (runs_buildNone undStrs hi9).mono (by rintro v w2 ⟨rfl, rfl⟩; exact ⟨⟨_, rfl⟩, hB'.alloc hB'.size _, (Below.refl _ _).alloc (Nat.le_refl _) _⟩)
      have stE : ∀ (v : Value) (w' w2 : World), (∃ g, v = .slice (some ⟨g, 0, none⟩) 0 0) → Below w'.heap.size w' w2 → (∃ g, v = Value.slice (some ⟨g, 0, none⟩) 0 0) := fun v w' w2 h _ => h
      have tl : Tree.top ((ss.take 1).map bl) = Tree.leaf (bl (ss.getD 0 ByteArray.empty)) := by rw [h01]; exact Tree.top_one _
      have hsT : ∀ s ∈ ss.take k, s.size ≤ 200 := fun s h => hsz s (List.mem_of_mem_take h)
      have hsD : ∀ s ∈ ss.drop k, s.size ≤ 200 := fun s h => hsz s (List.mem_of_mem_drop h)
      have hp1 : Strs w1 (.slice (some ⟨b, o, none⟩) 1 c) (ss.take 1) := ⟨_, c, by simp; omega, by simp; omega, hc2, fun _ => ⟨b, o, rfl, hb, fun i hi => by
        have hi1 : i < 1 := by simp at hi; omega
        rw [hcell i (by omega)]
        simp only [List.getD_eq_getElem?_getD, List.getElem?_take, if_pos hi1]⟩⟩
      refine qx_seq (reg_guard (fun w' => Below w1.heap.size w1 w') [.inr (fun v _ => ∃ g, v = .slice (some ⟨g, 0, none⟩) 0 0), .inl (.slice (some ⟨b, o, none⟩) ss.length c), .inl (.int .i64 (k : Int)), .inl (.slice (some ⟨b, o, none⟩) k c), .inr (fun v w' => Strs w' v (ss.take k)), .inl (.agg (U8 (Tree.top ((ss.take k).map bl))).toArray),
        .inr (fun v _ => ∃ g, v = .slice (some ⟨g, 0, none⟩) 0 0), .inl (.slice (some ⟨b, o, none⟩) ss.length c), .inl (.int .i64 (k : Int)), .inl (.slice (some ⟨b, o + k, none⟩) (ss.length - k) (c - k)), .inr (fun v w' => Strs w' v (ss.drop k)), .inl (.agg (U8 (Tree.top ((ss.drop k).map bl))).toArray), .inl (.agg (U8 (Tree.top (ss.map bl))).toArray),
        .inr (fun v _ => ∃ g, v = .slice (some ⟨g, 0, none⟩) 0 0), .inl (.slice (some ⟨b, o, none⟩) ss.length c), .inr (fun v w' => Strs w' v ss), .inl (.agg (U8 (Tree.top (ss.map bl))).toArray), .inl (.bool true), .inl (.bool true),
        .inl (.slice (some ⟨b, o, none⟩) ss.length c), .inl (.slice (some ⟨b, o, none⟩) 1 c), .inl (.agg (U8 (Tree.top ((ss.take 1).map bl))).toArray), .inl (.slice (some ⟨b, o, none⟩) ss.length c), .inl (.pointer (some ⟨b, o + 0, none⟩)), .inl (.string (ss.getD 0 ByteArray.empty)), .inl (.agg (U8 (Tree.leaf (bl (ss.getD 0 ByteArray.empty)))).toArray), .inl (.bool true), .inl (.bool true), .inl (.bool true)] 29 0 mixed rfl (by kernel_rfl) hS (Below.refl _ _) (fun _ h => h.drew) ?_)
      refine hs_pr rfl stE (fun w' hw _ => emp _ _ w' hw) (fun v28 => ?_)
      refine hs_is rfl (fun w' hw => runs_move rfl) ?_
      refine hs_is rfl (fun w' hw => runs_move rfl) ?_
      refine hs_is rfl (fun w' hw => runs_sliceTo rfl rfl rfl undStrs rfl (by omega)) ?_
      refine hs_pr rfl (fun _ _ _ h hb => h.kept hb) (fun w' hw hq => app _ _ _ _ w' v28 0 k c hw (by omega) (by omega) (hq _ List.mem_cons_self (by kernel_rfl)) rfl rfl _ (by simp)) (fun v32 => ?_)
      refine hs_val rfl (fun w' hw hq => runs_call (args := [v32]) goes14 rfl (ct _ v32 w' (by simp; omega) hsT (hq (4, _) List.mem_cons_self (by kernel_rfl)) hw)) ?_
      refine hs_pr rfl stE (fun w' hw _ => emp _ _ w' hw) (fun v34 => ?_)
      refine hs_is rfl (fun w' hw => runs_move rfl) ?_
      refine hs_is rfl (fun w' hw => runs_move rfl) ?_
      refine hs_is rfl (fun w' hw => runs_sliceFrom rfl rfl rfl undStrs infStr1 (by omega) (by omega)) ?_
      refine hs_pr rfl (fun _ _ _ h hb => h.kept hb) (fun w' hw hq => app _ _ _ _ w' v34 k (ss.length - k) (c - k) hw (by omega) (by omega) (hq (6, _) List.mem_cons_self (by kernel_rfl)) rfl rfl _ (by rw [List.take_of_length_le (by simp)])) (fun v38 => ?_)
      refine hs_val rfl (fun w' hw hq => runs_call (args := [v38]) goes14 rfl (ct _ v38 w' (by simp; omega) hsD (hq (10, _) List.mem_cons_self (by kernel_rfl)) hw)) ?_
      refine hs_val rfl (fun w' hw _ => runs_call (args := [.agg (U8 (Tree.top ((ss.take k).map bl))).toArray, .agg (U8 (Tree.top ((ss.drop k).map bl))).toArray]) goes20 rfl (cn w' hw)) ?_
      refine hs_pr rfl stE (fun w' hw _ => emp _ _ w' hw) (fun v41 => ?_)
      refine hs_is rfl (fun w' hw => runs_move rfl) ?_
      refine hs_pr rfl (fun _ _ _ h hb => h.kept hb) (fun w' hw hq => app _ _ _ _ w' v41 0 ss.length c hw (by omega) (by omega) (hq (13, _) List.mem_cons_self (by kernel_rfl)) rfl rfl _ (by simp)) (fun v43 => ?_)
      refine hs_val rfl (fun w' hw hq => runs_call (args := [v43]) goes14 rfl (ct _ v43 w' hn20 hsz (hq (15, _) List.mem_cons_self (by kernel_rfl)) hw)) ?_
      refine hs_is rfl (fun w' hw => runs_eqHash (r := true) rfl rfl (top_len _) (top_len _) (beq_iff_eq.2 rfl)) ?_
      refine hs_is rfl (fun w' hw => runs_move rfl) ?_
      refine hs_yis rfl rfl (fun w' hw => runs_move rfl) ?_
      refine hs_yis rfl rfl (fun w' hw => runs_sliceTo (k := 1) rfl rfl rfl undStrs rfl (by omega)) ?_
      refine hs_yval rfl rfl (fun w' hw hq => runs_call (args := [.slice (some ⟨b, o, none⟩) 1 c]) goes14 rfl (ct _ _ w' (by simp; omega) (fun s h => hsz s (List.mem_of_mem_take h)) (hp1.kept hw) hw)) ?_
      refine hs_yis rfl rfl (fun w' hw => runs_move rfl) ?_
      refine hs_yis rfl rfl (fun w' hw => runs_indexAddr (j := 0) rfl rfl undStrs infStr1 rfl (by omega)) ?_
      refine hs_yis rfl rfl (fun w' hw => runs_load rfl (by kernel_rfl) (by rw [hw.cell (p := ⟨b, o + 0, none⟩) hb]; exact hcell 0 (by omega))) ?_
      refine hs_yval rfl rfl (fun w' hw hq => runs_call (args := [.string (ss.getD 0 ByteArray.empty)]) goes18 rfl (cl w' hw)) ?_
      refine hs_yis rfl rfl (fun w' hw => runs_eqHash (r := true) rfl rfl (top_len _) (Tree.leaf_len _) (by rw [tl]; exact beq_iff_eq.2 rfl)) ?_
      refine hs_is rfl (fun w' hw => runs_pick rfl rfl) ?_
      refine hs_is rfl (fun w' hw => runs_assign rfl) ?_
      refine (fun a5 w5 hS5 hB5 hps => ?_)
      refine wpAnyH_done (by kernel_rfl) ?_ _
      exact qx_ret (ret1 (t := 2) (by kernel_rfl) hS5 rfl ⟨rfl, hB1.trans (hB5.mono hB1.size)⟩)
end Go.Proofs.YtlldcicnakdjmaaDoor
