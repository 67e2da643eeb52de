/- The document's Check, walked. Conditions: none of our own. -/
import Derived.Test.YtapcpmalgdhakaaGreatGApp
import Derived.Test.YtapcpmalgdhakaaGreatEngU
namespace Go.Proofs.YtapcpmalgdhakaaGreat
open Go.RowKit
set_option maxRecDepth 100000

theorem goes36 : Goes Tryz.prog 36 := goes_of Tryz.func36 (by kernel_rfl) rfl
theorem twice_snoc (e : E) : ∀ l : List E, twiceB (l ++ [e]) = (twiceB l || l.any (fun x => sameE x e))
  | [] => rfl
  | a :: l => by
    rw [List.cons_append, twiceB, twiceB, twice_snoc e l, List.any_append, List.any_cons, List.any_cons, List.any_nil, Bool.or_false]
    cases l.any (sameE a) <;> cases sameE a e <;> cases twiceB l <;> cases l.any (fun x => sameE x e) <;> rfl
theorem take_snoc {l : List E} {i : Nat} {x : E} (h : l[i]? = some x) : l.take (i + 1) = l.take i ++ [x] := by
  rw [List.take_add_one, h]; rfl
theorem check_form {n : Int} {es : List E} (h : ¬ formedB n es = true) : checkZ n es = 50 := by unfold checkZ; rw [if_neg h]
set_option maxHeartbeats 4000000 in
theorem rcheck_any (n : Int) (es : List E) (v : Value) (w : World) (hE : Edges w v es) : Ans 36 [gv n v] w (fun u w' => u = .int .i64 (checkZ n es) ∧ Below w.heap.size w w') := by
  have hE0 := hE
  obtain ⟨A, c, rfl, hc1, hc2, hA⟩ := id hE
  unfold maxLen at hc2
  refine calls_qx (args := [gv n (.slice A es.length c)]) 94 Tryz.func36 rfl (by kernel_rfl) (by simp) (fun a hS => ?_)
  refine qx_seq (reg_seq ?_)
  refine seq_op hS (by decide) (runs_box rfl) (fun v1 w1 a1 hp1 hS => ?_)
  obtain ⟨rfl, hw1⟩ := hp1
  obtain ⟨hG, hB⟩ : Has w1 w.heap.size 24 [.int .i64 n, .slice A es.length c] ∧ Below w.heap.size w w1 := by rw [hw1]; exact new_box w 24 [.int .i64 n, .slice A es.length c]
  clear hw1
  generalize hgg : w.heap.size = g at *
  refine seq_is hS (by decide) (runs_assign rfl) (fun a1 hS => ?_)
  refine nil_ok (qx_seq (qx_seq (reg_seq ?_)))
  refine seq_is hS (by decide) (runs_f24 (by decide) rfl) (fun a1 hS => ?_)
  refine seq_is hS (by decide) (runs_loadN rfl hG) (fun a1 hS => ?_)
  by_cases s1 : n < 1
  · skip
    refine seq_is hS (by decide) (runs_lss (r := true) rfl rfl (by rw [decide_eq_true_eq]; omega)) (fun a1 hS => ?_)
    refine seq_is hS (by decide) (runs_move rfl) (fun a1 hS => ?_)
    refine seq_no hS (by decide) rfl (by decide) rfl rfl (fun a1 hS => ?_)
    refine seq_no hS (by decide) rfl (by decide) rfl rfl (fun a1 hS => ?_)
    refine seq_no hS (by decide) rfl (by decide) rfl rfl (fun a1 hS => ?_)
    refine seq_is hS (by decide) (runs_pick rfl rfl) (fun a1 hS => ?_)
    refine seq_is hS (by decide) (runs_move rfl) (fun a1 hS => ?_)
    refine seq_no hS (by decide) rfl (by decide) rfl rfl (fun a1 hS => ?_)
    refine seq_no hS (by decide) rfl (by decide) rfl rfl (fun a1 hS => ?_)
    refine seq_no hS (by decide) rfl (by decide) rfl rfl (fun a1 hS => ?_)
    refine seq_no hS (by decide) rfl (by decide) rfl rfl (fun a1 hS => ?_)
    refine seq_is hS (by decide) (runs_pick rfl rfl) (fun a1 hS => ?_)
    refine nil_ok (wp_cond_true (hS.eval rfl) (qx_seq (reg_seq ?_)))
    refine seq_is hS (by decide) (runs_assign rfl) (fun a1 hS => ?_)
    exact nil_ok (qx_ret (ret1 (t := 2) (by kernel_rfl) hS rfl ⟨_, rfl, by rw [check_form (fun h => by have hf := (formed_iff n es).1 h; omega)], hB⟩))
  · skip
    refine seq_is hS (by decide) (runs_lss (r := false) rfl rfl (by rw [decide_eq_false_iff_not]; omega)) (fun a1 hS => ?_)
    refine seq_is hS (by decide) (runs_move rfl) (fun a1 hS => ?_)
    refine seq_yis hS (by decide) rfl (by decide) rfl (runs_f24 (by decide) rfl) (fun a1 hS => ?_)
    refine seq_yis hS (by decide) rfl (by decide) rfl (runs_loadN rfl hG) (fun a1 hS => ?_)
    by_cases s2 : n > 64
    · skip
      refine seq_yis hS (by decide) rfl (by decide) rfl (runs_gtr (r := true) rfl rfl (by rw [decide_eq_true_eq]; omega)) (fun a1 hS => ?_)
      refine seq_is hS (by decide) (runs_pick rfl rfl) (fun a1 hS => ?_)
      refine seq_is hS (by decide) (runs_move rfl) (fun a1 hS => ?_)
      refine seq_no hS (by decide) rfl (by decide) rfl rfl (fun a1 hS => ?_)
      refine seq_no hS (by decide) rfl (by decide) rfl rfl (fun a1 hS => ?_)
      refine seq_no hS (by decide) rfl (by decide) rfl rfl (fun a1 hS => ?_)
      refine seq_no hS (by decide) rfl (by decide) rfl rfl (fun a1 hS => ?_)
      refine seq_is hS (by decide) (runs_pick rfl rfl) (fun a1 hS => ?_)
      refine nil_ok (wp_cond_true (hS.eval rfl) (qx_seq (reg_seq ?_)))
      refine seq_is hS (by decide) (runs_assign rfl) (fun a1 hS => ?_)
      exact nil_ok (qx_ret (ret1 (t := 2) (by kernel_rfl) hS rfl ⟨_, rfl, by rw [check_form (fun h => by have hf := (formed_iff n es).1 h; omega)], hB⟩))
    · skip
      refine seq_yis hS (by decide) rfl (by decide) rfl (runs_gtr (r := false) rfl rfl (by rw [decide_eq_false_iff_not]; omega)) (fun a1 hS => ?_)
      refine seq_is hS (by decide) (runs_pick rfl rfl) (fun a1 hS => ?_)
      refine seq_is hS (by decide) (runs_move rfl) (fun a1 hS => ?_)
      refine seq_yis hS (by decide) rfl (by decide) rfl (runs_f24 (by decide) rfl) (fun a1 hS => ?_)
      refine seq_yis hS (by decide) rfl (by decide) rfl (runs_loadV rfl hG) (fun a1 hS => ?_)
      refine seq_yis hS (by decide) rfl (by decide) rfl (runs_len rfl und22) (fun a1 hS => ?_)
      by_cases s3 : ((es.length : Nat) : Int) > 512
      · skip
        refine seq_yis hS (by decide) rfl (by decide) rfl (runs_gtr (r := true) rfl rfl (by rw [decide_eq_true_eq]; omega)) (fun a1 hS => ?_)
        refine seq_is hS (by decide) (runs_pick rfl rfl) (fun a1 hS => ?_)
        refine nil_ok (wp_cond_true (hS.eval rfl) (qx_seq (reg_seq ?_)))
        refine seq_is hS (by decide) (runs_assign rfl) (fun a1 hS => ?_)
        exact nil_ok (qx_ret (ret1 (t := 2) (by kernel_rfl) hS rfl ⟨_, rfl, by rw [check_form (fun h => by have hf := (formed_iff n es).1 h; omega)], hB⟩))
      · skip
        refine seq_yis hS (by decide) rfl (by decide) rfl (runs_gtr (r := false) rfl rfl (by rw [decide_eq_false_iff_not]; omega)) (fun a1 hS => ?_)
        refine seq_is hS (by decide) (runs_pick rfl rfl) (fun a1 hS => ?_)
        refine nil_ok (wp_cond_false (hS.eval rfl) (wp_skip (qx_seq (reg_seq ?_))))
        refine seq_is hS (by decide) (runs_assign rfl) (fun a1 hS => ?_)
        refine nil_ok (qx_seq (qx_seq (reg_seq ?_)))
        refine seq_is hS (by decide) (runs_assign rfl) (fun a1 hS => ?_)
        refine nil_ok (qx_for (fun m a w' => ∃ i : Nat, i ≤ es.length ∧ m = es.length - i ∧ Below g w w' ∧ Has w' g 24 [.int .i64 n, .slice A es.length c] ∧ (∀ e ∈ es.take i, okE n e = true) ∧ Sees 94 [(4, .int .i64 (i : Int)), (3, .bool (twiceB (es.take i))), (1, .pointer (some ⟨g, 0, none⟩))] a) es.length ⟨0, by omega, by omega, hB, hG, by simp, hS.only _ ⟨rfl, rfl, rfl, trivial⟩⟩ ?_)
        clear hG hB hS
        rintro m a w' ⟨i, hi, rfl, hB, hG, hok, hS⟩
        refine reg_seq ?_
        refine seq_is hS (by decide) (runs_move rfl) (fun a1 hS => ?_)
        refine seq_is hS (by decide) (runs_f24 (by decide) rfl) (fun a1 hS => ?_)
        refine seq_is hS (by decide) (runs_loadV rfl hG) (fun a1 hS => ?_)
        refine seq_is hS (by decide) (runs_len rfl und22) (fun a1 hS => ?_)
        by_cases hlt : i < es.length
        · skip
          refine seq_is hS (by decide) (runs_lss (r := true) rfl rfl (by rw [decide_eq_true_eq]; omega)) (fun a1 hS => ?_)
          obtain ⟨b, o, rfl, hb, hr⟩ := hA (by omega)
          obtain ⟨x, hx⟩ : ∃ x, es[i]? = some x := ⟨_, List.getElem?_eq_getElem hlt⟩
          have hrx := range_below (edges_at hr hx) hB (by omega)
          have hxm : x ∈ es := List.mem_of_getElem? hx
          refine nil_ok ⟨_, hS.eval rfl, fun h => by simp at h, fun _ => ?_⟩
          refine qx_seq (qx_block (qx_seq (reg_seq ?_)))
          refine seq_is hS (by decide) (runs_f24 (by decide) rfl) (fun a1 hS => ?_)
          refine seq_is hS (by decide) (runs_loadV rfl hG) (fun a1 hS => ?_)
          refine seq_is hS (by decide) (runs_move rfl) (fun a1 hS => ?_)
          refine seq_is hS (by decide) (runs_indexAddrG (j := i) rfl rfl und22 siz45 rfl hlt) (fun a1 hS => ?_)
          refine seq_is hS (by decide) (runs_loadE rfl hrx) (fun a1 hS => ?_)
          refine seq_op hS (by decide) (runs_alloc45) (fun v2 wa2 a1 hp1 hS => ?_)
          obtain ⟨rfl, hwa2⟩ := hp1
          refine seq_none hS (runs_store45 rfl rfl (by rw [hwa2]; exact Has.new w' 48 [.int .i64 0, .int .i64 0, .int .i64 0]) rfl) (fun v2 w2 a1 hp1 hS => ?_)
          obtain ⟨rfl, hwb2⟩ := hp1
          obtain ⟨hX, hB2⟩ : Has w2 w'.heap.size 48 (encE x) ∧ Below w'.heap.size w' w2 := by rw [hwb2, hwa2]; exact new_row w' 48 [.int .i64 0, .int .i64 0, .int .i64 0] (encE x)
          clear hwb2 hwa2
          have hG := hG.below hB2 hG.lt
          have hB0 := hB.size
          have hB := hB.trans (hB2.mono (by omega))
          have hge : g ≤ w'.heap.size := by omega
          generalize w'.heap.size = ge at *
          refine nil_ok (qx_seq (qx_seq (reg_seq ?_)))
          refine seq_is hS (by decide) (runs_f45 (by decide) rfl) (fun a1 hS => ?_)
          refine seq_is hS (by decide) (runs_load0 rfl hX) (fun a1 hS => ?_)
          by_cases t1 : x.1 < 0
          · skip
            refine seq_is hS (by decide) (runs_lss (r := true) rfl rfl (by rw [decide_eq_true_eq]; omega)) (fun a1 hS => ?_)
            refine seq_is hS (by decide) (runs_move rfl) (fun a1 hS => ?_)
            refine seq_no hS (by decide) rfl (by decide) rfl rfl (fun a1 hS => ?_)
            refine seq_no hS (by decide) rfl (by decide) rfl rfl (fun a1 hS => ?_)
            refine seq_no hS (by decide) rfl (by decide) rfl rfl (fun a1 hS => ?_)
            refine seq_no hS (by decide) rfl (by decide) rfl rfl (fun a1 hS => ?_)
            refine seq_no hS (by decide) rfl (by decide) rfl rfl (fun a1 hS => ?_)
            refine seq_is hS (by decide) (runs_pick rfl rfl) (fun a1 hS => ?_)
            refine seq_is hS (by decide) (runs_move rfl) (fun a1 hS => ?_)
            refine seq_no hS (by decide) rfl (by decide) rfl rfl (fun a1 hS => ?_)
            refine seq_no hS (by decide) rfl (by decide) rfl rfl (fun a1 hS => ?_)
            refine seq_no hS (by decide) rfl (by decide) rfl rfl (fun a1 hS => ?_)
            refine seq_is hS (by decide) (runs_pick rfl rfl) (fun a1 hS => ?_)
            refine seq_is hS (by decide) (runs_move rfl) (fun a1 hS => ?_)
            refine seq_no hS (by decide) rfl (by decide) rfl rfl (fun a1 hS => ?_)
            refine seq_no hS (by decide) rfl (by decide) rfl rfl (fun a1 hS => ?_)
            refine seq_no hS (by decide) rfl (by decide) rfl rfl (fun a1 hS => ?_)
            refine seq_no hS (by decide) rfl (by decide) rfl rfl (fun a1 hS => ?_)
            refine seq_no hS (by decide) rfl (by decide) rfl rfl (fun a1 hS => ?_)
            refine seq_is hS (by decide) (runs_pick rfl rfl) (fun a1 hS => ?_)
            refine seq_is hS (by decide) (runs_move rfl) (fun a1 hS => ?_)
            refine seq_no hS (by decide) rfl (by decide) rfl rfl (fun a1 hS => ?_)
            refine seq_no hS (by decide) rfl (by decide) rfl rfl (fun a1 hS => ?_)
            refine seq_no hS (by decide) rfl (by decide) rfl rfl (fun a1 hS => ?_)
            refine seq_is hS (by decide) (runs_pick rfl rfl) (fun a1 hS => ?_)
            refine seq_is hS (by decide) (runs_move rfl) (fun a1 hS => ?_)
            refine seq_no hS (by decide) rfl (by decide) rfl rfl (fun a1 hS => ?_)
            refine seq_no hS (by decide) rfl (by decide) rfl rfl (fun a1 hS => ?_)
            refine seq_no hS (by decide) rfl (by decide) rfl rfl (fun a1 hS => ?_)
            refine seq_is hS (by decide) (runs_pick rfl rfl) (fun a1 hS => ?_)
            refine nil_ok (wp_cond_true (hS.eval rfl) (qx_seq (reg_seq ?_)))
            refine seq_is hS (by decide) (runs_assign rfl) (fun a1 hS => ?_)
            exact nil_ok (qx_ret (ret1 (t := 2) (by kernel_rfl) hS rfl ⟨_, rfl, by rw [check_form (fun h => by have hf := (formed_iff n es).1 h; have := (okE_iff n x).1 (hf.2.2.2 x hxm); omega)], hB⟩))
          · skip
            refine seq_is hS (by decide) (runs_lss (r := false) rfl rfl (by rw [decide_eq_false_iff_not]; omega)) (fun a1 hS => ?_)
            refine seq_is hS (by decide) (runs_move rfl) (fun a1 hS => ?_)
            refine seq_yis hS (by decide) rfl (by decide) rfl (runs_f45 (by decide) rfl) (fun a1 hS => ?_)
            refine seq_yis hS (by decide) rfl (by decide) rfl (runs_load0 rfl hX) (fun a1 hS => ?_)
            refine seq_yis hS (by decide) rfl (by decide) rfl (runs_f24 (by decide) rfl) (fun a1 hS => ?_)
            refine seq_yis hS (by decide) rfl (by decide) rfl (runs_loadN rfl hG) (fun a1 hS => ?_)
            by_cases t2 : x.1 ≥ n
            · skip
              refine seq_yis hS (by decide) rfl (by decide) rfl (runs_geq (r := true) rfl rfl (by rw [decide_eq_true_eq]; omega)) (fun a1 hS => ?_)
              refine seq_is hS (by decide) (runs_pick rfl rfl) (fun a1 hS => ?_)
              refine seq_is hS (by decide) (runs_move rfl) (fun a1 hS => ?_)
              refine seq_no hS (by decide) rfl (by decide) rfl rfl (fun a1 hS => ?_)
              refine seq_no hS (by decide) rfl (by decide) rfl rfl (fun a1 hS => ?_)
              refine seq_no hS (by decide) rfl (by decide) rfl rfl (fun a1 hS => ?_)
              refine seq_is hS (by decide) (runs_pick rfl rfl) (fun a1 hS => ?_)
              refine seq_is hS (by decide) (runs_move rfl) (fun a1 hS => ?_)
              refine seq_no hS (by decide) rfl (by decide) rfl rfl (fun a1 hS => ?_)
              refine seq_no hS (by decide) rfl (by decide) rfl rfl (fun a1 hS => ?_)
              refine seq_no hS (by decide) rfl (by decide) rfl rfl (fun a1 hS => ?_)
              refine seq_no hS (by decide) rfl (by decide) rfl rfl (fun a1 hS => ?_)
              refine seq_no hS (by decide) rfl (by decide) rfl rfl (fun a1 hS => ?_)
              refine seq_is hS (by decide) (runs_pick rfl rfl) (fun a1 hS => ?_)
              refine seq_is hS (by decide) (runs_move rfl) (fun a1 hS => ?_)
              refine seq_no hS (by decide) rfl (by decide) rfl rfl (fun a1 hS => ?_)
              refine seq_no hS (by decide) rfl (by decide) rfl rfl (fun a1 hS => ?_)
              refine seq_no hS (by decide) rfl (by decide) rfl rfl (fun a1 hS => ?_)
              refine seq_is hS (by decide) (runs_pick rfl rfl) (fun a1 hS => ?_)
              refine seq_is hS (by decide) (runs_move rfl) (fun a1 hS => ?_)
              refine seq_no hS (by decide) rfl (by decide) rfl rfl (fun a1 hS => ?_)
              refine seq_no hS (by decide) rfl (by decide) rfl rfl (fun a1 hS => ?_)
              refine seq_no hS (by decide) rfl (by decide) rfl rfl (fun a1 hS => ?_)
              refine seq_is hS (by decide) (runs_pick rfl rfl) (fun a1 hS => ?_)
              refine nil_ok (wp_cond_true (hS.eval rfl) (qx_seq (reg_seq ?_)))
              refine seq_is hS (by decide) (runs_assign rfl) (fun a1 hS => ?_)
              exact nil_ok (qx_ret (ret1 (t := 2) (by kernel_rfl) hS rfl ⟨_, rfl, by rw [check_form (fun h => by have hf := (formed_iff n es).1 h; have := (okE_iff n x).1 (hf.2.2.2 x hxm); omega)], hB⟩))
            · skip
              refine seq_yis hS (by decide) rfl (by decide) rfl (runs_geq (r := false) rfl rfl (by rw [decide_eq_false_iff_not]; omega)) (fun a1 hS => ?_)
              refine seq_is hS (by decide) (runs_pick rfl rfl) (fun a1 hS => ?_)
              refine seq_is hS (by decide) (runs_move rfl) (fun a1 hS => ?_)
              refine seq_yis hS (by decide) rfl (by decide) rfl (runs_f45 (by decide) rfl) (fun a1 hS => ?_)
              refine seq_yis hS (by decide) rfl (by decide) rfl (runs_load1 rfl hX) (fun a1 hS => ?_)
              by_cases t3 : x.2.1 < 0
              · skip
                refine seq_yis hS (by decide) rfl (by decide) rfl (runs_lss (r := true) rfl rfl (by rw [decide_eq_true_eq]; omega)) (fun a1 hS => ?_)
                refine seq_is hS (by decide) (runs_pick rfl rfl) (fun a1 hS => ?_)
                refine seq_is hS (by decide) (runs_move rfl) (fun a1 hS => ?_)
                refine seq_no hS (by decide) rfl (by decide) rfl rfl (fun a1 hS => ?_)
                refine seq_no hS (by decide) rfl (by decide) rfl rfl (fun a1 hS => ?_)
                refine seq_no hS (by decide) rfl (by decide) rfl rfl (fun a1 hS => ?_)
                refine seq_no hS (by decide) rfl (by decide) rfl rfl (fun a1 hS => ?_)
                refine seq_no hS (by decide) rfl (by decide) rfl rfl (fun a1 hS => ?_)
                refine seq_is hS (by decide) (runs_pick rfl rfl) (fun a1 hS => ?_)
                refine seq_is hS (by decide) (runs_move rfl) (fun a1 hS => ?_)
                refine seq_no hS (by decide) rfl (by decide) rfl rfl (fun a1 hS => ?_)
                refine seq_no hS (by decide) rfl (by decide) rfl rfl (fun a1 hS => ?_)
                refine seq_no hS (by decide) rfl (by decide) rfl rfl (fun a1 hS => ?_)
                refine seq_is hS (by decide) (runs_pick rfl rfl) (fun a1 hS => ?_)
                refine seq_is hS (by decide) (runs_move rfl) (fun a1 hS => ?_)
                refine seq_no hS (by decide) rfl (by decide) rfl rfl (fun a1 hS => ?_)
                refine seq_no hS (by decide) rfl (by decide) rfl rfl (fun a1 hS => ?_)
                refine seq_no hS (by decide) rfl (by decide) rfl rfl (fun a1 hS => ?_)
                refine seq_is hS (by decide) (runs_pick rfl rfl) (fun a1 hS => ?_)
                refine nil_ok (wp_cond_true (hS.eval rfl) (qx_seq (reg_seq ?_)))
                refine seq_is hS (by decide) (runs_assign rfl) (fun a1 hS => ?_)
                exact nil_ok (qx_ret (ret1 (t := 2) (by kernel_rfl) hS rfl ⟨_, rfl, by rw [check_form (fun h => by have hf := (formed_iff n es).1 h; have := (okE_iff n x).1 (hf.2.2.2 x hxm); omega)], hB⟩))
              · skip
                refine seq_yis hS (by decide) rfl (by decide) rfl (runs_lss (r := false) rfl rfl (by rw [decide_eq_false_iff_not]; omega)) (fun a1 hS => ?_)
                refine seq_is hS (by decide) (runs_pick rfl rfl) (fun a1 hS => ?_)
                refine seq_is hS (by decide) (runs_move rfl) (fun a1 hS => ?_)
                refine seq_yis hS (by decide) rfl (by decide) rfl (runs_f45 (by decide) rfl) (fun a1 hS => ?_)
                refine seq_yis hS (by decide) rfl (by decide) rfl (runs_load1 rfl hX) (fun a1 hS => ?_)
                refine seq_yis hS (by decide) rfl (by decide) rfl (runs_f24 (by decide) rfl) (fun a1 hS => ?_)
                refine seq_yis hS (by decide) rfl (by decide) rfl (runs_loadN rfl hG) (fun a1 hS => ?_)
                by_cases t4 : x.2.1 ≥ n
                · skip
                  refine seq_yis hS (by decide) rfl (by decide) rfl (runs_geq (r := true) rfl rfl (by rw [decide_eq_true_eq]; omega)) (fun a1 hS => ?_)
                  refine seq_is hS (by decide) (runs_pick rfl rfl) (fun a1 hS => ?_)
                  refine seq_is hS (by decide) (runs_move rfl) (fun a1 hS => ?_)
                  refine seq_no hS (by decide) rfl (by decide) rfl rfl (fun a1 hS => ?_)
                  refine seq_no hS (by decide) rfl (by decide) rfl rfl (fun a1 hS => ?_)
                  refine seq_no hS (by decide) rfl (by decide) rfl rfl (fun a1 hS => ?_)
                  refine seq_is hS (by decide) (runs_pick rfl rfl) (fun a1 hS => ?_)
                  refine seq_is hS (by decide) (runs_move rfl) (fun a1 hS => ?_)
                  refine seq_no hS (by decide) rfl (by decide) rfl rfl (fun a1 hS => ?_)
                  refine seq_no hS (by decide) rfl (by decide) rfl rfl (fun a1 hS => ?_)
                  refine seq_no hS (by decide) rfl (by decide) rfl rfl (fun a1 hS => ?_)
                  refine seq_is hS (by decide) (runs_pick rfl rfl) (fun a1 hS => ?_)
                  refine nil_ok (wp_cond_true (hS.eval rfl) (qx_seq (reg_seq ?_)))
                  refine seq_is hS (by decide) (runs_assign rfl) (fun a1 hS => ?_)
                  exact nil_ok (qx_ret (ret1 (t := 2) (by kernel_rfl) hS rfl ⟨_, rfl, by rw [check_form (fun h => by have hf := (formed_iff n es).1 h; have := (okE_iff n x).1 (hf.2.2.2 x hxm); omega)], hB⟩))
                · skip
                  refine seq_yis hS (by decide) rfl (by decide) rfl (runs_geq (r := false) rfl rfl (by rw [decide_eq_false_iff_not]; omega)) (fun a1 hS => ?_)
                  refine seq_is hS (by decide) (runs_pick rfl rfl) (fun a1 hS => ?_)
                  refine seq_is hS (by decide) (runs_move rfl) (fun a1 hS => ?_)
                  refine seq_yis hS (by decide) rfl (by decide) rfl (runs_f45 (by decide) rfl) (fun a1 hS => ?_)
                  refine seq_yis hS (by decide) rfl (by decide) rfl (runs_load2 rfl hX) (fun a1 hS => ?_)
                  by_cases t5 : x.2.2 < 0
                  · skip
                    refine seq_yis hS (by decide) rfl (by decide) rfl (runs_lss (r := true) rfl rfl (by rw [decide_eq_true_eq]; omega)) (fun a1 hS => ?_)
                    refine seq_is hS (by decide) (runs_pick rfl rfl) (fun a1 hS => ?_)
                    refine seq_is hS (by decide) (runs_move rfl) (fun a1 hS => ?_)
                    refine seq_no hS (by decide) rfl (by decide) rfl rfl (fun a1 hS => ?_)
                    refine seq_no hS (by decide) rfl (by decide) rfl rfl (fun a1 hS => ?_)
                    refine seq_no hS (by decide) rfl (by decide) rfl rfl (fun a1 hS => ?_)
                    refine seq_is hS (by decide) (runs_pick rfl rfl) (fun a1 hS => ?_)
                    refine nil_ok (wp_cond_true (hS.eval rfl) (qx_seq (reg_seq ?_)))
                    refine seq_is hS (by decide) (runs_assign rfl) (fun a1 hS => ?_)
                    exact nil_ok (qx_ret (ret1 (t := 2) (by kernel_rfl) hS rfl ⟨_, rfl, by rw [check_form (fun h => by have hf := (formed_iff n es).1 h; have := (okE_iff n x).1 (hf.2.2.2 x hxm); omega)], hB⟩))
                  · skip
                    refine seq_yis hS (by decide) rfl (by decide) rfl (runs_lss (r := false) rfl rfl (by rw [decide_eq_false_iff_not]; omega)) (fun a1 hS => ?_)
                    refine seq_is hS (by decide) (runs_pick rfl rfl) (fun a1 hS => ?_)
                    refine seq_is hS (by decide) (runs_move rfl) (fun a1 hS => ?_)
                    refine seq_yis hS (by decide) rfl (by decide) rfl (runs_f45 (by decide) rfl) (fun a1 hS => ?_)
                    refine seq_yis hS (by decide) rfl (by decide) rfl (runs_load2 rfl hX) (fun a1 hS => ?_)
                    by_cases t6 : x.2.2 > 1048576
                    · skip
                      refine seq_yis hS (by decide) rfl (by decide) rfl (runs_gtr (r := true) rfl rfl (by rw [decide_eq_true_eq]; omega)) (fun a1 hS => ?_)
                      refine seq_is hS (by decide) (runs_pick rfl rfl) (fun a1 hS => ?_)
                      refine nil_ok (wp_cond_true (hS.eval rfl) (qx_seq (reg_seq ?_)))
                      refine seq_is hS (by decide) (runs_assign rfl) (fun a1 hS => ?_)
                      exact nil_ok (qx_ret (ret1 (t := 2) (by kernel_rfl) hS rfl ⟨_, rfl, by rw [check_form (fun h => by have hf := (formed_iff n es).1 h; have := (okE_iff n x).1 (hf.2.2.2 x hxm); omega)], hB⟩))
                    · skip
                      refine seq_yis hS (by decide) rfl (by decide) rfl (runs_gtr (r := false) rfl rfl (by rw [decide_eq_false_iff_not]; omega)) (fun a1 hS => ?_)
                      refine seq_is hS (by decide) (runs_pick rfl rfl) (fun a1 hS => ?_)
                      have hokx : okE n x = true := (okE_iff n x).2 (by omega)
                      refine nil_ok (wp_cond_false (hS.eval rfl) (wp_skip (qx_seq (reg_seq ?_))))
                      refine seq_is hS (by decide) (runs_assign rfl) (fun a1 hS => ?_)
                      refine nil_ok (qx_for (fun m a w' => ∃ (k : Nat) (tw : Bool), k ≤ i ∧ m = i - k ∧ Below g w w' ∧ Has w' g 24 [.int .i64 n, .slice (some ⟨b, o, none⟩) es.length c] ∧ Has w' ge 48 (encE x) ∧ tw = (twiceB (es.take i) || (es.take k).any (fun y => sameE y x)) ∧ Sees 94 [(6, .int .i64 (k : Int)), (4, .int .i64 (i : Int)), (3, .bool tw), (5, .pointer (some ⟨ge, 0, none⟩)), (1, .pointer (some ⟨g, 0, none⟩))] a) i ⟨0, twiceB (es.take i), by omega, by omega, hB, hG, hX, by simp, hS.only _ ⟨rfl, rfl, rfl, rfl, rfl, trivial⟩⟩ ?_)
                      clear hG hB hS hX hrx
                      rintro m a w3 ⟨k, tw, hk, rfl, hB, hG, hX, htw, hS⟩
                      refine reg_seq ?_
                      refine seq_is hS (by decide) (runs_move rfl) (fun a1 hS => ?_)
                      refine seq_is hS (by decide) (runs_move rfl) (fun a1 hS => ?_)
                      by_cases hlk : k < i
                      · skip
                        refine seq_is hS (by decide) (runs_lss (r := true) rfl rfl (by rw [decide_eq_true_eq]; omega)) (fun a1 hS => ?_)
                        obtain ⟨y, hy⟩ : ∃ y, es[k]? = some y := ⟨_, List.getElem?_eq_getElem (by omega)⟩
                        have hry := range_below (edges_at hr hy) hB (by omega)
                        have hbw : b < w3.heap.size := by have := hB.size; omega
                        have hgx := hX.lt
                        have hgl := hG.lt
                        have htk : (es.take (k + 1)).any (fun y => sameE y x) = ((es.take k).any (fun y => sameE y x) || sameE y x) := by rw [take_snoc hy, List.any_append, List.any_cons, List.any_nil, Bool.or_false]
                        refine nil_ok ⟨_, hS.eval rfl, fun h => by simp at h, fun _ => ?_⟩
                        refine qx_seq (qx_block ?_)
                        cases tw with
                        | true =>
                          refine reg_u (fun a b => Below a.heap.size a b) (fun w4 => Below w3.heap.size w3 w4) [.inl (.bool true), .inl (.bool true), .inl undef, .inl undef, .inl undef, .inl undef, .inl undef, .inl undef, .inl undef, .inl undef, .inl undef, .inl undef, .inl undef, .inl undef, .inl undef, .inl undef, .inl undef, .inl undef, .inl undef, .inl undef, .inl undef, .inl undef, .inl (.bool true)] 23 1 mixed rfl (by kernel_rfl) hS (Below.refl _ _) (fun _ h => h.drew) ?_
                          refine us_is rfl (fun w' hw => runs_move rfl) ?_
                          refine us_is rfl (fun w' hw => runs_move rfl) ?_
                          refine us_no rfl rfl rfl ?_
                          refine us_no rfl rfl rfl ?_
                          refine us_no rfl rfl rfl ?_
                          refine us_no rfl rfl rfl ?_
                          refine us_no rfl rfl rfl ?_
                          refine us_no rfl rfl rfl ?_
                          refine us_no rfl rfl rfl ?_
                          refine us_no rfl rfl rfl ?_
                          refine us_no rfl rfl rfl ?_
                          refine us_no rfl rfl rfl ?_
                          refine us_un rfl rfl ?_
                          refine us_un rfl rfl ?_
                          refine us_un rfl rfl ?_
                          refine us_un rfl rfl ?_
                          refine us_un rfl rfl ?_
                          refine us_un rfl rfl ?_
                          refine us_un rfl rfl ?_
                          refine us_un rfl rfl ?_
                          refine us_un rfl rfl ?_
                          refine us_no rfl rfl rfl ?_
                          refine us_is rfl (fun w' hw => runs_pick rfl rfl) ?_
                          refine (fun a5 w5 hS5 hB5 _ => ?_)
                          refine tail_op 23 (by kernel_rfl) rfl hS5 (by decide) (runs_assign rfl) (fun v8 w8 a8 hp8 hS8 => ⟨trivial, ?_⟩)
                          obtain ⟨rfl, rfl⟩ := hp8
                          refine wpAnyH_done (by kernel_rfl) ?_ _
                          have hG := hG.below hB5 hgl
                          have hX := hX.below hB5 hgx
                          have hB := hB.trans (hB5.mono (by omega))
                          have hS := hS8
                          refine reg_seq ?_
                          refine seq_is hS (by decide) (runs_move rfl) (fun a1 hS => ?_)
                          refine seq_is hS (by decide) (runs_add (r := ((k + 1 : Nat) : Int)) rfl rfl (by simp [IntKind.wrap, IntKind.bits, IntKind.signed]; omega)) (fun a1 hS => ?_)
                          refine seq_is hS (by decide) (runs_assign rfl) (fun a1 hS => ?_)
                          exact nil_ok ⟨_, by omega, k + 1, true, by omega, rfl, hB, hG, hX, by rw [htk, ← Bool.or_assoc, ← htw]; rfl, hS.only _ ⟨rfl, rfl, rfl, rfl, rfl, trivial⟩⟩
                        | false =>
                          by_cases q1 : y.1 = x.1
                          · skip
                            by_cases q2 : y.2.1 = x.2.1
                            · skip
                              refine reg_u (fun a b => Below a.heap.size a b) (fun w4 => Below w3.heap.size w3 w4) [.inl (.bool false), .inl (.bool false), .inl (.pointer (some ⟨g, 0 + 1, none⟩)), .inl (.slice (some ⟨b, o, none⟩) es.length c), .inl (.int .i64 (k : Int)), .inl (.pointer (some ⟨b, o + k * 3, none⟩)), .inl (.pointer (some ⟨b, o + k * 3 + 0, none⟩)), .inl (.int .i64 y.1), .inl (.pointer (some ⟨ge, 0 + 0, none⟩)), .inl (.int .i64 x.1), .inl (.bool true), .inl (.bool true), .inl (.pointer (some ⟨g, 0 + 1, none⟩)), .inl (.slice (some ⟨b, o, none⟩) es.length c), .inl (.int .i64 (k : Int)), .inl (.pointer (some ⟨b, o + k * 3, none⟩)), .inl (.pointer (some ⟨b, o + k * 3 + 1, none⟩)), .inl (.int .i64 y.2.1), .inl (.pointer (some ⟨ge, 0 + 1, none⟩)), .inl (.int .i64 x.2.1), .inl (.bool true), .inl (.bool true), .inl (.bool true)] 23 1 mixed rfl (by kernel_rfl) hS (Below.refl _ _) (fun _ h => h.drew) ?_
                              refine us_is rfl (fun w' hw => runs_move rfl) ?_
                              refine us_is rfl (fun w' hw => runs_move rfl) ?_
                              refine us_yis rfl rfl (fun w' hw => runs_f24 (by decide) rfl) ?_
                              refine us_yis rfl rfl (fun w' hw => runs_loadV rfl (hG.below hw hgl)) ?_
                              refine us_yis rfl rfl (fun w' hw => runs_move rfl) ?_
                              refine us_yis rfl rfl (fun w' hw => runs_indexAddrG (j := k) rfl rfl und22 siz45 rfl (by omega)) ?_
                              refine us_yis rfl rfl (fun w' hw => runs_f45 (by decide) rfl) ?_
                              refine us_yis rfl rfl (fun w' hw => runs_load rfl und_plain3 ((range_below hry hw hbw) 0 _ rfl)) ?_
                              refine us_yis rfl rfl (fun w' hw => runs_f45 (by decide) rfl) ?_
                              refine us_yis rfl rfl (fun w' hw => runs_load0 rfl (hX.below hw hgx)) ?_
                              refine us_yis rfl rfl (fun w' hw => runs_eql (r := true) rfl rfl (by simp [q1])) ?_
                              refine us_yis rfl rfl (fun w' hw => runs_move rfl) ?_
                              refine us_yis rfl rfl (fun w' hw => runs_f24 (by decide) rfl) ?_
                              refine us_yis rfl rfl (fun w' hw => runs_loadV rfl (hG.below hw hgl)) ?_
                              refine us_yis rfl rfl (fun w' hw => runs_move rfl) ?_
                              refine us_yis rfl rfl (fun w' hw => runs_indexAddrG (j := k) rfl rfl und22 siz45 rfl (by omega)) ?_
                              refine us_yis rfl rfl (fun w' hw => runs_f45 (by decide) rfl) ?_
                              refine us_yis rfl rfl (fun w' hw => runs_load rfl und_plain3 ((range_below hry hw hbw) 1 _ rfl)) ?_
                              refine us_yis rfl rfl (fun w' hw => runs_f45 (by decide) rfl) ?_
                              refine us_yis rfl rfl (fun w' hw => runs_load1 rfl (hX.below hw hgx)) ?_
                              refine us_yis rfl rfl (fun w' hw => runs_eql (r := true) rfl rfl (by simp [q2])) ?_
                              refine us_yis rfl rfl (fun w' hw => runs_pick rfl rfl) ?_
                              refine us_is rfl (fun w' hw => runs_pick rfl rfl) ?_
                              refine (fun a5 w5 hS5 hB5 _ => ?_)
                              refine tail_op 23 (by kernel_rfl) rfl hS5 (by decide) (runs_assign rfl) (fun v8 w8 a8 hp8 hS8 => ⟨trivial, ?_⟩)
                              obtain ⟨rfl, rfl⟩ := hp8
                              refine wpAnyH_done (by kernel_rfl) ?_ _
                              have hG := hG.below hB5 hgl
                              have hX := hX.below hB5 hgx
                              have hB := hB.trans (hB5.mono (by omega))
                              have hS := hS8
                              refine reg_seq ?_
                              refine seq_is hS (by decide) (runs_move rfl) (fun a1 hS => ?_)
                              refine seq_is hS (by decide) (runs_add (r := ((k + 1 : Nat) : Int)) rfl rfl (by simp [IntKind.wrap, IntKind.bits, IntKind.signed]; omega)) (fun a1 hS => ?_)
                              refine seq_is hS (by decide) (runs_assign rfl) (fun a1 hS => ?_)
                              exact nil_ok ⟨_, by omega, k + 1, true, by omega, rfl, hB, hG, hX, by rw [htk, ← Bool.or_assoc, ← htw, (sameE_iff y x).2 ⟨q1, q2⟩]; rfl, hS.only _ ⟨rfl, rfl, rfl, rfl, rfl, trivial⟩⟩
                            · skip
                              refine reg_u (fun a b => Below a.heap.size a b) (fun w4 => Below w3.heap.size w3 w4) [.inl (.bool false), .inl (.bool false), .inl (.pointer (some ⟨g, 0 + 1, none⟩)), .inl (.slice (some ⟨b, o, none⟩) es.length c), .inl (.int .i64 (k : Int)), .inl (.pointer (some ⟨b, o + k * 3, none⟩)), .inl (.pointer (some ⟨b, o + k * 3 + 0, none⟩)), .inl (.int .i64 y.1), .inl (.pointer (some ⟨ge, 0 + 0, none⟩)), .inl (.int .i64 x.1), .inl (.bool true), .inl (.bool true), .inl (.pointer (some ⟨g, 0 + 1, none⟩)), .inl (.slice (some ⟨b, o, none⟩) es.length c), .inl (.int .i64 (k : Int)), .inl (.pointer (some ⟨b, o + k * 3, none⟩)), .inl (.pointer (some ⟨b, o + k * 3 + 1, none⟩)), .inl (.int .i64 y.2.1), .inl (.pointer (some ⟨ge, 0 + 1, none⟩)), .inl (.int .i64 x.2.1), .inl (.bool false), .inl (.bool false), .inl (.bool false)] 23 1 mixed rfl (by kernel_rfl) hS (Below.refl _ _) (fun _ h => h.drew) ?_
                              refine us_is rfl (fun w' hw => runs_move rfl) ?_
                              refine us_is rfl (fun w' hw => runs_move rfl) ?_
                              refine us_yis rfl rfl (fun w' hw => runs_f24 (by decide) rfl) ?_
                              refine us_yis rfl rfl (fun w' hw => runs_loadV rfl (hG.below hw hgl)) ?_
                              refine us_yis rfl rfl (fun w' hw => runs_move rfl) ?_
                              refine us_yis rfl rfl (fun w' hw => runs_indexAddrG (j := k) rfl rfl und22 siz45 rfl (by omega)) ?_
                              refine us_yis rfl rfl (fun w' hw => runs_f45 (by decide) rfl) ?_
                              refine us_yis rfl rfl (fun w' hw => runs_load rfl und_plain3 ((range_below hry hw hbw) 0 _ rfl)) ?_
                              refine us_yis rfl rfl (fun w' hw => runs_f45 (by decide) rfl) ?_
                              refine us_yis rfl rfl (fun w' hw => runs_load0 rfl (hX.below hw hgx)) ?_
                              refine us_yis rfl rfl (fun w' hw => runs_eql (r := true) rfl rfl (by simp [q1])) ?_
                              refine us_yis rfl rfl (fun w' hw => runs_move rfl) ?_
                              refine us_yis rfl rfl (fun w' hw => runs_f24 (by decide) rfl) ?_
                              refine us_yis rfl rfl (fun w' hw => runs_loadV rfl (hG.below hw hgl)) ?_
                              refine us_yis rfl rfl (fun w' hw => runs_move rfl) ?_
                              refine us_yis rfl rfl (fun w' hw => runs_indexAddrG (j := k) rfl rfl und22 siz45 rfl (by omega)) ?_
                              refine us_yis rfl rfl (fun w' hw => runs_f45 (by decide) rfl) ?_
                              refine us_yis rfl rfl (fun w' hw => runs_load rfl und_plain3 ((range_below hry hw hbw) 1 _ rfl)) ?_
                              refine us_yis rfl rfl (fun w' hw => runs_f45 (by decide) rfl) ?_
                              refine us_yis rfl rfl (fun w' hw => runs_load1 rfl (hX.below hw hgx)) ?_
                              refine us_yis rfl rfl (fun w' hw => runs_eql (r := false) rfl rfl (by simp [q2])) ?_
                              refine us_yis rfl rfl (fun w' hw => runs_pick rfl rfl) ?_
                              refine us_is rfl (fun w' hw => runs_pick rfl rfl) ?_
                              refine (fun a5 w5 hS5 hB5 _ => ?_)
                              refine tail_op 23 (by kernel_rfl) rfl hS5 (by decide) (runs_assign rfl) (fun v8 w8 a8 hp8 hS8 => ⟨trivial, ?_⟩)
                              obtain ⟨rfl, rfl⟩ := hp8
                              refine wpAnyH_done (by kernel_rfl) ?_ _
                              have hG := hG.below hB5 hgl
                              have hX := hX.below hB5 hgx
                              have hB := hB.trans (hB5.mono (by omega))
                              have hS := hS8
                              refine reg_seq ?_
                              refine seq_is hS (by decide) (runs_move rfl) (fun a1 hS => ?_)
                              refine seq_is hS (by decide) (runs_add (r := ((k + 1 : Nat) : Int)) rfl rfl (by simp [IntKind.wrap, IntKind.bits, IntKind.signed]; omega)) (fun a1 hS => ?_)
                              refine seq_is hS (by decide) (runs_assign rfl) (fun a1 hS => ?_)
                              exact nil_ok ⟨_, by omega, k + 1, false, by omega, rfl, hB, hG, hX, by rw [htk, ← Bool.or_assoc, ← htw, show sameE y x = false from Bool.eq_false_iff.2 (fun h => q2 ((sameE_iff y x).1 h).2)]; rfl, hS.only _ ⟨rfl, rfl, rfl, rfl, rfl, trivial⟩⟩
                          · skip
                            refine reg_u (fun a b => Below a.heap.size a b) (fun w4 => Below w3.heap.size w3 w4) [.inl (.bool false), .inl (.bool false), .inl (.pointer (some ⟨g, 0 + 1, none⟩)), .inl (.slice (some ⟨b, o, none⟩) es.length c), .inl (.int .i64 (k : Int)), .inl (.pointer (some ⟨b, o + k * 3, none⟩)), .inl (.pointer (some ⟨b, o + k * 3 + 0, none⟩)), .inl (.int .i64 y.1), .inl (.pointer (some ⟨ge, 0 + 0, none⟩)), .inl (.int .i64 x.1), .inl (.bool false), .inl (.bool false), .inl undef, .inl undef, .inl undef, .inl undef, .inl undef, .inl undef, .inl undef, .inl undef, .inl undef, .inl (.bool false), .inl (.bool false)] 23 1 mixed rfl (by kernel_rfl) hS (Below.refl _ _) (fun _ h => h.drew) ?_
                            refine us_is rfl (fun w' hw => runs_move rfl) ?_
                            refine us_is rfl (fun w' hw => runs_move rfl) ?_
                            refine us_yis rfl rfl (fun w' hw => runs_f24 (by decide) rfl) ?_
                            refine us_yis rfl rfl (fun w' hw => runs_loadV rfl (hG.below hw hgl)) ?_
                            refine us_yis rfl rfl (fun w' hw => runs_move rfl) ?_
                            refine us_yis rfl rfl (fun w' hw => runs_indexAddrG (j := k) rfl rfl und22 siz45 rfl (by omega)) ?_
                            refine us_yis rfl rfl (fun w' hw => runs_f45 (by decide) rfl) ?_
                            refine us_yis rfl rfl (fun w' hw => runs_load rfl und_plain3 ((range_below hry hw hbw) 0 _ rfl)) ?_
                            refine us_yis rfl rfl (fun w' hw => runs_f45 (by decide) rfl) ?_
                            refine us_yis rfl rfl (fun w' hw => runs_load0 rfl (hX.below hw hgx)) ?_
                            refine us_yis rfl rfl (fun w' hw => runs_eql (r := false) rfl rfl (by simp [q1])) ?_
                            refine us_yis rfl rfl (fun w' hw => runs_move rfl) ?_
                            refine us_no rfl rfl rfl ?_
                            refine us_no rfl rfl rfl ?_
                            refine us_no rfl rfl rfl ?_
                            refine us_no rfl rfl rfl ?_
                            refine us_no rfl rfl rfl ?_
                            refine us_no rfl rfl rfl ?_
                            refine us_no rfl rfl rfl ?_
                            refine us_no rfl rfl rfl ?_
                            refine us_no rfl rfl rfl ?_
                            refine us_yis rfl rfl (fun w' hw => runs_pick rfl rfl) ?_
                            refine us_is rfl (fun w' hw => runs_pick rfl rfl) ?_
                            refine (fun a5 w5 hS5 hB5 _ => ?_)
                            refine tail_op 23 (by kernel_rfl) rfl hS5 (by decide) (runs_assign rfl) (fun v8 w8 a8 hp8 hS8 => ⟨trivial, ?_⟩)
                            obtain ⟨rfl, rfl⟩ := hp8
                            refine wpAnyH_done (by kernel_rfl) ?_ _
                            have hG := hG.below hB5 hgl
                            have hX := hX.below hB5 hgx
                            have hB := hB.trans (hB5.mono (by omega))
                            have hS := hS8
                            refine reg_seq ?_
                            refine seq_is hS (by decide) (runs_move rfl) (fun a1 hS => ?_)
                            refine seq_is hS (by decide) (runs_add (r := ((k + 1 : Nat) : Int)) rfl rfl (by simp [IntKind.wrap, IntKind.bits, IntKind.signed]; omega)) (fun a1 hS => ?_)
                            refine seq_is hS (by decide) (runs_assign rfl) (fun a1 hS => ?_)
                            exact nil_ok ⟨_, by omega, k + 1, false, by omega, rfl, hB, hG, hX, by rw [htk, ← Bool.or_assoc, ← htw, show sameE y x = false from Bool.eq_false_iff.2 (fun h => q1 ((sameE_iff y x).1 h).1)]; rfl, hS.only _ ⟨rfl, rfl, rfl, rfl, rfl, trivial⟩⟩
                      · skip
                        refine seq_is hS (by decide) (runs_lss (r := false) rfl rfl (by rw [decide_eq_false_iff_not]; omega)) (fun a1 hS => ?_)
                        obtain rfl : k = i := by omega
                        refine nil_ok ⟨_, hS.eval rfl, fun _ => ?_, fun h => by simp at h⟩
                        refine reg_seq ?_
                        refine seq_is hS (by decide) (runs_move rfl) (fun a1 hS => ?_)
                        refine seq_is hS (by decide) (runs_add (r := ((k + 1 : Nat) : Int)) rfl rfl (by simp [IntKind.wrap, IntKind.bits, IntKind.signed]; omega)) (fun a1 hS => ?_)
                        refine seq_is hS (by decide) (runs_assign rfl) (fun a1 hS => ?_)
                        exact nil_ok ⟨_, by omega, k + 1, by omega, rfl, hB, hG, fun e he => by rw [take_snoc hx, List.mem_append, List.mem_singleton] at he; rcases he with he | rfl; exact hok e he; exact hokx, by rw [take_snoc hx, twice_snoc, ← htw]; exact hS.only _ ⟨rfl, rfl, rfl, trivial⟩⟩
        · skip
          refine seq_is hS (by decide) (runs_lss (r := false) rfl rfl (by rw [decide_eq_false_iff_not]; omega)) (fun a1 hS => ?_)
          obtain rfl : i = es.length := by omega
          rw [List.take_length] at hS hok
          have hfm : formedB n es = true := (formed_iff n es).2 ⟨by omega, by omega, by omega, hok⟩
          refine nil_ok ⟨_, hS.eval rfl, fun _ => ?_, fun h => by simp at h⟩
          refine qx_seq (qx_seq (reg_seq ?_))
          cases ht : twiceB es with
          | true =>
            rw [ht] at hS
            refine seq_is hS (by decide) (runs_move rfl) (fun a1 hS => ?_)
            refine nil_ok (wp_cond_true (hS.eval rfl) (qx_seq (reg_seq ?_)))
            refine seq_is hS (by decide) (runs_assign rfl) (fun a1 hS => ?_)
            exact nil_ok (qx_ret (ret1 (t := 2) (by kernel_rfl) hS rfl ⟨_, rfl, by unfold checkZ; rw [if_pos hfm, ht]; rfl, hB⟩))
          | false =>
            rw [ht] at hS
            refine seq_is hS (by decide) (runs_move rfl) (fun a1 hS => ?_)
            refine nil_ok (wp_cond_false (hS.eval rfl) (wp_skip (qx_seq (reg_seq ?_))))
            refine seq_is hS (by decide) (runs_assign rfl) (fun a1 hS => ?_)
            exact nil_ok (qx_ret (ret1 (t := 2) (by kernel_rfl) hS rfl ⟨_, rfl, by unfold checkZ; rw [if_pos hfm, ht]; rfl, hB⟩))
end Go.Proofs.YtapcpmalgdhakaaGreat
