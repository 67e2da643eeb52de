/- Layer 7: Check and Step. Conditions: none of our own. -/
import Derived.Test.YtapcpmalgdhakaaGreatSDone
namespace Go.Proofs.YtapcpmalgdhakaaGreat
open Go.RowKit
set_option maxRecDepth 100000

set_option maxHeartbeats 1000000 in
theorem step1_any (m : E) (w : World) : Ans 45 [.agg (encE m).toArray] w (fun u w' => u = .bool (great m.2.2) ∧ Below w.heap.size w w') := by
  refine calls_qx (args := [.agg (encE m).toArray]) 6 Tryz.func45 rfl (by kernel_rfl) (by simp) (fun a hS => ?_)
  have hB := Below.refl w.heap.size w
  refine qx_seq (reg_seq ?_)
  refine seq_op hS (by decide) (runs_boxB (cs := encE m) rfl rfl) (fun v1 w1 a1 hp hS => ?_)
  obtain ⟨rfl, hM1, hB1⟩ := hp
  have hB := hB.trans (hB1.mono hB.size)
  refine sI hS (runs_assign rfl) fun _ hS => ?_
  refine nil_ok (qx_seq (reg_seq ?_))
  refine sI hS (runs_fieldK fo48_2 rfl) fun _ hS => ?_
  refine sI hS (runs_load rfl pl2 (hM1.at rfl)) fun _ hS => ?_
  refine sI hS (runs_call (args := [.int .i64 m.2.2]) goes42 rfl (great_any m.2.2 w1)) fun _ hS => ?_
  refine sI hS (runs_assign rfl) fun _ hS => ?_
  exact nil_ok (qx_ret (ret1 (t := 2) (by kernel_rfl) hS rfl ⟨_, rfl, rfl, hB⟩))
theorem any_take {l : List E} {i : Nat} {m : E} (p : E → Bool) (h : l[i]? = some m) : (l.take (i + 1)).any p = ((l.take i).any p || p m) := by
  rw [List.take_add_one, h, Option.toList_some, List.any_append]; simp
set_option maxHeartbeats 1000000 in
theorem indexM_any (l : List E) (v : Value) (w : World) (hE0 : Edges w v l) : Ans 65 [v, .func (.func 45) #[] #[]] w (fun u w' => (∃ i : Int, u = .int .i64 i ∧ decide (0 ≤ i) = l.any (fun m => great m.2.2)) ∧ Below w.heap.size w w') := by
  obtain ⟨A, c, rfl, h1, h2, hA⟩ := hE0
  unfold maxLen at h2
  have hE0 : Edges w (.slice A l.length c) l := ⟨A, c, rfl, h1, by unfold maxLen; exact h2, hA⟩
  refine calls_qx (args := [.slice A l.length c, .func (.func 45) #[] #[]]) 19 Tryz.func65 rfl (by kernel_rfl) (by simp) (fun a hS => ?_)
  have hB := Below.refl w.heap.size w
  refine qx_seq (reg_seq ?_)
  refine sI hS (runs_assign rfl) fun _ hS => ?_
  refine nil_ok (qx_seq (qx_seq (reg_seq ?_)))
  refine sI hS (runs_move rfl) fun _ hS => ?_
  refine sI hS (runs_len rfl und32) fun _ hS => ?_
  refine sI hS (runs_move rfl) fun _ hS => ?_
  refine nil_ok (?_)
  refine qx_range (fun m a w' => ∃ i : Nat, i ≤ l.length ∧ m = l.length - i ∧ Below w.heap.size w w' ∧ (l.take i).any (fun m => great m.2.2) = false ∧ Sees 19 [(8, .int .i64 (i : Int)), (7, .int .i64 ((l.length : Nat) : Int)), (1, .func (.func 45) #[] #[]), (0, .slice A l.length c)] a) l.length ⟨0, by omega, by omega, Below.refl _ _, by simp, hS.only _ ⟨rfl, rfl, rfl, rfl, trivial⟩⟩ ?_
  clear hS
  rintro k a wl ⟨i, hi, rfl, hBl, hany, hS⟩
  refine reg_seq ?_
  by_cases hlt : i < l.length
  · skip
    refine seq_is hS (by decide) (lssT rfl rfl (by omega)) (fun a1 hS => ?_)
    refine nil_ok ⟨_, hS.eval rfl, fun h => by simp at h, fun _ => ?_⟩
    have hE := hE0.kept hBl
    obtain ⟨m, hm⟩ : ∃ m, l[i]? = some m := ⟨l[i], by simp [hlt]⟩
    obtain ⟨A', c', hv, _, _, hr⟩ := hE
    simp only [Value.slice.injEq, true_and] at hv
    obtain ⟨rfl, rfl⟩ := hv
    obtain ⟨b, o, rfl, hbw, hr⟩ := hr (by omega)
    have hre := edges_at hr hm
    have hB := Below.refl wl.heap.size wl
    refine qx_seq (qx_block (qx_seq (reg_seq ?_)))
    refine sI hS (runs_move rfl) fun _ hS => ?_
    refine sI hS (runs_assign rfl) fun _ hS => ?_
    refine nil_ok (qx_seq (reg_seq ?_))
    refine sI hS (runs_move rfl) fun _ hS => ?_
    refine sI hS (runs_move rfl) fun _ hS => ?_
    refine sI hS (runs_move rfl) fun _ hS => ?_
    refine sI hS (runs_indexAddrG (j := i) rfl rfl und32 sz48 rfl hlt) fun _ hS => ?_
    refine sI hS (runs_loadM rfl hre) fun _ hS => ?_
    refine seq_op hS (by decide) (runs_callv (args := [.agg (encE m).toArray]) (caps := []) goes45 rfl rfl (step1_any m wl)) (fun v1 w1 a1 hp hS => ?_)
    obtain ⟨rfl, hB1⟩ := hp
    have hB := hB.trans (hB1.mono hB.size)
    cases hg : great m.2.2 with
    | false =>
      rw [hg] at hS
      refine nil_ok (wp_cond_false (hS.eval rfl) (wp_skip (reg_seq ?_)))
      refine sI hS (runs_add (r := ((i + 1 : Nat) : Int)) rfl rfl (by simp [IntKind.wrap, IntKind.bits, IntKind.signed]; omega)) fun _ hS => ?_
      refine sI hS (runs_move rfl) fun _ hS => ?_
      exact nil_ok ⟨_, by omega, i + 1, by omega, rfl, hBl.trans (hB.mono hBl.size), by rw [any_take _ hm, hany, hg]; rfl, hS.only _ ⟨rfl, rfl, rfl, rfl, trivial⟩⟩
    | true =>
      rw [hg] at hS
      refine nil_ok (wp_cond_true (hS.eval rfl) (qx_seq (reg_seq ?_)))
      refine sI hS (runs_move rfl) fun _ hS => ?_
      refine sI hS (runs_assign rfl) fun _ hS => ?_
      exact nil_ok (qx_ret (ret1 (t := 4) (by kernel_rfl) hS rfl ⟨_, rfl, ⟨(i : Int), rfl, by rw [show l.any (fun m => great m.2.2) = true from List.any_eq_true.2 ⟨m, List.mem_of_getElem? hm, hg⟩]; simp⟩, hBl.trans (hB.mono hBl.size)⟩))
  · skip
    refine seq_is hS (by decide) (lssF rfl rfl (by omega)) (fun a1 hS => ?_)
    obtain rfl : i = l.length := by omega
    rw [List.take_length] at hany
    refine nil_ok ⟨_, hS.eval rfl, fun _ => ?_, fun h => by simp at h⟩
    refine qx_seq (reg_seq ?_)
    refine sI hS (runs_assign rfl) fun _ hS => ?_
    exact nil_ok (qx_ret (ret1 (t := 4) (by kernel_rfl) hS rfl ⟨_, rfl, ⟨-1, rfl, by rw [hany]; rfl⟩, hBl⟩))
set_option maxHeartbeats 1000000 in
theorem containsM_any (l : List E) (v : Value) (w : World) (hE0 : Edges w v l) : Ans 44 [v, .func (.func 45) #[] #[]] w (fun u w' => u = .bool (l.any fun m => great m.2.2) ∧ Below w.heap.size w w') := by
  refine calls_qx (args := [v, .func (.func 45) #[] #[]]) 9 Tryz.func44 rfl (by kernel_rfl) (by simp) (fun a hS => ?_)
  have hB := Below.refl w.heap.size w
  refine qx_seq (reg_seq ?_)
  refine sI hS (runs_assign rfl) fun _ hS => ?_
  refine nil_ok (qx_seq (reg_seq ?_))
  refine sI hS (runs_move rfl) fun _ hS => ?_
  refine sI hS (runs_move rfl) fun _ hS => ?_
  refine seq_op hS (by decide) (runs_call (args := [v, .func (.func 45) #[] #[]]) goes65 rfl (indexM_any l v w hE0)) (fun v1 w1 a1 hp hS => ?_)
  obtain ⟨⟨i, rfl, hi⟩, hB1⟩ := hp
  have hB := hB.trans (hB1.mono hB.size)
  refine sI hS (runs_geq rfl rfl hi) fun _ hS => ?_
  refine sI hS (runs_assign rfl) fun _ hS => ?_
  exact nil_ok (qx_ret (ret1 (t := 4) (by kernel_rfl) hS rfl ⟨_, rfl, rfl, hB⟩))
set_option maxHeartbeats 1000000 in
theorem pcheck_any (n : Int) (es : List E) (v : Value) (tg : ByteArray) (src steps : Int) (w : World) (hE : Edges w v es) :
    Ans 21 [gv n v, jv tg src steps] w (fun u w' => u = .int .i64 (if jobB n es (kindL tg.data.toList) src steps = true then 0 else 70) ∧ Below w.heap.size w w') := by
  refine calls_qx (args := [gv n (v), .agg (jc tg src steps).toArray]) 32 Tryz.func21 rfl (by kernel_rfl) (by simp) (fun a hS => ?_)
  have hB := Below.refl w.heap.size w
  have hEb := hE
  refine qx_seq (reg_seq ?_)
  refine seq_op hS (by decide) (runs_boxB (cs := [.int .i64 n, v]) rfl rfl) (fun v1 w1 a1 hp hS => ?_)
  obtain ⟨rfl, hM1, hB1⟩ := hp
  have hB := hB.trans (hB1.mono hB.size)
  have hE := hEb.kept hB
  refine seq_op hS (by decide) (runs_boxB (cs := jc tg src steps) rfl rfl) (fun v3 w3 a1 hp hS => ?_)
  obtain ⟨rfl, hM3, hB3⟩ := hp
  have hB := hB.trans (hB3.mono hB.size)
  have hM1 := hM1.below hB3 hM1.lt
  have hE := hEb.kept hB
  refine sI hS (runs_assign rfl) fun _ hS => ?_
  refine nil_ok (qx_seq (qx_seq (reg_seq ?_)))
  refine sI hS (runs_loadRow rfl hM1 Tryz.underlying24 rfl (by rw [sz24]; rfl)) fun _ hS => ?_
  refine seq_op hS (by decide) (runs_call (args := [gv n v]) goes39 rfl (check_any n es v w3 hE)) (fun v5 w5 a1 hp hS => ?_)
  obtain ⟨rfl, hB5⟩ := hp
  have hB := hB.trans (hB5.mono hB.size)
  have hM1 := hM1.below hB5 hM1.lt
  have hM3 := hM3.below hB5 hM3.lt
  by_cases h1 : checkZ n es ≠ 0
  · skip
    refine sI hS (runs_neq (r := true) rfl rfl (by simpa using h1)) fun _ hS => ?_
    refine sI hS (runs_move rfl) fun _ hS => ?_
    refine sN hS fun _ hS => ?_
    refine sN hS fun _ hS => ?_
    refine sN hS fun _ hS => ?_
    refine sN hS fun _ hS => ?_
    refine sI hS (runs_pick rfl rfl) fun _ hS => ?_
    refine sI hS (runs_move rfl) fun _ hS => ?_
    refine sN hS fun _ hS => ?_
    refine sN hS fun _ hS => ?_
    refine sN hS fun _ hS => ?_
    refine sN hS fun _ hS => ?_
    refine sN hS fun _ hS => ?_
    refine sN hS fun _ hS => ?_
    refine sI hS (runs_pick rfl rfl) fun _ hS => ?_
    refine sI hS (runs_move rfl) fun _ hS => ?_
    refine sN hS fun _ hS => ?_
    refine sN hS fun _ hS => ?_
    refine sN hS fun _ hS => ?_
    refine sI hS (runs_pick rfl rfl) fun _ hS => ?_
    refine sI hS (runs_move rfl) fun _ hS => ?_
    refine sN hS fun _ hS => ?_
    refine sN hS fun _ hS => ?_
    refine sN hS fun _ hS => ?_
    refine sI hS (runs_pick rfl rfl) fun _ hS => ?_
    refine nil_ok (wp_cond_true (hS.eval rfl) (qx_seq (reg_seq ?_)))
    refine sI hS (runs_assign rfl) fun _ hS => ?_
    exact nil_ok (qx_ret (ret1 (t := 4) (by kernel_rfl) hS rfl ⟨_, rfl, by first | rw [if_pos (job_iff.2 (by omega))] | rw [if_neg (fun h => by have := job_iff.1 h; omega)], hB⟩))
  refine sI hS (runs_neq (r := false) rfl rfl (by simpa using h1)) fun _ hS => ?_
  refine sI hS (runs_move rfl) fun _ hS => ?_
  refine sY hS (runs_fieldK fo26_0 rfl) fun _ hS => ?_
  refine sY hS (runs_load rfl pl9 (hM3.at rfl)) fun _ hS => ?_
  by_cases h2 : kindL tg.data.toList ≠ 0
  · skip
    refine sY hS (runs_call (args := [.string tg]) goes40 rfl (known_is _ w5 (b := true) (by simpa using h2))) fun _ hS => ?_
    refine sY hS (runs_not (b := true) rfl) fun _ hS => ?_
    refine sI hS (runs_pick rfl rfl) fun _ hS => ?_
    refine sI hS (runs_move rfl) fun _ hS => ?_
    refine sY hS (runs_fieldK fo26_1 rfl) fun _ hS => ?_
    refine sY hS (runs_load rfl pl3 (hM3.at rfl)) fun _ hS => ?_
    refine sY hS (runs_fieldK fo24_0 rfl) fun _ hS => ?_
    refine sY hS (runs_load rfl pl3 (hM1.at rfl)) fun _ hS => ?_
    by_cases h3 : 0 ≤ src ∧ src < n
    · skip
      refine sY hS (runs_call (args := [.int .i64 src, .int .i64 n]) goes41 rfl (below_yes w5 h3)) fun _ hS => ?_
      refine sY hS (runs_not (b := true) rfl) fun _ hS => ?_
      refine sI hS (runs_pick rfl rfl) fun _ hS => ?_
      refine sI hS (runs_move rfl) fun _ hS => ?_
      refine sY hS (runs_fieldK fo26_2 rfl) fun _ hS => ?_
      refine sY hS (runs_load rfl pl3 (hM3.at rfl)) fun _ hS => ?_
      by_cases h4 : steps < 1
      · skip
        refine sY hS (lssT rfl rfl (by omega)) fun _ hS => ?_
        refine sI hS (runs_pick rfl rfl) fun _ hS => ?_
        refine sI hS (runs_move rfl) fun _ hS => ?_
        refine sN hS fun _ hS => ?_
        refine sN hS fun _ hS => ?_
        refine sN hS fun _ hS => ?_
        refine sI hS (runs_pick rfl rfl) fun _ hS => ?_
        refine nil_ok (wp_cond_true (hS.eval rfl) (qx_seq (reg_seq ?_)))
        refine sI hS (runs_assign rfl) fun _ hS => ?_
        exact nil_ok (qx_ret (ret1 (t := 4) (by kernel_rfl) hS rfl ⟨_, rfl, by first | rw [if_pos (job_iff.2 (by omega))] | rw [if_neg (fun h => by have := job_iff.1 h; omega)], hB⟩))
      refine sY hS (lssF rfl rfl (by omega)) fun _ hS => ?_
      refine sI hS (runs_pick rfl rfl) fun _ hS => ?_
      refine sI hS (runs_move rfl) fun _ hS => ?_
      refine sY hS (runs_fieldK fo26_2 rfl) fun _ hS => ?_
      refine sY hS (runs_load rfl pl3 (hM3.at rfl)) fun _ hS => ?_
      by_cases h5 : steps > 64
      · skip
        refine sY hS (gtrT rfl rfl (by omega)) fun _ hS => ?_
        refine sI hS (runs_pick rfl rfl) fun _ hS => ?_
        refine nil_ok (wp_cond_true (hS.eval rfl) (qx_seq (reg_seq ?_)))
        refine sI hS (runs_assign rfl) fun _ hS => ?_
        exact nil_ok (qx_ret (ret1 (t := 4) (by kernel_rfl) hS rfl ⟨_, rfl, by first | rw [if_pos (job_iff.2 (by omega))] | rw [if_neg (fun h => by have := job_iff.1 h; omega)], hB⟩))
      refine sY hS (gtrF rfl rfl (by omega)) fun _ hS => ?_
      refine sI hS (runs_pick rfl rfl) fun _ hS => ?_
      refine nil_ok (wp_cond_false (hS.eval rfl) (wp_skip (qx_seq (reg_seq ?_))))
      refine sI hS (runs_assign rfl) fun _ hS => ?_
      exact nil_ok (qx_ret (ret1 (t := 4) (by kernel_rfl) hS rfl ⟨_, rfl, by first | rw [if_pos (job_iff.2 (by omega))] | rw [if_neg (fun h => by have := job_iff.1 h; omega)], hB⟩))
    refine sY hS (runs_call (args := [.int .i64 src, .int .i64 n]) goes41 rfl (below_no w5 h3)) fun _ hS => ?_
    refine sY hS (runs_not (b := false) rfl) fun _ hS => ?_
    refine sI hS (runs_pick rfl rfl) fun _ hS => ?_
    refine sI hS (runs_move rfl) fun _ hS => ?_
    refine sN hS fun _ hS => ?_
    refine sN hS fun _ hS => ?_
    refine sN hS fun _ hS => ?_
    refine sI hS (runs_pick rfl rfl) fun _ hS => ?_
    refine sI hS (runs_move rfl) fun _ hS => ?_
    refine sN hS fun _ hS => ?_
    refine sN hS fun _ hS => ?_
    refine sN hS fun _ hS => ?_
    refine sI hS (runs_pick rfl rfl) fun _ hS => ?_
    refine nil_ok (wp_cond_true (hS.eval rfl) (qx_seq (reg_seq ?_)))
    refine sI hS (runs_assign rfl) fun _ hS => ?_
    exact nil_ok (qx_ret (ret1 (t := 4) (by kernel_rfl) hS rfl ⟨_, rfl, by first | rw [if_pos (job_iff.2 (by omega))] | rw [if_neg (fun h => by have := job_iff.1 h; omega)], hB⟩))
  refine sY hS (runs_call (args := [.string tg]) goes40 rfl (known_is _ w5 (b := false) (by simpa using h2))) fun _ hS => ?_
  refine sY hS (runs_not (b := false) rfl) fun _ hS => ?_
  refine sI hS (runs_pick rfl rfl) fun _ hS => ?_
  refine sI hS (runs_move rfl) fun _ hS => ?_
  refine sN hS fun _ hS => ?_
  refine sN hS fun _ hS => ?_
  refine sN hS fun _ hS => ?_
  refine sN hS fun _ hS => ?_
  refine sN hS fun _ hS => ?_
  refine sN hS fun _ hS => ?_
  refine sI hS (runs_pick rfl rfl) fun _ hS => ?_
  refine sI hS (runs_move rfl) fun _ hS => ?_
  refine sN hS fun _ hS => ?_
  refine sN hS fun _ hS => ?_
  refine sN hS fun _ hS => ?_
  refine sI hS (runs_pick rfl rfl) fun _ hS => ?_
  refine sI hS (runs_move rfl) fun _ hS => ?_
  refine sN hS fun _ hS => ?_
  refine sN hS fun _ hS => ?_
  refine sN hS fun _ hS => ?_
  refine sI hS (runs_pick rfl rfl) fun _ hS => ?_
  refine nil_ok (wp_cond_true (hS.eval rfl) (qx_seq (reg_seq ?_)))
  refine sI hS (runs_assign rfl) fun _ hS => ?_
  exact nil_ok (qx_ret (ret1 (t := 4) (by kernel_rfl) hS rfl ⟨_, rfl, by first | rw [if_pos (job_iff.2 (by omega))] | rw [if_neg (fun h => by have := job_iff.1 h; omega)], hB⟩))
set_option maxHeartbeats 1000000 in
theorem step_any (n : Int) (es : List E) (v : Value) (tg : ByteArray) (src steps at_ : Int) (x : Vx) (w : World) (hE : Edges w v es) :
    Ans 25 [gv n v, jv tg src steps, .int .i64 at_, vv x] w (fun u w' => Below w.heap.size w w' ∧ ∃ sv, u = .tuple #[vv (stepL n es (kindL tg.data.toList) src steps at_ x).1, sv, .int .i64 (stepL n es (kindL tg.data.toList) src steps at_ x).2.2] ∧ w'.ownsRow w.heap.size 61 3 sv (stepL n es (kindL tg.data.toList) src steps at_ x).2.1.length (cellsE (stepL n es (kindL tg.data.toList) src steps at_ x).2.1)) := by
  refine calls_qx (args := [gv n (v), .agg (jc tg src steps).toArray, .int .i64 at_, .agg (vc x).toArray]) 68 Tryz.func25 rfl (by kernel_rfl) (by simp) (fun a hS => ?_)
  have hB := Below.refl w.heap.size w
  have hEb := hE
  refine qx_seq (reg_seq ?_)
  refine seq_op hS (by decide) (runs_boxB (cs := [.int .i64 n, v]) rfl rfl) (fun v1 w1 a1 hp hS => ?_)
  obtain ⟨rfl, hM1, hB1⟩ := hp
  have hB := hB.trans (hB1.mono hB.size)
  have hE := hEb.kept hB
  refine seq_op hS (by decide) (runs_boxB (cs := jc tg src steps) rfl rfl) (fun v3 w3 a1 hp hS => ?_)
  obtain ⟨rfl, hM3, hB3⟩ := hp
  have hB := hB.trans (hB3.mono hB.size)
  have hM1 := hM1.below hB3 hM1.lt
  have hE := hEb.kept hB
  refine seq_op hS (by decide) (runs_boxB (cs := vc x) rfl rfl) (fun v5 w5 a1 hp hS => ?_)
  obtain ⟨rfl, hM5, hB5⟩ := hp
  have hLhM5 : w.heap.size ≤ w3.heap.size := hB.size
  have hB := hB.trans (hB5.mono hB.size)
  have hM1 := hM1.below hB5 hM1.lt
  have hM3 := hM3.below hB5 hM3.lt
  have hE := hEb.kept hB
  refine seq_op hS (by decide) (runs_allocB (cs := [.int .i64 0, .int .i64 0, .bool false, .bool false, .int .i64 0]) zo28 rfl) (fun v7 w7 a1 hp hS => ?_)
  obtain ⟨rfl, hM7, hB7⟩ := hp
  have hLhM7 : w.heap.size ≤ w5.heap.size := hB.size
  have hNhM5hM7 : w3.heap.size ≠ w5.heap.size := by have := hM5.lt; omega
  have hB := hB.trans (hB7.mono hB.size)
  have hM1 := hM1.below hB7 hM1.lt
  have hM3 := hM3.below hB7 hM3.lt
  have hM5 := hM5.below hB7 hM5.lt
  have hE := hEb.kept hB
  refine sI hS (runs_assign rfl) fun _ hS => ?_
  refine sI hS (runs_assign rfl) fun _ hS => ?_
  refine nil_ok (qx_seq (qx_seq (reg_seq ?_)))
  refine sI hS (runs_loadRow rfl hM1 Tryz.underlying24 rfl (by rw [sz24]; rfl)) fun _ hS => ?_
  refine sI hS (runs_loadRow rfl hM3 Tryz.underlying26 rfl (by rw [sz26]; rfl)) fun _ hS => ?_
  refine seq_op hS (by decide) (runs_call (args := [gv n v, .agg (jc tg src steps).toArray]) goes21 rfl (pcheck_any n es v tg src steps w7 hE)) (fun v9 w9 a1 hp hS => ?_)
  obtain ⟨rfl, hB9⟩ := hp
  have hB := hB.trans (hB9.mono hB.size)
  have hM1 := hM1.below hB9 hM1.lt
  have hM3 := hM3.below hB9 hM3.lt
  have hM5 := hM5.below hB9 hM5.lt
  have hM7 := hM7.below hB9 hM7.lt
  have hE := hEb.kept hB
  by_cases h1 : ¬ jobB n es (kindL tg.data.toList) src steps = true
  · skip
    refine sI hS (runs_neq (r := true) rfl rfl (by rw [if_neg h1]; rfl)) fun _ hS => ?_
    refine sI hS (runs_move rfl) fun _ hS => ?_
    refine sN hS fun _ hS => ?_
    refine sN hS fun _ hS => ?_
    refine sN hS fun _ hS => ?_
    refine sN hS fun _ hS => ?_
    refine sN hS fun _ hS => ?_
    refine sN hS fun _ hS => ?_
    refine sI hS (runs_pick rfl rfl) fun _ hS => ?_
    refine sI hS (runs_move rfl) fun _ hS => ?_
    refine sN hS fun _ hS => ?_
    refine sN hS fun _ hS => ?_
    refine sN hS fun _ hS => ?_
    refine sN hS fun _ hS => ?_
    refine sN hS fun _ hS => ?_
    refine sI hS (runs_pick rfl rfl) fun _ hS => ?_
    refine nil_ok (wp_cond_true (hS.eval rfl) (qx_seq (reg_seq ?_)))
    refine sI hS (runs_buildK (pv := []) (cells := #[.int .i64 0, .int .i64 0, .bool false, .bool false, .int .i64 0]) rfl (by kernel_rfl)) fun _ hS => ?_
    refine seq_none hS (runs_storeB (cs := [.int .i64 0, .int .i64 0, .bool false, .bool false, .int .i64 0]) rfl rfl hM7 rfl rfl sz28) (fun v11 w11 a1 hp hS => ?_)
    have hQ11 := hM7
    obtain ⟨hM7, hU11⟩ := hp
    have hB := But.new hB hU11 (fun i e => by rw [e]; exact hLhM7) (Nat.le_refl _)
    have hM1 := hM1.but hU11 (has_ne hM1 hQ11 (by decide))
    have hM3 := hM3.but hU11 (has_ne hM3 hQ11 (by decide))
    have hM5 := hM5.but hU11 (hNhM5hM7)
    have hE := hEb.kept hB
    refine sI hS (runs_assign rfl) fun _ hS => ?_
    refine sI hS (runs_assign rfl) fun _ hS => ?_
    have hm : mayB n es (kindL tg.data.toList) src steps at_ x = false := by rw [Bool.eq_false_iff]; intro h; simp only [mayB, Bool.and_eq_true, decide_eq_true_eq] at h; first | exact h1 h.1.1.1.1 | omega
    have hfin : stepL n es (kindL tg.data.toList) src steps at_ x = (noVx, [], 70) := by unfold stepL; rw [if_pos hm]
    exact nil_ok (qx_ret (retRow3 (p := 8) (t := 9) (r := 10) (ty := 50) (by kernel_rfl) hS rfl rfl rfl hM7 Tryz.underlying50 rfl (by rw [sz28]; rfl) ⟨_, rfl, hB, by rw [hfin]; exact ⟨_, rfl, ⟨rfl, .inl ⟨rfl, rfl⟩⟩⟩⟩))
  refine sI hS (runs_neq (r := false) rfl rfl (by rw [if_pos (Classical.not_not.1 h1)]; rfl)) fun _ hS => ?_
  refine sI hS (runs_move rfl) fun _ hS => ?_
  refine sY hS (runs_fieldK fo28_0 rfl) fun _ hS => ?_
  refine sY hS (runs_load rfl pl3 (hM5.at rfl)) fun _ hS => ?_
  refine sY hS (runs_fieldK fo24_0 rfl) fun _ hS => ?_
  refine sY hS (runs_load rfl pl3 (hM1.at rfl)) fun _ hS => ?_
  by_cases h2 : 0 ≤ x.id ∧ x.id < n
  · skip
    refine sY hS (runs_call (args := [.int .i64 x.id, .int .i64 n]) goes41 rfl (below_yes w9 h2)) fun _ hS => ?_
    refine sY hS (runs_not (b := true) rfl) fun _ hS => ?_
    refine sI hS (runs_pick rfl rfl) fun _ hS => ?_
    refine sI hS (runs_move rfl) fun _ hS => ?_
    refine sY hS (runs_move rfl) fun _ hS => ?_
    refine sY hS (runs_fieldK fo26_2 rfl) fun _ hS => ?_
    refine sY hS (runs_load rfl pl3 (hM3.at rfl)) fun _ hS => ?_
    by_cases h3 : 0 ≤ at_ ∧ at_ < steps
    · skip
      refine sY hS (runs_call (args := [.int .i64 at_, .int .i64 steps]) goes41 rfl (below_yes w9 h3)) fun _ hS => ?_
      refine sY hS (runs_not (b := true) rfl) fun _ hS => ?_
      refine sI hS (runs_pick rfl rfl) fun _ hS => ?_
      refine nil_ok (wp_cond_false (hS.eval rfl) (wp_skip (qx_seq (qx_seq (reg_seq ?_)))))
      refine sI hS (runs_fieldK fo28_1 rfl) fun _ hS => ?_
      refine sI hS (runs_load rfl pl2 (hM5.at rfl)) fun _ hS => ?_
      by_cases g1 : great x.val = true
      · skip
        refine sI hS (runs_call (args := [.int .i64 x.val]) goes42 rfl (great_is w9 g1)) fun _ hS => ?_
        refine sI hS (runs_move rfl) fun _ hS => ?_
        refine sN hS fun _ hS => ?_
        refine sN hS fun _ hS => ?_
        refine sN hS fun _ hS => ?_
        refine sI hS (runs_pick rfl rfl) fun _ hS => ?_
        refine nil_ok (wp_cond_true (hS.eval rfl) (qx_seq (reg_seq ?_)))
        refine sI hS (runs_buildK (pv := []) (cells := #[.int .i64 0, .int .i64 0, .bool false, .bool false, .int .i64 0]) rfl (by kernel_rfl)) fun _ hS => ?_
        refine seq_none hS (runs_storeB (cs := [.int .i64 0, .int .i64 0, .bool false, .bool false, .int .i64 0]) rfl rfl hM7 rfl rfl sz28) (fun v13 w13 a1 hp hS => ?_)
        have hQ13 := hM7
        obtain ⟨hM7, hU13⟩ := hp
        have hB := But.new hB hU13 (fun i e => by rw [e]; exact hLhM7) (Nat.le_refl _)
        have hM1 := hM1.but hU13 (has_ne hM1 hQ13 (by decide))
        have hM3 := hM3.but hU13 (has_ne hM3 hQ13 (by decide))
        have hM5 := hM5.but hU13 (hNhM5hM7)
        have hE := hEb.kept hB
        refine sI hS (runs_assign rfl) fun _ hS => ?_
        refine sI hS (runs_assign rfl) fun _ hS => ?_
        have hm : mayB n es (kindL tg.data.toList) src steps at_ x = true := by simp only [mayB, Bool.and_eq_true, decide_eq_true_eq]; exact ⟨⟨⟨⟨Classical.not_not.1 h1, h2.1⟩, h2.2⟩, h3.1⟩, h3.2⟩
        have hfin : stepL n es (kindL tg.data.toList) src steps at_ x = (noVx, [], 71) := by unfold stepL; rw [if_neg (by rw [hm]; simp)]; simp [g1]
        exact nil_ok (qx_ret (retRow3 (p := 8) (t := 9) (r := 10) (ty := 50) (by kernel_rfl) hS rfl rfl rfl hM7 Tryz.underlying50 rfl (by rw [sz28]; rfl) ⟨_, rfl, hB, by rw [hfin]; exact ⟨_, rfl, ⟨rfl, .inl ⟨rfl, rfl⟩⟩⟩⟩))
      refine sI hS (runs_call (args := [.int .i64 x.val]) goes42 rfl (great_is w9 (Bool.eq_false_iff.2 g1))) fun _ hS => ?_
      refine sI hS (runs_move rfl) fun _ hS => ?_
      refine sY hS (runs_fieldK fo28_4 rfl) fun _ hS => ?_
      refine sY hS (runs_load rfl pl2 (hM5.at rfl)) fun _ hS => ?_
      by_cases g2 : great x.inn = true
      · skip
        refine sY hS (runs_call (args := [.int .i64 x.inn]) goes42 rfl (great_is w9 g2)) fun _ hS => ?_
        refine sI hS (runs_pick rfl rfl) fun _ hS => ?_
        refine nil_ok (wp_cond_true (hS.eval rfl) (qx_seq (reg_seq ?_)))
        refine sI hS (runs_buildK (pv := []) (cells := #[.int .i64 0, .int .i64 0, .bool false, .bool false, .int .i64 0]) rfl (by kernel_rfl)) fun _ hS => ?_
        refine seq_none hS (runs_storeB (cs := [.int .i64 0, .int .i64 0, .bool false, .bool false, .int .i64 0]) rfl rfl hM7 rfl rfl sz28) (fun v15 w15 a1 hp hS => ?_)
        have hQ15 := hM7
        obtain ⟨hM7, hU15⟩ := hp
        have hB := But.new hB hU15 (fun i e => by rw [e]; exact hLhM7) (Nat.le_refl _)
        have hM1 := hM1.but hU15 (has_ne hM1 hQ15 (by decide))
        have hM3 := hM3.but hU15 (has_ne hM3 hQ15 (by decide))
        have hM5 := hM5.but hU15 (hNhM5hM7)
        have hE := hEb.kept hB
        refine sI hS (runs_assign rfl) fun _ hS => ?_
        refine sI hS (runs_assign rfl) fun _ hS => ?_
        have hm : mayB n es (kindL tg.data.toList) src steps at_ x = true := by simp only [mayB, Bool.and_eq_true, decide_eq_true_eq]; exact ⟨⟨⟨⟨Classical.not_not.1 h1, h2.1⟩, h2.2⟩, h3.1⟩, h3.2⟩
        have hfin : stepL n es (kindL tg.data.toList) src steps at_ x = (noVx, [], 71) := by unfold stepL; rw [if_neg (by rw [hm]; simp)]; simp [g1, g2]
        exact nil_ok (qx_ret (retRow3 (p := 8) (t := 9) (r := 10) (ty := 50) (by kernel_rfl) hS rfl rfl rfl hM7 Tryz.underlying50 rfl (by rw [sz28]; rfl) ⟨_, rfl, hB, by rw [hfin]; exact ⟨_, rfl, ⟨rfl, .inl ⟨rfl, rfl⟩⟩⟩⟩))
      refine sY hS (runs_call (args := [.int .i64 x.inn]) goes42 rfl (great_is w9 (Bool.eq_false_iff.2 g2))) fun _ hS => ?_
      refine sI hS (runs_pick rfl rfl) fun _ hS => ?_
      refine nil_ok (wp_cond_false (hS.eval rfl) (wp_skip (qx_seq (qx_seq (reg_seq ?_)))))
      refine sI hS (runs_fieldK fo28_2 rfl) fun _ hS => ?_
      by_cases q1 : x.act = true
      · skip
        refine sI hS (runs_load rfl pl4 ((hM5.at rfl).trans (by rw [q1]))) fun _ hS => ?_
        refine sI hS (runs_not (b := true) rfl) fun _ hS => ?_
        refine sI hS (runs_move rfl) fun _ hS => ?_
        refine sN hS fun _ hS => ?_
        refine sN hS fun _ hS => ?_
        refine sN hS fun _ hS => ?_
        refine sI hS (runs_pick rfl rfl) fun _ hS => ?_
        refine nil_ok (wp_cond_false (hS.eval rfl) (wp_skip (qx_seq (reg_seq ?_))))
        refine sI hS (runs_loadRow rfl hM1 Tryz.underlying24 rfl (by rw [sz24]; rfl)) fun _ hS => ?_
        refine sI hS (runs_loadRow rfl hM3 Tryz.underlying26 rfl (by rw [sz26]; rfl)) fun _ hS => ?_
        refine sI hS (runs_move rfl) fun _ hS => ?_
        refine sI hS (runs_loadRow rfl hM5 Tryz.underlying50 rfl (by rw [sz28]; rfl)) fun _ hS => ?_
        obtain ⟨hc, hk0, hs0, hs1, hs2, hs3⟩ := job_iff.1 (Classical.not_not.1 h1)
        refine seq_op hS (by decide) (runs_call (args := [gv n v, .agg (jc tg src steps).toArray, .int .i64 at_, .agg (vc x).toArray]) goes43 rfl (done_any n es v tg src steps at_ x w9 hE hc hs2 hs3 (Bool.eq_false_iff.2 g1) (Bool.eq_false_iff.2 g2))) (fun v17 w17 a1 hp hS => ?_)
        obtain ⟨hB17, sv, rfl, hown⟩ := hp
        have hown := owns_mono hown hB.size
        have hB := hB.trans (hB17.mono hB.size)
        have hM1 := hM1.below hB17 hM1.lt
        have hM3 := hM3.below hB17 hM3.lt
        have hM5 := hM5.below hB17 hM5.lt
        have hM7 := hM7.below hB17 hM7.lt
        have hE := hEb.kept hB
        refine sI hS (runs_move rfl) fun _ hS => ?_
        refine sI hS (runs_extract rfl rfl) fun _ hS => ?_
        refine sI hS (runs_extract rfl rfl) fun _ hS => ?_
        refine seq_none hS (runs_storeB (cs := [.int .i64 x.id, .int .i64 (turnL n es (kindL tg.data.toList) src steps at_ x).1.1, .bool (turnL n es (kindL tg.data.toList) src steps at_ x).1.2, .bool false, .int .i64 0]) rfl rfl hM5 rfl rfl sz28) (fun v19 w19 a1 hp hS => ?_)
        have hQ19 := hM5
        obtain ⟨hM5, hU19⟩ := hp
        have hB := But.new hB hU19 (fun i e => by rw [e]; exact hLhM5) (Nat.le_refl _)
        have hM1 := hM1.but hU19 (has_ne hM1 hQ19 (by decide))
        have hM3 := hM3.but hU19 (has_ne hM3 hQ19 (by decide))
        have hM7 := hM7.but hU19 ((Ne.symm hNhM5hM7))
        have hE := hEb.kept hB
        have hown := owns_but hown hU19 (fun i old ho e => by subst e; exact has_ne ho hQ19 (by decide) rfl)
        refine sI hS (runs_assign rfl) fun _ hS => ?_
        refine nil_ok (qx_seq (qx_seq (reg_seq ?_)))
        refine sI hS (runs_fieldK fo28_1 rfl) fun _ hS => ?_
        refine sI hS (runs_load rfl pl2 (hM5.at rfl)) fun _ hS => ?_
        by_cases g3 : great (turnL n es (kindL tg.data.toList) src steps at_ x).1.1 = true
        · skip
          refine sI hS (runs_call (args := [.int .i64 (turnL n es (kindL tg.data.toList) src steps at_ x).1.1]) goes42 rfl (great_is w19 g3)) fun _ hS => ?_
          refine sI hS (runs_move rfl) fun _ hS => ?_
          refine sN hS fun _ hS => ?_
          refine sN hS fun _ hS => ?_
          refine sI hS (runs_pick rfl rfl) fun _ hS => ?_
          refine nil_ok (wp_cond_true (hS.eval rfl) (qx_seq (reg_seq ?_)))
          refine sI hS (runs_buildK (pv := []) (cells := #[.int .i64 0, .int .i64 0, .bool false, .bool false, .int .i64 0]) rfl (by kernel_rfl)) fun _ hS => ?_
          refine seq_none hS (runs_storeB (cs := [.int .i64 0, .int .i64 0, .bool false, .bool false, .int .i64 0]) rfl rfl hM7 rfl rfl sz28) (fun v21 w21 a1 hp hS => ?_)
          have hQ21 := hM7
          obtain ⟨hM7, hU21⟩ := hp
          have hB := But.new hB hU21 (fun i e => by rw [e]; exact hLhM7) (Nat.le_refl _)
          have hM1 := hM1.but hU21 (has_ne hM1 hQ21 (by decide))
          have hM3 := hM3.but hU21 (has_ne hM3 hQ21 (by decide))
          have hM5 := hM5.but hU21 (hNhM5hM7)
          have hE := hEb.kept hB
          have hown := owns_but hown hU21 (fun i old ho e => by subst e; exact has_ne ho hQ21 (by decide) rfl)
          refine sI hS (runs_assign rfl) fun _ hS => ?_
          refine sI hS (runs_assign rfl) fun _ hS => ?_
          have hm : mayB n es (kindL tg.data.toList) src steps at_ x = true := by simp only [mayB, Bool.and_eq_true, decide_eq_true_eq]; exact ⟨⟨⟨⟨Classical.not_not.1 h1, h2.1⟩, h2.2⟩, h3.1⟩, h3.2⟩
          have hfin : stepL n es (kindL tg.data.toList) src steps at_ x = (noVx, [], 71) := by unfold stepL; rw [if_neg (by rw [hm]; simp)]; simp [g1, g2, q1, g3]
          exact nil_ok (qx_ret (retRow3 (p := 8) (t := 9) (r := 10) (ty := 50) (by kernel_rfl) hS rfl rfl rfl hM7 Tryz.underlying50 rfl (by rw [sz28]; rfl) ⟨_, rfl, hB, by rw [hfin]; exact ⟨_, rfl, ⟨rfl, .inl ⟨rfl, rfl⟩⟩⟩⟩))
        refine sI hS (runs_call (args := [.int .i64 (turnL n es (kindL tg.data.toList) src steps at_ x).1.1]) goes42 rfl (great_is w19 (Bool.eq_false_iff.2 g3))) fun _ hS => ?_
        refine sI hS (runs_move rfl) fun _ hS => ?_
        refine sY hS (runs_move rfl) fun _ hS => ?_
        refine seq_yes hS (by decide) rfl (by decide) rfl (runs_call (args := [sv, .func (.func 45) #[] #[]]) goes44 rfl (containsM_any (turnL n es (kindL tg.data.toList) src steps at_ x).2 sv w19 (edges_ownE hown rfl))) (fun v23 w23 a1 hp hS => ?_)
        obtain ⟨rfl, hB23⟩ := hp
        have hB := hB.trans (hB23.mono hB.size)
        have hM1 := hM1.below hB23 hM1.lt
        have hM3 := hM3.below hB23 hM3.lt
        have hM5 := hM5.below hB23 hM5.lt
        have hM7 := hM7.below hB23 hM7.lt
        have hE := hEb.kept hB
        have hown := owns_kept hown hB23
        by_cases g4 : ((turnL n es (kindL tg.data.toList) src steps at_ x).2.any fun m => great m.2.2) = true
        · skip
          rw [g4] at hS
          refine sI hS (runs_pick rfl rfl) fun _ hS => ?_
          refine nil_ok (wp_cond_true (hS.eval rfl) (qx_seq (reg_seq ?_)))
          refine sI hS (runs_buildK (pv := []) (cells := #[.int .i64 0, .int .i64 0, .bool false, .bool false, .int .i64 0]) rfl (by kernel_rfl)) fun _ hS => ?_
          refine seq_none hS (runs_storeB (cs := [.int .i64 0, .int .i64 0, .bool false, .bool false, .int .i64 0]) rfl rfl hM7 rfl rfl sz28) (fun v25 w25 a1 hp hS => ?_)
          have hQ25 := hM7
          obtain ⟨hM7, hU25⟩ := hp
          have hB := But.new hB hU25 (fun i e => by rw [e]; exact hLhM7) (Nat.le_refl _)
          have hM1 := hM1.but hU25 (has_ne hM1 hQ25 (by decide))
          have hM3 := hM3.but hU25 (has_ne hM3 hQ25 (by decide))
          have hM5 := hM5.but hU25 (hNhM5hM7)
          have hE := hEb.kept hB
          have hown := owns_but hown hU25 (fun i old ho e => by subst e; exact has_ne ho hQ25 (by decide) rfl)
          refine sI hS (runs_assign rfl) fun _ hS => ?_
          refine sI hS (runs_assign rfl) fun _ hS => ?_
          have hm : mayB n es (kindL tg.data.toList) src steps at_ x = true := by simp only [mayB, Bool.and_eq_true, decide_eq_true_eq]; exact ⟨⟨⟨⟨Classical.not_not.1 h1, h2.1⟩, h2.2⟩, h3.1⟩, h3.2⟩
          have hfin : stepL n es (kindL tg.data.toList) src steps at_ x = (noVx, [], 71) := by unfold stepL; rw [if_neg (by rw [hm]; simp)]; simp [g1, g2, q1, g3, g4]
          exact nil_ok (qx_ret (retRow3 (p := 8) (t := 9) (r := 10) (ty := 50) (by kernel_rfl) hS rfl rfl rfl hM7 Tryz.underlying50 rfl (by rw [sz28]; rfl) ⟨_, rfl, hB, by rw [hfin]; exact ⟨_, rfl, ⟨rfl, .inl ⟨rfl, rfl⟩⟩⟩⟩))
        · skip
          rw [Bool.eq_false_iff.2 g4] at hS
          refine sI hS (runs_pick rfl rfl) fun _ hS => ?_
          refine nil_ok (wp_cond_false (hS.eval rfl) (wp_skip (qx_seq (reg_seq ?_))))
          refine sI hS (runs_loadRow rfl hM5 Tryz.underlying50 rfl (by rw [sz28]; rfl)) fun _ hS => ?_
          refine sI hS (runs_move rfl) fun _ hS => ?_
          refine seq_none hS (runs_storeB (cs := [.int .i64 x.id, .int .i64 (turnL n es (kindL tg.data.toList) src steps at_ x).1.1, .bool (turnL n es (kindL tg.data.toList) src steps at_ x).1.2, .bool false, .int .i64 0]) rfl rfl hM7 rfl rfl sz28) (fun v27 w27 a1 hp hS => ?_)
          have hQ27 := hM7
          obtain ⟨hM7, hU27⟩ := hp
          have hB := But.new hB hU27 (fun i e => by rw [e]; exact hLhM7) (Nat.le_refl _)
          have hM1 := hM1.but hU27 (has_ne hM1 hQ27 (by decide))
          have hM3 := hM3.but hU27 (has_ne hM3 hQ27 (by decide))
          have hM5 := hM5.but hU27 (hNhM5hM7)
          have hE := hEb.kept hB
          have hown := owns_but hown hU27 (fun i old ho e => by subst e; exact has_ne ho hQ27 (by decide) rfl)
          refine sI hS (runs_assign rfl) fun _ hS => ?_
          refine sI hS (runs_assign rfl) fun _ hS => ?_
          have hm : mayB n es (kindL tg.data.toList) src steps at_ x = true := by simp only [mayB, Bool.and_eq_true, decide_eq_true_eq]; exact ⟨⟨⟨⟨Classical.not_not.1 h1, h2.1⟩, h2.2⟩, h3.1⟩, h3.2⟩
          have hfin : stepL n es (kindL tg.data.toList) src steps at_ x = (⟨x.id, (turnL n es (kindL tg.data.toList) src steps at_ x).1.1, (turnL n es (kindL tg.data.toList) src steps at_ x).1.2, false, 0⟩, (turnL n es (kindL tg.data.toList) src steps at_ x).2, 0) := by unfold stepL; rw [if_neg (by rw [hm]; simp)]; simp [g1, g2, q1, g3, g4]
          exact nil_ok (qx_ret (retRow3 (p := 8) (t := 9) (r := 10) (ty := 50) (by kernel_rfl) hS rfl rfl rfl hM7 Tryz.underlying50 rfl (by rw [sz28]; rfl) ⟨_, rfl, hB, by rw [hfin]; exact ⟨_, rfl, hown⟩⟩))
      refine sI hS (runs_load rfl pl4 ((hM5.at rfl).trans (by rw [Bool.eq_false_iff.2 q1]))) fun _ hS => ?_
      refine sI hS (runs_not (b := false) rfl) fun _ hS => ?_
      refine sI hS (runs_move rfl) fun _ hS => ?_
      refine sY hS (runs_fieldK fo28_3 rfl) fun _ hS => ?_
      by_cases q2 : x.has = true
      · skip
        refine sY hS (runs_load rfl pl4 ((hM5.at rfl).trans (by rw [q2]))) fun _ hS => ?_
        refine sY hS (runs_not (b := true) rfl) fun _ hS => ?_
        refine sI hS (runs_pick rfl rfl) fun _ hS => ?_
        refine nil_ok (wp_cond_false (hS.eval rfl) (wp_skip (qx_seq (reg_seq ?_))))
        refine sI hS (runs_loadRow rfl hM1 Tryz.underlying24 rfl (by rw [sz24]; rfl)) fun _ hS => ?_
        refine sI hS (runs_loadRow rfl hM3 Tryz.underlying26 rfl (by rw [sz26]; rfl)) fun _ hS => ?_
        refine sI hS (runs_move rfl) fun _ hS => ?_
        refine sI hS (runs_loadRow rfl hM5 Tryz.underlying50 rfl (by rw [sz28]; rfl)) fun _ hS => ?_
        obtain ⟨hc, hk0, hs0, hs1, hs2, hs3⟩ := job_iff.1 (Classical.not_not.1 h1)
        refine seq_op hS (by decide) (runs_call (args := [gv n v, .agg (jc tg src steps).toArray, .int .i64 at_, .agg (vc x).toArray]) goes43 rfl (done_any n es v tg src steps at_ x w9 hE hc hs2 hs3 (Bool.eq_false_iff.2 g1) (Bool.eq_false_iff.2 g2))) (fun v29 w29 a1 hp hS => ?_)
        obtain ⟨hB29, sv, rfl, hown⟩ := hp
        have hown := owns_mono hown hB.size
        have hB := hB.trans (hB29.mono hB.size)
        have hM5 := hM5.below hB29 hM5.lt
        have hM7 := hM7.below hB29 hM7.lt
        refine sI hS (runs_move rfl) fun _ hS => ?_
        refine sI hS (runs_extract rfl rfl) fun _ hS => ?_
        refine sI hS (runs_extract rfl rfl) fun _ hS => ?_
        refine seq_none hS (runs_storeB (cs := [.int .i64 x.id, .int .i64 (turnL n es (kindL tg.data.toList) src steps at_ x).1.1, .bool (turnL n es (kindL tg.data.toList) src steps at_ x).1.2, .bool false, .int .i64 0]) rfl rfl hM5 rfl rfl sz28) (fun v31 w31 a1 hp hS => ?_)
        have hQ31 := hM5
        obtain ⟨hM5, hU31⟩ := hp
        have hB := But.new hB hU31 (fun i e => by rw [e]; exact hLhM5) (Nat.le_refl _)
        have hM7 := hM7.but hU31 ((Ne.symm hNhM5hM7))
        have hown := owns_but hown hU31 (fun i old ho e => by subst e; exact has_ne ho hQ31 (by decide) rfl)
        refine sI hS (runs_assign rfl) fun _ hS => ?_
        refine nil_ok (qx_seq (qx_seq (reg_seq ?_)))
        refine sI hS (runs_fieldK fo28_1 rfl) fun _ hS => ?_
        refine sI hS (runs_load rfl pl2 (hM5.at rfl)) fun _ hS => ?_
        by_cases g3 : great (turnL n es (kindL tg.data.toList) src steps at_ x).1.1 = true
        · skip
          refine sI hS (runs_call (args := [.int .i64 (turnL n es (kindL tg.data.toList) src steps at_ x).1.1]) goes42 rfl (great_is w31 g3)) fun _ hS => ?_
          refine sI hS (runs_move rfl) fun _ hS => ?_
          refine sN hS fun _ hS => ?_
          refine sN hS fun _ hS => ?_
          refine sI hS (runs_pick rfl rfl) fun _ hS => ?_
          refine nil_ok (wp_cond_true (hS.eval rfl) (qx_seq (reg_seq ?_)))
          refine sI hS (runs_buildK (pv := []) (cells := #[.int .i64 0, .int .i64 0, .bool false, .bool false, .int .i64 0]) rfl (by kernel_rfl)) fun _ hS => ?_
          refine seq_none hS (runs_storeB (cs := [.int .i64 0, .int .i64 0, .bool false, .bool false, .int .i64 0]) rfl rfl hM7 rfl rfl sz28) (fun v33 w33 a1 hp hS => ?_)
          have hQ33 := hM7
          obtain ⟨hM7, hU33⟩ := hp
          have hB := But.new hB hU33 (fun i e => by rw [e]; exact hLhM7) (Nat.le_refl _)
          have hM5 := hM5.but hU33 (hNhM5hM7)
          have hown := owns_but hown hU33 (fun i old ho e => by subst e; exact has_ne ho hQ33 (by decide) rfl)
          refine sI hS (runs_assign rfl) fun _ hS => ?_
          refine sI hS (runs_assign rfl) fun _ hS => ?_
          have hm : mayB n es (kindL tg.data.toList) src steps at_ x = true := by simp only [mayB, Bool.and_eq_true, decide_eq_true_eq]; exact ⟨⟨⟨⟨Classical.not_not.1 h1, h2.1⟩, h2.2⟩, h3.1⟩, h3.2⟩
          have hfin : stepL n es (kindL tg.data.toList) src steps at_ x = (noVx, [], 71) := by unfold stepL; rw [if_neg (by rw [hm]; simp)]; simp [g1, g2, q1, q2, g3]
          exact nil_ok (qx_ret (retRow3 (p := 8) (t := 9) (r := 10) (ty := 50) (by kernel_rfl) hS rfl rfl rfl hM7 Tryz.underlying50 rfl (by rw [sz28]; rfl) ⟨_, rfl, hB, by rw [hfin]; exact ⟨_, rfl, ⟨rfl, .inl ⟨rfl, rfl⟩⟩⟩⟩))
        refine sI hS (runs_call (args := [.int .i64 (turnL n es (kindL tg.data.toList) src steps at_ x).1.1]) goes42 rfl (great_is w31 (Bool.eq_false_iff.2 g3))) fun _ hS => ?_
        refine sI hS (runs_move rfl) fun _ hS => ?_
        refine sY hS (runs_move rfl) fun _ hS => ?_
        refine seq_yes hS (by decide) rfl (by decide) rfl (runs_call (args := [sv, .func (.func 45) #[] #[]]) goes44 rfl (containsM_any (turnL n es (kindL tg.data.toList) src steps at_ x).2 sv w31 (edges_ownE hown rfl))) (fun v35 w35 a1 hp hS => ?_)
        obtain ⟨rfl, hB35⟩ := hp
        have hB := hB.trans (hB35.mono hB.size)
        have hM5 := hM5.below hB35 hM5.lt
        have hM7 := hM7.below hB35 hM7.lt
        have hown := owns_kept hown hB35
        by_cases g4 : ((turnL n es (kindL tg.data.toList) src steps at_ x).2.any fun m => great m.2.2) = true
        · skip
          rw [g4] at hS
          refine sI hS (runs_pick rfl rfl) fun _ hS => ?_
          refine nil_ok (wp_cond_true (hS.eval rfl) (qx_seq (reg_seq ?_)))
          refine sI hS (runs_buildK (pv := []) (cells := #[.int .i64 0, .int .i64 0, .bool false, .bool false, .int .i64 0]) rfl (by kernel_rfl)) fun _ hS => ?_
          refine seq_none hS (runs_storeB (cs := [.int .i64 0, .int .i64 0, .bool false, .bool false, .int .i64 0]) rfl rfl hM7 rfl rfl sz28) (fun v37 w37 a1 hp hS => ?_)
          have hQ37 := hM7
          obtain ⟨hM7, hU37⟩ := hp
          have hB := But.new hB hU37 (fun i e => by rw [e]; exact hLhM7) (Nat.le_refl _)
          have hM5 := hM5.but hU37 (hNhM5hM7)
          have hown := owns_but hown hU37 (fun i old ho e => by subst e; exact has_ne ho hQ37 (by decide) rfl)
          refine sI hS (runs_assign rfl) fun _ hS => ?_
          refine sI hS (runs_assign rfl) fun _ hS => ?_
          have hm : mayB n es (kindL tg.data.toList) src steps at_ x = true := by simp only [mayB, Bool.and_eq_true, decide_eq_true_eq]; exact ⟨⟨⟨⟨Classical.not_not.1 h1, h2.1⟩, h2.2⟩, h3.1⟩, h3.2⟩
          have hfin : stepL n es (kindL tg.data.toList) src steps at_ x = (noVx, [], 71) := by unfold stepL; rw [if_neg (by rw [hm]; simp)]; simp [g1, g2, q1, q2, g3, g4]
          exact nil_ok (qx_ret (retRow3 (p := 8) (t := 9) (r := 10) (ty := 50) (by kernel_rfl) hS rfl rfl rfl hM7 Tryz.underlying50 rfl (by rw [sz28]; rfl) ⟨_, rfl, hB, by rw [hfin]; exact ⟨_, rfl, ⟨rfl, .inl ⟨rfl, rfl⟩⟩⟩⟩))
        · skip
          rw [Bool.eq_false_iff.2 g4] at hS
          refine sI hS (runs_pick rfl rfl) fun _ hS => ?_
          refine nil_ok (wp_cond_false (hS.eval rfl) (wp_skip (qx_seq (reg_seq ?_))))
          refine sI hS (runs_loadRow rfl hM5 Tryz.underlying50 rfl (by rw [sz28]; rfl)) fun _ hS => ?_
          refine sI hS (runs_move rfl) fun _ hS => ?_
          refine seq_none hS (runs_storeB (cs := [.int .i64 x.id, .int .i64 (turnL n es (kindL tg.data.toList) src steps at_ x).1.1, .bool (turnL n es (kindL tg.data.toList) src steps at_ x).1.2, .bool false, .int .i64 0]) rfl rfl hM7 rfl rfl sz28) (fun v39 w39 a1 hp hS => ?_)
          have hQ39 := hM7
          obtain ⟨hM7, hU39⟩ := hp
          have hB := But.new hB hU39 (fun i e => by rw [e]; exact hLhM7) (Nat.le_refl _)
          have hM5 := hM5.but hU39 (hNhM5hM7)
          have hown := owns_but hown hU39 (fun i old ho e => by subst e; exact has_ne ho hQ39 (by decide) rfl)
          refine sI hS (runs_assign rfl) fun _ hS => ?_
          refine sI hS (runs_assign rfl) fun _ hS => ?_
          have hm : mayB n es (kindL tg.data.toList) src steps at_ x = true := by simp only [mayB, Bool.and_eq_true, decide_eq_true_eq]; exact ⟨⟨⟨⟨Classical.not_not.1 h1, h2.1⟩, h2.2⟩, h3.1⟩, h3.2⟩
          have hfin : stepL n es (kindL tg.data.toList) src steps at_ x = (⟨x.id, (turnL n es (kindL tg.data.toList) src steps at_ x).1.1, (turnL n es (kindL tg.data.toList) src steps at_ x).1.2, false, 0⟩, (turnL n es (kindL tg.data.toList) src steps at_ x).2, 0) := by unfold stepL; rw [if_neg (by rw [hm]; simp)]; simp [g1, g2, q1, q2, g3, g4]
          exact nil_ok (qx_ret (retRow3 (p := 8) (t := 9) (r := 10) (ty := 50) (by kernel_rfl) hS rfl rfl rfl hM7 Tryz.underlying50 rfl (by rw [sz28]; rfl) ⟨_, rfl, hB, by rw [hfin]; exact ⟨_, rfl, hown⟩⟩))
      refine sY hS (runs_load rfl pl4 ((hM5.at rfl).trans (by rw [Bool.eq_false_iff.2 q2]))) fun _ hS => ?_
      refine sY hS (runs_not (b := false) rfl) fun _ hS => ?_
      refine sI hS (runs_pick rfl rfl) fun _ hS => ?_
      refine nil_ok (wp_cond_true (hS.eval rfl) (qx_seq (reg_seq ?_)))
      refine sI hS (runs_loadRow rfl hM5 Tryz.underlying50 rfl (by rw [sz28]; rfl)) fun _ hS => ?_
      refine seq_none hS (runs_storeB (cs := vc x) rfl rfl hM7 rfl rfl sz28) (fun v41 w41 a1 hp hS => ?_)
      obtain ⟨hM7, hU41⟩ := hp
      have hB := But.new hB hU41 (fun i e => by rw [e]; exact hLhM7) (Nat.le_refl _)
      refine sI hS (runs_assign rfl) fun _ hS => ?_
      refine sI hS (runs_assign rfl) fun _ hS => ?_
      have hm : mayB n es (kindL tg.data.toList) src steps at_ x = true := by simp only [mayB, Bool.and_eq_true, decide_eq_true_eq]; exact ⟨⟨⟨⟨Classical.not_not.1 h1, h2.1⟩, h2.2⟩, h3.1⟩, h3.2⟩
      have hfin : stepL n es (kindL tg.data.toList) src steps at_ x = (x, [], 0) := by unfold stepL; rw [if_neg (by rw [hm]; simp)]; simp [g1, g2, q1, q2]
      exact nil_ok (qx_ret (retRow3 (p := 8) (t := 9) (r := 10) (ty := 50) (by kernel_rfl) hS rfl rfl rfl hM7 Tryz.underlying50 rfl (by rw [sz28]; rfl) ⟨_, rfl, hB, by rw [hfin]; exact ⟨_, rfl, ⟨rfl, .inl ⟨rfl, rfl⟩⟩⟩⟩))
    refine sY hS (runs_call (args := [.int .i64 at_, .int .i64 steps]) goes41 rfl (below_no w9 h3)) fun _ hS => ?_
    refine sY hS (runs_not (b := false) rfl) fun _ hS => ?_
    refine sI hS (runs_pick rfl rfl) fun _ hS => ?_
    refine nil_ok (wp_cond_true (hS.eval rfl) (qx_seq (reg_seq ?_)))
    refine sI hS (runs_buildK (pv := []) (cells := #[.int .i64 0, .int .i64 0, .bool false, .bool false, .int .i64 0]) rfl (by kernel_rfl)) fun _ hS => ?_
    refine seq_none hS (runs_storeB (cs := [.int .i64 0, .int .i64 0, .bool false, .bool false, .int .i64 0]) rfl rfl hM7 rfl rfl sz28) (fun v43 w43 a1 hp hS => ?_)
    obtain ⟨hM7, hU43⟩ := hp
    have hB := But.new hB hU43 (fun i e => by rw [e]; exact hLhM7) (Nat.le_refl _)
    refine sI hS (runs_assign rfl) fun _ hS => ?_
    refine sI hS (runs_assign rfl) fun _ hS => ?_
    have hm : mayB n es (kindL tg.data.toList) src steps at_ x = false := by rw [Bool.eq_false_iff]; intro h; simp only [mayB, Bool.and_eq_true, decide_eq_true_eq] at h; first | exact h1 h.1.1.1.1 | omega
    have hfin : stepL n es (kindL tg.data.toList) src steps at_ x = (noVx, [], 70) := by unfold stepL; rw [if_pos hm]
    exact nil_ok (qx_ret (retRow3 (p := 8) (t := 9) (r := 10) (ty := 50) (by kernel_rfl) hS rfl rfl rfl hM7 Tryz.underlying50 rfl (by rw [sz28]; rfl) ⟨_, rfl, hB, by rw [hfin]; exact ⟨_, rfl, ⟨rfl, .inl ⟨rfl, rfl⟩⟩⟩⟩))
  refine sY hS (runs_call (args := [.int .i64 x.id, .int .i64 n]) goes41 rfl (below_no w9 h2)) fun _ hS => ?_
  refine sY hS (runs_not (b := false) rfl) fun _ hS => ?_
  refine sI hS (runs_pick rfl rfl) fun _ hS => ?_
  refine sI hS (runs_move rfl) fun _ hS => ?_
  refine sN hS fun _ hS => ?_
  refine sN hS fun _ hS => ?_
  refine sN hS fun _ hS => ?_
  refine sN hS fun _ hS => ?_
  refine sN hS fun _ hS => ?_
  refine sI hS (runs_pick rfl rfl) fun _ hS => ?_
  refine nil_ok (wp_cond_true (hS.eval rfl) (qx_seq (reg_seq ?_)))
  refine sI hS (runs_buildK (pv := []) (cells := #[.int .i64 0, .int .i64 0, .bool false, .bool false, .int .i64 0]) rfl (by kernel_rfl)) fun _ hS => ?_
  refine seq_none hS (runs_storeB (cs := [.int .i64 0, .int .i64 0, .bool false, .bool false, .int .i64 0]) rfl rfl hM7 rfl rfl sz28) (fun v45 w45 a1 hp hS => ?_)
  obtain ⟨hM7, hU45⟩ := hp
  have hB := But.new hB hU45 (fun i e => by rw [e]; exact hLhM7) (Nat.le_refl _)
  refine sI hS (runs_assign rfl) fun _ hS => ?_
  refine sI hS (runs_assign rfl) fun _ hS => ?_
  have hm : mayB n es (kindL tg.data.toList) src steps at_ x = false := by rw [Bool.eq_false_iff]; intro h; simp only [mayB, Bool.and_eq_true, decide_eq_true_eq] at h; first | exact h1 h.1.1.1.1 | omega
  have hfin : stepL n es (kindL tg.data.toList) src steps at_ x = (noVx, [], 70) := by unfold stepL; rw [if_pos hm]
  exact nil_ok (qx_ret (retRow3 (p := 8) (t := 9) (r := 10) (ty := 50) (by kernel_rfl) hS rfl rfl rfl hM7 Tryz.underlying50 rfl (by rw [sz28]; rfl) ⟨_, rfl, hB, by rw [hfin]; exact ⟨_, rfl, ⟨rfl, .inl ⟨rfl, rfl⟩⟩⟩⟩))
end Go.Proofs.YtapcpmalgdhakaaGreat
