/- Layer 9: quiet, the values, the form, and how all are at first. Conditions: none of our own. -/
import Derived.Test.YtapcpmalgdhakaaGreatVEng
import Derived.Test.YtapcpmalgdhakaaGreatVRow
import Derived.Test.YtapcpmalgdhakaaGreatNAll
namespace Go.Proofs.YtapcpmalgdhakaaGreat
open Go.RowKit
set_option maxRecDepth 100000

def stillV (x : Vx) : Vx := ⟨x.id, x.val, false, false, x.inn⟩
theorem still_ne (x : Vx) : (!decide (x = stillV x)) = (x.act || x.has) := by
  obtain ⟨a, b, c, d, e⟩ := x
  cases c <;> cases d <;> simp [stillV]
theorem any_takeV {l : List Vx} {i : Nat} {m : Vx} (p : Vx → Bool) (h : l[i]? = some m) : (l.take (i + 1)).any p = ((l.take i).any p || p m) := by
  rw [List.take_add_one, h, Option.toList_some, List.any_append]; simp
theorem quiet_any_not (l : List Vx) : (!(l.any fun x => x.act || x.has)) = quietL l := by
  unfold quietL
  induction l with
  | nil => rfl
  | cons x r ih => rw [List.any_cons, List.all_cons, ← ih]; cases x.act <;> cases x.has <;> simp
set_option maxHeartbeats 1000000 in
theorem still_any (x : Vx) (w : World) : Ans 34 [vv x] w (fun u w' => u = vv (stillV x) ∧ Below w.heap.size w w') := by
  refine calls_qx (args := [.agg (vc x).toArray]) 6 Tryz.func34 rfl (by kernel_rfl) (by simp) (fun a hS => ?_)
  have hB := Below.refl w.heap.size w
  refine qx_seq (reg_seq ?_)
  refine seq_op hS (by decide) (runs_boxB (cs := vc x) rfl rfl) (fun v1 w1 a1 hp hS => ?_)
  obtain ⟨rfl, hM1, hB1⟩ := hp
  have hLhM1 : w.heap.size ≤ w.heap.size := hB.size
  have hB := hB.trans (hB1.mono hB.size)
  refine seq_op hS (by decide) (runs_allocB (cs := [.int .i64 0, .int .i64 0, .bool false, .bool false, .int .i64 0]) zo28 rfl) (fun v3 w3 a1 hp hS => ?_)
  obtain ⟨rfl, hM3, hB3⟩ := hp
  have hLhM3 : w.heap.size ≤ w1.heap.size := hB.size
  have hNhM1hM3 : w.heap.size ≠ w1.heap.size := by have := hM1.lt; omega
  have hB := hB.trans (hB3.mono hB.size)
  have hM1 := hM1.below hB3 hM1.lt
  refine nil_ok (qx_seq (reg_seq ?_))
  refine sI hS (runs_fieldK fo28_2 rfl) fun _ hS => ?_
  refine seq_none hS (runs_storeC rfl rfl rfl s1_4 hM1 rfl) (fun v5 w5 a1 hp hS => ?_)
  obtain ⟨hM1, hU5⟩ := hp
  have hB := But.new hB hU5 (fun i e => by rw [e]; exact hLhM1) (Nat.le_refl _)
  have hM3 := hM3.but hU5 ((Ne.symm hNhM1hM3))
  refine sI hS (runs_fieldK fo28_3 rfl) fun _ hS => ?_
  refine seq_none hS (runs_storeC rfl rfl rfl s1_4 hM1 rfl) (fun v7 w7 a1 hp hS => ?_)
  obtain ⟨hM1, hU7⟩ := hp
  have hB := But.new hB hU7 (fun i e => by rw [e]; exact hLhM1) (Nat.le_refl _)
  have hM3 := hM3.but hU7 ((Ne.symm hNhM1hM3))
  refine nil_ok (qx_seq (reg_seq ?_))
  refine sI hS (runs_loadRow rfl hM1 Tryz.underlying50 rfl (by rw [sz28]; rfl)) fun _ hS => ?_
  refine seq_none hS (runs_storeB (cs := [.int .i64 x.id, .int .i64 x.val, .bool false, .bool false, .int .i64 x.inn]) rfl rfl hM3 rfl rfl sz28) (fun v9 w9 a1 hp hS => ?_)
  obtain ⟨hM3, hU9⟩ := hp
  have hB := But.new hB hU9 (fun i e => by rw [e]; exact hLhM3) (Nat.le_refl _)
  exact nil_ok (qx_ret (retRow (t := 0) (p := 2) (ty := 50) (by kernel_rfl) hS rfl hM3 rfl Tryz.underlying50 rfl (by rw [sz28]; rfl) ⟨_, rfl, rfl, hB⟩))
set_option maxHeartbeats 1000000 in
theorem quiet1_any (x : Vx) (w : World) : Ans 33 [vv x] w (fun u w' => u = .bool (x.act || x.has) ∧ Below w.heap.size w w') := by
  refine calls_qx (args := [.agg (vc x).toArray]) 7 Tryz.func33 rfl (by kernel_rfl) (by simp) (fun a hS => ?_)
  have hB := Below.refl w.heap.size w
  refine qx_seq (reg_seq ?_)
  refine seq_op hS (by decide) (runs_boxB (cs := vc x) rfl rfl) (fun v1 w1 a1 hp hS => ?_)
  obtain ⟨rfl, hM1, hB1⟩ := hp
  have hB := hB.trans (hB1.mono hB.size)
  refine sI hS (runs_assign rfl) fun _ hS => ?_
  refine nil_ok (qx_seq (reg_guard (fun w' => Below w1.heap.size w1 w') [.inl (.agg (vc x).toArray), .inl (.agg (vc x).toArray), .inl (.agg (vc (stillV x)).toArray), .inl (.bool (x.act || x.has))] 4 1 mixed rfl (by kernel_rfl) hS (Below.refl _ _) (fun _ h => h.drew) ?_))
  refine hs_is rfl (fun w' hw => runs_loadRow rfl (hM1.below hw hM1.lt) Tryz.underlying50 rfl (by rw [sz28]; rfl)) ?_
  refine hs_is rfl (fun w' hw => runs_loadRow rfl (hM1.below hw hM1.lt) Tryz.underlying50 rfl (by rw [sz28]; rfl)) ?_
  refine hs_val rfl (fun w' hw hq => (runs_call (args := [.agg (vc x).toArray]) goes34 rfl (still_any x w')).mono (by rintro u w3 ⟨rfl, h1⟩; exact ⟨rfl, hw.trans (h1.mono hw.size), h1⟩)) ?_
  refine hs_is rfl (fun w' hw => runs_neV (a := x) (b := stillV x) rfl rfl (still_ne x)) ?_
  refine (fun a3 w3 hS hB3 hq => ?_)
  clear hq
  have hB := hB.trans (hB3.mono hB.size)
  refine tail_op 4 (by kernel_rfl) rfl hS (by decide) (runs_assign rfl) (fun v5 w5 a5 hp hS => ⟨trivial, ?_⟩)
  obtain ⟨rfl, rfl⟩ := hp
  refine wpAnyH_done (by kernel_rfl) ?_ _
  exact qx_ret (ret1 (t := 2) (by kernel_rfl) hS rfl ⟨_, rfl, rfl, hB⟩)
set_option maxHeartbeats 1000000 in
theorem indexV_any (l : List Vx) (v : Value) (w : World) (hV : Verts w v l) : Ans 58 [v, .func (.func 33) #[] #[]] w (fun u w' => (∃ i : Int, u = .int .i64 i ∧ decide (0 ≤ i) = l.any (fun x => x.act || x.has)) ∧ Below w.heap.size w w') := by
  obtain ⟨A, c, rfl, hc1, hc2, hA⟩ := hV
  have hV : Verts w (.slice A l.length c) l := ⟨A, c, rfl, hc1, hc2, hA⟩
  have hcm := hc2
  unfold maxLen at hcm
  refine calls_qx (args := [.slice A l.length c, .func (.func 33) #[] #[]]) 19 Tryz.func58 rfl (by kernel_rfl) (by simp) (fun a hS => ?_)
  have hB := Below.refl w.heap.size w
  refine qx_seq (reg_seq ?_)
  refine sI hS (runs_assign rfl) fun _ hS => ?_
  refine nil_ok (qx_seq (qx_seq (reg_seq ?_)))
  refine sI hS (runs_move rfl) fun _ hS => ?_
  refine sI hS (runs_len rfl undVx) fun _ hS => ?_
  refine sI hS (runs_move rfl) fun _ hS => ?_
  refine nil_ok (?_)
  have hBo1 := hB
  refine qx_range (fun mm a w' => ∃ (i : Nat), i ≤ l.length ∧ mm = l.length - i ∧ Below w.heap.size w w' ∧ (l.take i).any (fun x => x.act || x.has) = false ∧ Sees 19 [(8, .int .i64 (i : Int)), (7, .int .i64 ((l.length : Nat) : Int)), (1, .func (.func 33) #[] #[]), (0, .slice A l.length c)] a) l.length ⟨0, by omega, by omega, Below.refl _ _, by simp, hS.only _ ⟨rfl, rfl, rfl, rfl, trivial⟩⟩ ?_
  clear hS
  rintro mm a wl1 ⟨i, hi1, rfl, hBl1, hF, hS⟩
  have hV := hV.kept hBl1
  have hB := Below.refl wl1.heap.size wl1
  refine reg_seq ?_
  by_cases hlt1 : i < l.length
  · skip
    refine sI hS (lssT rfl rfl (by omega)) fun _ hS => ?_
    refine nil_ok ⟨_, hS.eval rfl, fun h => by simp at h, fun _ => ?_⟩
    obtain ⟨x, hx⟩ : ∃ x, l[i]? = some x := ⟨l[i], by simp [hlt1]⟩
    obtain ⟨b, o, rfl, hbw, hr⟩ := verts_row hV (by omega)
    have hrx := verts_at hr hx
    refine qx_seq (qx_block (qx_seq (reg_seq ?_)))
    refine sI hS (runs_move rfl) fun _ hS => ?_
    refine sI hS (runs_assign rfl) fun _ hS => ?_
    refine nil_ok (qx_seq (reg_seq ?_))
    refine sI hS (runs_move rfl) fun _ hS => ?_
    refine sI hS (runs_move rfl) fun _ hS => ?_
    refine sI hS (runs_move rfl) fun _ hS => ?_
    refine sI hS (runs_indexAddrG (j := i) rfl rfl undVx sz28 rfl hlt1) fun _ hS => ?_
    refine sI hS (runs_loadVx rfl hrx) fun _ hS => ?_
    refine seq_op hS (by decide) (runs_callv (args := [.agg (vc x).toArray]) (caps := []) goes33 rfl rfl (quiet1_any x wl1)) (fun v1 w1 a1 hp hS => ?_)
    obtain ⟨rfl, hB1⟩ := hp
    have hB := hB.trans (hB1.mono hB.size)
    refine nil_ok (?_)
    by_cases hq : (x.act || x.has) = true
    · skip
      rw [hq] at hS
      refine wp_cond_true (hS.eval rfl) (qx_seq (reg_seq ?_))
      refine sI hS (runs_move rfl) fun _ hS => ?_
      refine sI hS (runs_assign rfl) fun _ hS => ?_
      exact nil_ok (qx_ret (ret1 (t := 4) (by kernel_rfl) hS rfl ⟨_, rfl, ⟨(i : Int), rfl, by rw [List.any_eq_true.2 ⟨x, List.mem_of_getElem? hx, hq⟩]; simp⟩, hBo1.trans ((hBl1.trans ((hB).mono hBl1.size)).mono hBo1.size)⟩))
    · skip
      rw [Bool.eq_false_iff.2 hq] at hS
      refine wp_cond_false (hS.eval rfl) (wp_skip (reg_seq ?_))
      refine sI hS (runs_add (r := ((i + 1 : Nat) : Int)) rfl rfl (by simp [IntKind.wrap, IntKind.bits, IntKind.signed]; omega)) fun _ hS => ?_
      refine sI hS (runs_move rfl) fun _ hS => ?_
      exact nil_ok ⟨_, by omega, i + 1, by omega, rfl, hBl1.trans (hB.mono hBl1.size), by rw [any_takeV _ hx, hF, Bool.eq_false_iff.2 hq]; rfl, hS.only _ ⟨rfl, rfl, rfl, rfl, trivial⟩⟩
  refine sI hS (lssF rfl rfl (by omega)) fun _ hS => ?_
  obtain rfl : i = l.length := by omega
  refine nil_ok ⟨_, hS.eval rfl, fun _ => ?_, fun h => by simp at h⟩
  have hB := hBo1.trans ((hBl1.trans (hB.mono hBl1.size)).mono hBo1.size)
  rw [List.take_length] at hF
  refine qx_seq (reg_seq ?_)
  refine sI hS (runs_assign rfl) fun _ hS => ?_
  exact nil_ok (qx_ret (ret1 (t := 4) (by kernel_rfl) hS rfl ⟨_, rfl, ⟨-1, rfl, by rw [hF]; rfl⟩, hB⟩))
set_option maxHeartbeats 1000000 in
theorem containsV_any (l : List Vx) (v : Value) (w : World) (hV : Verts w v l) : Ans 32 [v, .func (.func 33) #[] #[]] w (fun u w' => u = .bool (l.any fun x => x.act || x.has) ∧ Below w.heap.size w w') := by
  refine calls_qx (args := [v, .func (.func 33) #[] #[]]) 9 Tryz.func32 rfl (by kernel_rfl) (by simp) (fun a hS => ?_)
  have hB := Below.refl w.heap.size w
  refine qx_seq (reg_seq ?_)
  refine sI hS (runs_assign rfl) fun _ hS => ?_
  refine nil_ok (qx_seq (reg_seq ?_))
  refine sI hS (runs_move rfl) fun _ hS => ?_
  refine sI hS (runs_move rfl) fun _ hS => ?_
  refine seq_op hS (by decide) (runs_call (args := [v, .func (.func 33) #[] #[]]) goes58 rfl (indexV_any l v w hV)) (fun v1 w1 a1 hp hS => ?_)
  obtain ⟨⟨i, rfl, hi⟩, hB1⟩ := hp
  have hB := hB.trans (hB1.mono hB.size)
  refine sI hS (runs_geq (r := (l.any fun x => x.act || x.has)) rfl rfl hi) fun _ hS => ?_
  refine sI hS (runs_assign rfl) fun _ hS => ?_
  exact nil_ok (qx_ret (ret1 (t := 4) (by kernel_rfl) hS rfl ⟨_, rfl, rfl, hB⟩))
set_option maxHeartbeats 1000000 in
theorem quiet_any (l : List Vx) (v : Value) (w : World) (hV : Verts w v l) : Ans 11 [v] w (fun u w' => u = .bool (quietL l) ∧ Below w.heap.size w w') := by
  refine calls_qx (args := [v]) 6 Tryz.func11 rfl (by kernel_rfl) (by simp) (fun a hS => ?_)
  have hB := Below.refl w.heap.size w
  refine qx_seq (reg_seq ?_)
  refine sI hS (runs_assign rfl) fun _ hS => ?_
  refine nil_ok (qx_seq (reg_seq ?_))
  refine sI hS (runs_move rfl) fun _ hS => ?_
  refine seq_op hS (by decide) (runs_call (args := [v, .func (.func 33) #[] #[]]) goes32 rfl (containsV_any l v w hV)) (fun v1 w1 a1 hp hS => ?_)
  obtain ⟨rfl, hB1⟩ := hp
  have hB := hB.trans (hB1.mono hB.size)
  refine sI hS (runs_not (b := (l.any fun x => x.act || x.has)) rfl |>.mono (by rintro v w2 ⟨rfl, rfl⟩; exact ⟨by rw [quiet_any_not], rfl⟩)) fun _ hS => ?_
  refine sI hS (runs_assign rfl) fun _ hS => ?_
  exact nil_ok (qx_ret (ret1 (t := 2) (by kernel_rfl) hS rfl ⟨_, rfl, rfl, hB⟩))
set_option maxHeartbeats 1000000 in
theorem formedV_any (n : Int) (l : List Vx) (v : Value) (w : World) (hV : Verts w v l) : Ans 22 [.int .i64 n, v] w (fun u w' => u = .bool (decide ((l.length : Int) = n) && idsB 0 l) ∧ Below w.heap.size w w') := by
  obtain ⟨A, c, rfl, hc1, hc2, hA⟩ := hV
  have hV : Verts w (.slice A l.length c) l := ⟨A, c, rfl, hc1, hc2, hA⟩
  have hcm := hc2
  unfold maxLen at hcm
  refine calls_qx (args := [.int .i64 n, .slice A l.length c]) 23 Tryz.func22 rfl (by kernel_rfl) (by simp) (fun a hS => ?_)
  have hB := Below.refl w.heap.size w
  refine qx_seq (reg_seq ?_)
  refine sI hS (runs_assign rfl) fun _ hS => ?_
  refine nil_ok (qx_seq (qx_seq (reg_seq ?_)))
  refine sI hS (runs_move rfl) fun _ hS => ?_
  refine sI hS (runs_len rfl undVx) fun _ hS => ?_
  refine sI hS (runs_move rfl) fun _ hS => ?_
  refine nil_ok (?_)
  have hBo1 := hB
  refine qx_range (fun mm a w' => ∃ (i : Nat), i ≤ l.length ∧ mm = l.length - i ∧ Below w.heap.size w w' ∧ (∀ (j : Nat) (y : Vx), j < i → l[j]? = some y → y.id = (j : Int)) ∧ Sees 23 [(9, .int .i64 (i : Int)), (8, .int .i64 ((l.length : Nat) : Int)), (7, .slice A l.length c), (1, .slice A l.length c), (0, .int .i64 n)] a) l.length ⟨0, by omega, by omega, Below.refl _ _, fun j y hj => absurd hj (by omega), hS.only _ ⟨rfl, rfl, rfl, rfl, rfl, trivial⟩⟩ ?_
  clear hS
  rintro mm a wl1 ⟨i, hi1, rfl, hBl1, hF, hS⟩
  have hV := hV.kept hBl1
  have hB := Below.refl wl1.heap.size wl1
  refine reg_seq ?_
  by_cases hlt1 : i < l.length
  · skip
    refine sI hS (lssT rfl rfl (by omega)) fun _ hS => ?_
    refine nil_ok ⟨_, hS.eval rfl, fun h => by simp at h, fun _ => ?_⟩
    obtain ⟨x, hx⟩ : ∃ x, l[i]? = some x := ⟨l[i], by simp [hlt1]⟩
    obtain ⟨b, o, rfl, hbw, hr⟩ := verts_row hV (by omega)
    have hrx := verts_at hr hx
    refine qx_seq (qx_block (qx_seq (reg_seq ?_)))
    refine sI hS (runs_move rfl) fun _ hS => ?_
    refine sI hS (runs_indexAddrG (j := i) rfl rfl undVx sz28 rfl hlt1) fun _ hS => ?_
    refine sI hS (runs_loadVx rfl hrx) fun _ hS => ?_
    refine seq_op hS (by decide) (runs_allocB (cs := [.int .i64 0, .int .i64 0, .bool false, .bool false, .int .i64 0]) zo28 rfl) (fun v1 w1 a1 hp hS => ?_)
    obtain ⟨rfl, hM1, hB1⟩ := hp
    have hLhM1 : wl1.heap.size ≤ wl1.heap.size := hB.size
    have hB := hB.trans (hB1.mono hB.size)
    refine sI hS (runs_assign rfl) fun _ hS => ?_
    refine seq_none hS (runs_storeB (cs := vc x) rfl rfl hM1 rfl rfl sz28) (fun v3 w3 a1 hp hS => ?_)
    obtain ⟨hM1, hU3⟩ := hp
    have hB := But.new hB hU3 (fun i e => by rw [e]; exact hLhM1) (Nat.le_refl _)
    refine nil_ok (qx_seq (reg_seq ?_))
    refine sI hS (runs_fieldK fo28_0 rfl) fun _ hS => ?_
    refine sI hS (runs_load rfl pl3 (hM1.at rfl)) fun _ hS => ?_
    refine sI hS (runs_move rfl) fun _ hS => ?_
    by_cases hne : x.id ≠ (i : Int)
    · skip
      refine sI hS (runs_neq (r := true) rfl rfl (by simpa using hne)) fun _ hS => ?_
      refine nil_ok (wp_cond_true (hS.eval rfl) (qx_seq (reg_seq ?_)))
      refine sI hS (runs_assign rfl) fun _ hS => ?_
      have hid : idsB 0 l = false := Bool.eq_false_iff.2 (fun h => hne (by have := ids_iff.1 h i x hx; rw [Nat.zero_add] at this; exact this))
      exact nil_ok (qx_ret (ret1 (t := 4) (by kernel_rfl) hS rfl ⟨_, rfl, by rw [hid, Bool.and_false], hBo1.trans ((hBl1.trans ((hB).mono hBl1.size)).mono hBo1.size)⟩))
    refine sI hS (runs_neq (r := false) rfl rfl (by simpa using hne)) fun _ hS => ?_
    refine nil_ok (wp_cond_false (hS.eval rfl) (wp_skip (reg_seq ?_)))
    refine sI hS (runs_add (r := ((i + 1 : Nat) : Int)) rfl rfl (by simp [IntKind.wrap, IntKind.bits, IntKind.signed]; omega)) fun _ hS => ?_
    refine sI hS (runs_move rfl) fun _ hS => ?_
    exact nil_ok ⟨_, by omega, i + 1, by omega, rfl, hBl1.trans (hB.mono hBl1.size), (fun j y hj hy => by rcases Nat.lt_succ_iff_lt_or_eq.1 hj with h | h; exact hF j y h hy; subst h; rw [hx] at hy; cases hy; exact Classical.not_not.1 hne), hS.only _ ⟨rfl, rfl, rfl, rfl, rfl, trivial⟩⟩
  refine sI hS (lssF rfl rfl (by omega)) fun _ hS => ?_
  obtain rfl : i = l.length := by omega
  refine nil_ok ⟨_, hS.eval rfl, fun _ => ?_, fun h => by simp at h⟩
  have hB := hBo1.trans ((hBl1.trans (hB.mono hBl1.size)).mono hBo1.size)
  refine qx_seq (reg_seq ?_)
  refine sI hS (runs_move rfl) fun _ hS => ?_
  refine sI hS (runs_len rfl undVx) fun _ hS => ?_
  refine sI hS (runs_move rfl) fun _ hS => ?_
  refine sI hS (runs_eql rfl rfl (by first | rfl | exact beq_eq_decide _ _)) fun _ hS => ?_
  refine sI hS (runs_assign rfl) fun _ hS => ?_
  have hid : idsB 0 l = true := ids_iff.2 (fun j y hy => by rw [Nat.zero_add]; exact hF j y (List.getElem?_eq_some_iff.1 hy).1 hy)
  exact nil_ok (qx_ret (ret1 (t := 4) (by kernel_rfl) hS rfl ⟨_, rfl, by rw [hid, Bool.and_true]; try rfl, hB⟩))
end Go.Proofs.YtapcpmalgdhakaaGreat
