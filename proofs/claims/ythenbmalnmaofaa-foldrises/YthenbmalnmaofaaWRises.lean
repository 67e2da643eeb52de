/- modillionlaw08.FoldRises, walked. Conditions: none of our own. -/
import Derived.Test.YthenbmalnmaofaaFAwake
import Derived.Test.YthenbmalnmaofaaEngN
import Derived.Test.YthenbmalnmaofaaEngW
namespace Go.Proofs.Ythenbmalnmaofaa
open Go.RowKit
set_option maxRecDepth 100000

section
variable {L : List (Nat × Value)} {w : World} {ty : TypeId}
theorem runs_eqM {t' : TypeId} {X Y : Operand} {a b : E} {r : Bool} (hx : vals L X = some (.agg (encE a).toArray)) (hy : vals L Y = some (.agg (encE b).toArray)) (hr : decide (a = b) = r) : Runs Try.prog (.binOp .eql 41 X Y t') ty L w (Is (.bool r) w) := fun o act K Q ho _ hL hK => by
  have ex := hL X (by simp [Op.operands]) _ hx
  have ey := hL Y (by simp [Op.operands]) _ hy
  have h := run_eqM a b w
  rw [eqE_iff, hr] at h
  have hg : (eqGuard .eql 41 X Y (.agg (encE a).toArray) (.agg (encE b).toArray)).run Try.prog w = .ok () w := by
    have hp : Try.prog.eqGuardType Try.prog.depth 41 = false := by kernel_rfl
    simp [eqGuard, hp]
  unfold Oper.wp
  have : (execOp act.eval o).run Try.prog w = .ok (.value (.bool r)) w := by
    simp only [execOp, ho, ex, ey]
    simp only [Sem.run_bind, hg, Result.andThen_ok, h, Sem.run_pure]
  rw [this]
  exact hK _ w ⟨rfl, rfl⟩
end
/-- How often a message is there. -/
def cntM (x : E) (l : List E) : Nat := (l.filter fun y => decide (y = x)).length
theorem cnt_snoc {x e : E} {l : List E} {i : Nat} (h : l[i]? = some e) : cntM x (l.take (i + 1)) = cntM x (l.take i) + (if e = x then 1 else 0) := by
  unfold cntM
  rw [List.take_add_one, h, Option.toList_some, List.filter_append, List.length_append]
  by_cases he : e = x
  · rw [if_pos he, List.filter_cons_of_pos (by simp [he])]; rfl
  · rw [if_neg he, List.filter_cons_of_neg (by simp [he])]; rfl
theorem cnt_perm {x : E} {l m : List E} (h : l.Perm m) : cntM x l = cntM x m := (h.filter _).length_eq
theorem cnt_le (x : E) (l : List E) : cntM x l ≤ l.length := List.length_filter_le _ _
theorem pair_le {l : List E} (h : l.Pairwise leM) {i : Nat} {a b : E} (ha : l[i]? = some a) (hb : l[i + 1]? = some b) : leM a b := by
  obtain ⟨h1, rfl⟩ := List.getElem?_eq_some_iff.1 ha
  obtain ⟨h2, rfl⟩ := List.getElem?_eq_some_iff.1 hb
  exact (List.pairwise_iff_getElem.1 h) i (i + 1) h1 h2 (by omega)
set_option maxHeartbeats 1000000 in
theorem rises_any (l : List E) (v : Value) (w : World) (hE : Edges w v l) : Ans 7 [v] w (fun u w' => u = .bool true ∧ Below w.heap.size w w') := by
  obtain ⟨A, c, rfl, h1, h2, hA⟩ := hE
  have hE : Edges w (.slice A l.length c) l := ⟨A, c, rfl, h1, h2, hA⟩
  refine calls_qx (args := [.slice A l.length c]) 126 Try.func7 rfl (by kernel_rfl) (by simp) (fun a hS => ?_)
  have hB := Below.refl w.heap.size w
  have hEb := hE
  refine qx_seq (reg_seq ?_)
  refine sI hS (runs_assign rfl) fun _ hS => ?_
  refine nil_ok (qx_seq (qx_seq (reg_seq ?_)))
  refine sI hS (runs_move rfl) fun _ hS => ?_
  refine seq_op hS (by decide) (runs_call (args := [.slice A l.length c]) goes9 rfl (awakes_any _ w)) (fun v1 w1 a1 hp hS => ?_)
  obtain ⟨rfl, hB1⟩ := hp
  have hB := hB.trans (hB1.mono hB.size)
  have hE := hEb.kept hB
  refine sI hS (runs_not (b := true) rfl) fun _ hS => ?_
  refine sI hS (runs_move rfl) fun _ hS => ?_
  refine sY hS (runs_move rfl) fun _ hS => ?_
  refine sY hS (runs_len rfl und32) fun _ hS => ?_
  by_cases h40 : ((l.length : Nat) : Int) > 40
  · skip
    refine sY hS (gtrT rfl rfl (by omega)) fun _ hS => ?_
    refine sI hS (runs_pick rfl rfl) fun _ hS => ?_
    refine nil_ok (wp_cond_true (hS.eval rfl) (qx_seq (reg_seq ?_)))
    refine sI hS (runs_move rfl) fun _ hS => ?_
    refine seq_op hS (by decide) (runs_call (args := [.slice A l.length c]) goes9 rfl (awakes_any _ w1)) (fun v3 w3 a1 hp hS => ?_)
    obtain ⟨rfl, hB3⟩ := hp
    have hB := hB.trans (hB3.mono hB.size)
    have hE := hEb.kept hB
    refine sI hS (runs_assign rfl) fun _ hS => ?_
    exact nil_ok (qx_ret (ret1 (t := 2) (by kernel_rfl) hS rfl ⟨_, rfl, rfl, hB⟩))
  refine sY hS (gtrF rfl rfl (by omega)) fun _ hS => ?_
  refine sI hS (runs_pick rfl rfl) fun _ hS => ?_
  refine nil_ok (wp_cond_false (hS.eval rfl) (wp_skip (qx_seq (reg_seq ?_))))
  refine sI hS (runs_move rfl) fun _ hS => ?_
  refine seq_op hS (by decide) (runs_call (args := [.slice A l.length c]) goes12 rfl (own_any l (by omega) _ w1 hE)) (fun v5 w5 a1 hp hS => ?_)
  obtain ⟨hB5, hown1⟩ := hp
  have hO1 := edges_ownE hown1 rfl
  have hB := hB.trans (hB5.mono hB.size)
  have hE := hEb.kept hB
  refine seq_op hS (by decide) (runs_call (args := [v5]) goes11 rfl (msort_any l (by omega) _ w5 hO1)) (fun v7 w7 a1 hp hS => ?_)
  obtain ⟨hB7, hS1⟩ := hp
  have hSx := hS1.edges
  have hper := sortM_perm l
  have hsrt := sortM_sorted l
  have hidm := sortM_sortM l
  obtain ⟨S, hSl⟩ : ∃ S, sortM l = S := ⟨_, rfl⟩
  rw [hSl] at hSx hper hsrt hidm
  have hlen := hper.length_eq
  obtain ⟨As, cs, rfl, hs1, hs2, hs3⟩ := hSx
  have hSE : Edges w7 (.slice As S.length cs) S := ⟨As, cs, rfl, hs1, hs2, hs3⟩
  have hB := hB.trans (hB7.mono hB.size)
  have hE := hEb.kept hB
  refine sI hS (runs_assign rfl) fun _ hS => ?_
  refine nil_ok (qx_seq (qx_seq (reg_seq ?_)))
  refine sI hS (runs_assign rfl) fun _ hS => ?_
  refine nil_ok (?_)
  have hBo1 := hB
  refine qx_for (fun mm a w' => ∃ (i : Nat), i ≤ (S.length - 1) ∧ mm = (S.length - 1) - i ∧ Below w7.heap.size w7 w' ∧ Sees 126 [(4, .int .i64 ((i + 1 : Nat) : Int)), (3, .slice As S.length cs), (0, .slice A l.length c)] a) (S.length - 1) ⟨0, by omega, by omega, Below.refl _ _, hS.only _ ⟨rfl, rfl, rfl, trivial⟩⟩ ?_
  clear hS
  rintro mm a wl1 ⟨i, hi1, rfl, hBl1, hS⟩
  have hE := hE.kept hBl1
  have hSE := hSE.kept hBl1
  have hB := Below.refl wl1.heap.size wl1
  have hEb1 := hE
  have hSEb1 := hSE
  refine reg_seq ?_
  refine sI hS (runs_move rfl) fun _ hS => ?_
  refine sI hS (runs_move rfl) fun _ hS => ?_
  refine sI hS (runs_len rfl und32) fun _ hS => ?_
  by_cases hlt1 : i < (S.length - 1)
  · skip
    refine sI hS (lssT rfl rfl (by omega)) fun _ hS => ?_
    refine nil_ok ⟨_, hS.eval rfl, fun h => by simp at h, fun _ => ?_⟩
    obtain ⟨x, hxi⟩ : ∃ x, S[i]? = some x := ⟨_, List.getElem?_eq_getElem (by omega)⟩
    obtain ⟨y, hyi⟩ : ∃ y, S[i + 1]? = some y := ⟨_, List.getElem?_eq_getElem (by omega)⟩
    have hle := (leM_iff x y).1 (pair_le hsrt hxi hyi)
    obtain ⟨b, o, hAe, hbw, hr⟩ := edges_row hSE (by omega)
    have hrx := edges_at hr hxi
    have hry := edges_at hr hyi
    refine qx_seq (qx_block (qx_seq (reg_n (fun i => i == 9 || i == 10) (KF (wl1.heap.size) 41 (encE x)) (fun _ _ h => h.below.size) (fun w' => KF (wl1.heap.size) 41 (encE x) wl1 w') [.inl (.slice As S.length cs), .inl (.int .i64 ((i + 1 : Nat) : Int)), .inl (.int .i64 (i : Int)), .inl (.pointer (some ⟨b, o + i * 3, none⟩)), .inl (.agg (encE x).toArray), .inl (.slice As S.length cs), .inl (.int .i64 ((i + 1 : Nat) : Int)), .inl (.pointer (some ⟨b, o + (i + 1) * 3, none⟩)), .inl (.agg (encE y).toArray), .inr (fun _ => fun v w' => ∃ g, v = .pointer (some ⟨g, 0, none⟩) ∧ wl1.heap.size ≤ g ∧ ∃ cs : List Value, cs.length = 3 ∧ Has w' g 41 cs), .inr (fun _ => fun v w' => ∃ g, v = .pointer (some ⟨g, 0, none⟩) ∧ wl1.heap.size ≤ g ∧ ∃ cs : List Value, cs.length = 3 ∧ Has w' g 41 cs), .inr (fun vs _ => fun w' => ∃ g, vs 9 = .pointer (some ⟨g, 0, none⟩) ∧ wl1.heap.size ≤ g ∧ Has w' g 41 (encE x))] 12 1 ⟨trivial, trivial, trivial, trivial, trivial, trivial, trivial, trivial, trivial, fun _ _ _ => rfl, fun _ _ _ => rfl, fun vs vs' h => by simp only [h 9 (by kernel_rfl)], trivial⟩ mixed rfl (by kernel_rfl) hS (KF.refl _ _ _ _) (fun _ h => h.drew) ?_)))
    refine fun vs => ?_
    refine ns_is rfl rfl (fun w' hw => runs_move rfl) ?_
    refine ns_is rfl rfl (fun w' hw => runs_move rfl) ?_
    refine ns_is rfl rfl (fun w' hw => runs_sub (r := (i : Int)) rfl rfl (by simp [IntKind.wrap, IntKind.bits, IntKind.signed]; omega)) ?_
    refine ns_is rfl rfl (fun w' hw => runs_indexAddrG (j := i) (by rw [← hAe]; rfl) rfl und32 sz41 rfl (by omega)) ?_
    refine ns_is rfl rfl (fun w' hw => runs_loadM rfl (range_below hrx hw.below hbw)) ?_
    refine ns_is rfl rfl (fun w' hw => runs_move rfl) ?_
    refine ns_is rfl rfl (fun w' hw => runs_move rfl) ?_
    refine ns_is rfl rfl (fun w' hw => runs_indexAddrG (j := i + 1) (by rw [← hAe]; rfl) rfl und32 sz41 rfl (by omega)) ?_
    refine ns_is rfl rfl (fun w' hw => runs_loadM rfl (range_below hry hw.below hbw)) ?_
    refine ns_new rfl (fun _ _ _ h hk => by obtain ⟨g, h1, h2, cs, h3, h4⟩ := h; obtain ⟨cs', h5, h6⟩ := hk.len _ _ h4; exact ⟨g, h1, h2, cs', h5.trans h3, h6⟩) (fun w' hw hq => (runs_allocB (cs := [.int .i64 0, .int .i64 0, .int .i64 0]) zo41 rfl).mono (by rintro v w5 ⟨rfl, h2, h3⟩; exact ⟨⟨_, rfl, hw.below.size, _, rfl, h2⟩, hw.more (Nat.le_refl _) h3, KF.of h3 hw.below.size, rfl, h2.lt⟩)) (fun n9 en9 => ?_)
    refine ns_new rfl (fun _ _ _ h hk => by obtain ⟨g, h1, h2, cs, h3, h4⟩ := h; obtain ⟨cs', h5, h6⟩ := hk.len _ _ h4; exact ⟨g, h1, h2, cs', h5.trans h3, h6⟩) (fun w' hw hq => (runs_allocB (cs := [.int .i64 0, .int .i64 0, .int .i64 0]) zo41 rfl).mono (by rintro v w5 ⟨rfl, h2, h3⟩; exact ⟨⟨_, rfl, hw.below.size, _, rfl, h2⟩, hw.more (Nat.le_refl _) h3, KF.of h3 hw.below.size, rfl, h2.lt⟩)) (fun n10 en10 => ?_)
    refine ns_none rfl rfl (fun w1 w2 h hk => by obtain ⟨g, h1, h2, h3⟩ := h; exact ⟨g, h1, h2, hk.fin _ h3⟩) (fun w' hw hq => (by obtain ⟨g, rfl, hBg, cs, hcs, hg⟩ := hq (9, _) (List.mem_cons_of_mem _ List.mem_cons_self) (by kernel_rfl); exact (runs_storeB (cs := (encE x)) rfl rfl hg (hcs.trans rfl) rfl sz41).mono (by rintro v w2 ⟨h1, h2⟩; have hk := KF.store (F := (encE x)) hg hBg (hcs.trans rfl) h1 h2; exact ⟨⟨g, en9, hBg, h1⟩, hw.trans hk, hk⟩))) (fun _ _ => ?_)
    refine (fun a9 w9 hS hK9 hq hdis => ?_)
    obtain ⟨ga, hga, hgaB, hA5⟩ := hq (11, _) List.mem_cons_self
    obtain ⟨gb, hgb, hgbB, cb, hcb, hB5⟩ := hq (10, _) (List.mem_cons_of_mem _ List.mem_cons_self)
    have hgab : ga ≠ gb := fun e => hdis 9 10 (by decide) (by decide) (by decide) rfl rfl (by rw [hga, en10, hgb, e])
    rw [en9] at hga
    subst hga
    subst hgb
    clear hq hdis
    refine tail_none 12 (by kernel_rfl) rfl hS (runs_storeB (cs := (encE y)) rfl rfl hB5 (hcb.trans rfl) rfl sz41) (fun v10 w10 a10 hp hS => ⟨trivial, ?_⟩)
    obtain ⟨hB6, hU10⟩ := hp
    have hA6 := hA5.but hU10 hgab
    have hb10 := hK9.below.trans (hU10.below (B := wl1.heap.size) (fun i e => by rw [e]; exact hgbB) hK9.below.size)
    have hB := hB.trans (hb10.mono hB.size)
    have hE := hEb1.kept hB
    have hSE := hSEb1.kept hB
    have hXa := hA6
    have hXb := hB6
    refine wpAnyH_done (by kernel_rfl) ?_ _
    refine qx_seq (?_)
    rcases hle with hle | ⟨he1, hle | ⟨he2, hle⟩⟩
    · skip
      refine reg_seq ?_
      refine sI hS (runs_fieldK fo41_1 rfl) fun _ hS => ?_
      refine sI hS (runs_load rfl pl3 (hXa.at rfl)) fun _ hS => ?_
      refine sI hS (runs_fieldK fo41_1 rfl) fun _ hS => ?_
      refine sI hS (runs_load rfl pl3 (hXb.at rfl)) fun _ hS => ?_
      refine sI hS (gtrF rfl rfl (by omega)) fun _ hS => ?_
      refine sI hS (runs_move rfl) fun _ hS => ?_
      refine sY hS (runs_fieldK fo41_1 rfl) fun _ hS => ?_
      refine sY hS (runs_load rfl pl3 (hXa.at rfl)) fun _ hS => ?_
      refine sY hS (runs_fieldK fo41_1 rfl) fun _ hS => ?_
      refine sY hS (runs_load rfl pl3 (hXb.at rfl)) fun _ hS => ?_
      refine sY hS (runs_eql (r := false) rfl rfl (by rw [beq_eq_false_iff_ne]; omega)) fun _ hS => ?_
      refine sY hS (runs_move rfl) fun _ hS => ?_
      refine sN hS fun _ hS => ?_
      refine sN hS fun _ hS => ?_
      refine sN hS fun _ hS => ?_
      refine sN hS fun _ hS => ?_
      refine sN hS fun _ hS => ?_
      refine sN hS fun _ hS => ?_
      refine sU hS fun _ hS => ?_
      refine sU hS fun _ hS => ?_
      refine sU hS fun _ hS => ?_
      refine sU hS fun _ hS => ?_
      refine sU hS fun _ hS => ?_
      refine sU hS fun _ hS => ?_
      refine sU hS fun _ hS => ?_
      refine sU hS fun _ hS => ?_
      refine sU hS fun _ hS => ?_
      refine sU hS fun _ hS => ?_
      refine sU hS fun _ hS => ?_
      refine sU hS fun _ hS => ?_
      refine sN hS fun _ hS => ?_
      refine sY hS (runs_pick rfl rfl) fun _ hS => ?_
      refine sI hS (runs_pick rfl rfl) fun _ hS => ?_
      refine nil_ok (wp_cond_false (hS.eval rfl) (wp_skip (reg_seq ?_)))
      refine sI hS (runs_move rfl) fun _ hS => ?_
      refine sI hS (runs_add (r := ((i + 1 + 1 : Nat) : Int)) rfl rfl (by simp [IntKind.wrap, IntKind.bits, IntKind.signed]; omega)) fun _ hS => ?_
      refine sI hS (runs_assign rfl) fun _ hS => ?_
      exact nil_ok ⟨_, by omega, i + 1, by omega, rfl, hBl1.trans (hB.mono hBl1.size), hS.only _ ⟨rfl, rfl, rfl, trivial⟩⟩
    · skip
      refine reg_seq ?_
      refine sI hS (runs_fieldK fo41_1 rfl) fun _ hS => ?_
      refine sI hS (runs_load rfl pl3 (hXa.at rfl)) fun _ hS => ?_
      refine sI hS (runs_fieldK fo41_1 rfl) fun _ hS => ?_
      refine sI hS (runs_load rfl pl3 (hXb.at rfl)) fun _ hS => ?_
      refine sI hS (gtrF rfl rfl (by omega)) fun _ hS => ?_
      refine sI hS (runs_move rfl) fun _ hS => ?_
      refine sY hS (runs_fieldK fo41_1 rfl) fun _ hS => ?_
      refine sY hS (runs_load rfl pl3 (hXa.at rfl)) fun _ hS => ?_
      refine sY hS (runs_fieldK fo41_1 rfl) fun _ hS => ?_
      refine sY hS (runs_load rfl pl3 (hXb.at rfl)) fun _ hS => ?_
      refine sY hS (runs_eql (r := true) rfl rfl (by rw [beq_iff_eq]; omega)) fun _ hS => ?_
      refine sY hS (runs_move rfl) fun _ hS => ?_
      refine sY hS (runs_fieldK fo41_0 rfl) fun _ hS => ?_
      refine sY hS (runs_load rfl pl3 (hXa.at rfl)) fun _ hS => ?_
      refine sY hS (runs_fieldK fo41_0 rfl) fun _ hS => ?_
      refine sY hS (runs_load rfl pl3 (hXb.at rfl)) fun _ hS => ?_
      refine sY hS (gtrF rfl rfl (by omega)) fun _ hS => ?_
      refine sY hS (runs_move rfl) fun _ hS => ?_
      refine sY hS (runs_fieldK fo41_0 rfl) fun _ hS => ?_
      refine sY hS (runs_load rfl pl3 (hXa.at rfl)) fun _ hS => ?_
      refine sY hS (runs_fieldK fo41_0 rfl) fun _ hS => ?_
      refine sY hS (runs_load rfl pl3 (hXb.at rfl)) fun _ hS => ?_
      refine sY hS (runs_eql (r := false) rfl rfl (by rw [beq_eq_false_iff_ne]; omega)) fun _ hS => ?_
      refine sY hS (runs_move rfl) fun _ hS => ?_
      refine sN hS fun _ hS => ?_
      refine sN hS fun _ hS => ?_
      refine sN hS fun _ hS => ?_
      refine sN hS fun _ hS => ?_
      refine sN hS fun _ hS => ?_
      refine sY hS (runs_pick rfl rfl) fun _ hS => ?_
      refine sY hS (runs_pick rfl rfl) fun _ hS => ?_
      refine sY hS (runs_pick rfl rfl) fun _ hS => ?_
      refine sI hS (runs_pick rfl rfl) fun _ hS => ?_
      refine nil_ok (wp_cond_false (hS.eval rfl) (wp_skip (reg_seq ?_)))
      refine sI hS (runs_move rfl) fun _ hS => ?_
      refine sI hS (runs_add (r := ((i + 1 + 1 : Nat) : Int)) rfl rfl (by simp [IntKind.wrap, IntKind.bits, IntKind.signed]; omega)) fun _ hS => ?_
      refine sI hS (runs_assign rfl) fun _ hS => ?_
      exact nil_ok ⟨_, by omega, i + 1, by omega, rfl, hBl1.trans (hB.mono hBl1.size), hS.only _ ⟨rfl, rfl, rfl, trivial⟩⟩
    · skip
      refine reg_seq ?_
      refine sI hS (runs_fieldK fo41_1 rfl) fun _ hS => ?_
      refine sI hS (runs_load rfl pl3 (hXa.at rfl)) fun _ hS => ?_
      refine sI hS (runs_fieldK fo41_1 rfl) fun _ hS => ?_
      refine sI hS (runs_load rfl pl3 (hXb.at rfl)) fun _ hS => ?_
      refine sI hS (gtrF rfl rfl (by omega)) fun _ hS => ?_
      refine sI hS (runs_move rfl) fun _ hS => ?_
      refine sY hS (runs_fieldK fo41_1 rfl) fun _ hS => ?_
      refine sY hS (runs_load rfl pl3 (hXa.at rfl)) fun _ hS => ?_
      refine sY hS (runs_fieldK fo41_1 rfl) fun _ hS => ?_
      refine sY hS (runs_load rfl pl3 (hXb.at rfl)) fun _ hS => ?_
      refine sY hS (runs_eql (r := true) rfl rfl (by rw [beq_iff_eq]; omega)) fun _ hS => ?_
      refine sY hS (runs_move rfl) fun _ hS => ?_
      refine sY hS (runs_fieldK fo41_0 rfl) fun _ hS => ?_
      refine sY hS (runs_load rfl pl3 (hXa.at rfl)) fun _ hS => ?_
      refine sY hS (runs_fieldK fo41_0 rfl) fun _ hS => ?_
      refine sY hS (runs_load rfl pl3 (hXb.at rfl)) fun _ hS => ?_
      refine sY hS (gtrF rfl rfl (by omega)) fun _ hS => ?_
      refine sY hS (runs_move rfl) fun _ hS => ?_
      refine sY hS (runs_fieldK fo41_0 rfl) fun _ hS => ?_
      refine sY hS (runs_load rfl pl3 (hXa.at rfl)) fun _ hS => ?_
      refine sY hS (runs_fieldK fo41_0 rfl) fun _ hS => ?_
      refine sY hS (runs_load rfl pl3 (hXb.at rfl)) fun _ hS => ?_
      refine sY hS (runs_eql (r := true) rfl rfl (by rw [beq_iff_eq]; omega)) fun _ hS => ?_
      refine sY hS (runs_move rfl) fun _ hS => ?_
      refine sY hS (runs_fieldK fo41_2 rfl) fun _ hS => ?_
      refine sY hS (runs_load rfl pl2 (hXa.at rfl)) fun _ hS => ?_
      refine sY hS (runs_fieldK fo41_2 rfl) fun _ hS => ?_
      refine sY hS (runs_load rfl pl2 (hXb.at rfl)) fun _ hS => ?_
      refine sY hS (gtrF rfl rfl (by omega)) fun _ hS => ?_
      refine sY hS (runs_pick rfl rfl) fun _ hS => ?_
      refine sY hS (runs_pick rfl rfl) fun _ hS => ?_
      refine sY hS (runs_pick rfl rfl) fun _ hS => ?_
      refine sI hS (runs_pick rfl rfl) fun _ hS => ?_
      refine nil_ok (wp_cond_false (hS.eval rfl) (wp_skip (reg_seq ?_)))
      refine sI hS (runs_move rfl) fun _ hS => ?_
      refine sI hS (runs_add (r := ((i + 1 + 1 : Nat) : Int)) rfl rfl (by simp [IntKind.wrap, IntKind.bits, IntKind.signed]; omega)) fun _ hS => ?_
      refine sI hS (runs_assign rfl) fun _ hS => ?_
      exact nil_ok ⟨_, by omega, i + 1, by omega, rfl, hBl1.trans (hB.mono hBl1.size), hS.only _ ⟨rfl, rfl, rfl, trivial⟩⟩
  refine sI hS (lssF rfl rfl (by omega)) fun _ hS => ?_
  obtain rfl : i = (S.length - 1) := by omega
  refine nil_ok ⟨_, hS.eval rfl, fun _ => ?_, fun h => by simp at h⟩
  have hB := hBo1.trans ((hBl1.trans (hB.mono hBl1.size)).mono hBo1.size)
  refine qx_seq (qx_seq (reg_seq ?_))
  refine sI hS (runs_assign rfl) fun _ hS => ?_
  refine nil_ok (?_)
  have hBo1 := hB
  refine qx_for (fun mm a w' => ∃ (i : Nat), i ≤ l.length ∧ mm = l.length - i ∧ Below wl1.heap.size wl1 w' ∧ Sees 126 [(7, .int .i64 (i : Int)), (3, .slice As S.length cs), (0, .slice A l.length c)] a) l.length ⟨0, by omega, by omega, Below.refl _ _, hS.only _ ⟨rfl, rfl, rfl, trivial⟩⟩ ?_
  clear hS
  rintro mm a wl1 ⟨i, hi1, rfl, hBl1, hS⟩
  have hE := hE.kept hBl1
  have hSE := hSE.kept hBl1
  have hB := Below.refl wl1.heap.size wl1
  refine reg_seq ?_
  refine sI hS (runs_move rfl) fun _ hS => ?_
  refine sI hS (runs_move rfl) fun _ hS => ?_
  refine sI hS (runs_len rfl und32) fun _ hS => ?_
  by_cases hlt1 : i < l.length
  · skip
    refine sI hS (lssT rfl rfl (by omega)) fun _ hS => ?_
    refine nil_ok ⟨_, hS.eval rfl, fun h => by simp at h, fun _ => ?_⟩
    obtain ⟨x, hxi⟩ : ∃ x, l[i]? = some x := ⟨l[i], by simp [hlt1]⟩
    refine qx_seq (qx_block (qx_seq (reg_seq ?_)))
    refine sI hS (runs_assign rfl) fun _ hS => ?_
    refine sI hS (runs_assign rfl) fun _ hS => ?_
    refine nil_ok (qx_seq (qx_seq (reg_seq ?_)))
    refine sI hS (runs_assign rfl) fun _ hS => ?_
    refine nil_ok (?_)
    have hBo2 := hB
    refine qx_for (fun mm a w' => ∃ (j : Nat), j ≤ l.length ∧ mm = l.length - j ∧ Below wl1.heap.size wl1 w' ∧ Sees 126 [(10, .int .i64 (j : Int)), (9, .int .i64 ((cntM x (S.take j) : Nat) : Int)), (8, .int .i64 ((cntM x (l.take j) : Nat) : Int)), (7, .int .i64 (i : Int)), (3, .slice As S.length cs), (0, .slice A l.length c)] a) l.length ⟨0, by omega, by omega, Below.refl _ _, hS.only _ ⟨rfl, rfl, rfl, rfl, rfl, rfl, trivial⟩⟩ ?_
    clear hS
    rintro mm a wl2 ⟨j, hi2, rfl, hBl2, hS⟩
    have hE := hE.kept hBl2
    have hSE := hSE.kept hBl2
    have hB := Below.refl wl2.heap.size wl2
    have hSEb2 := hSE
    refine reg_seq ?_
    refine sI hS (runs_move rfl) fun _ hS => ?_
    refine sI hS (runs_move rfl) fun _ hS => ?_
    refine sI hS (runs_len rfl und32) fun _ hS => ?_
    by_cases hlt2 : j < l.length
    · skip
      refine sI hS (lssT rfl rfl (by omega)) fun _ hS => ?_
      refine nil_ok ⟨_, hS.eval rfl, fun h => by simp at h, fun _ => ?_⟩
      obtain ⟨e, hej⟩ : ∃ e, l[j]? = some e := ⟨l[j], by simp [hlt2]⟩
      obtain ⟨f, hfj⟩ : ∃ f, S[j]? = some f := ⟨_, List.getElem?_eq_getElem (by omega)⟩
      obtain ⟨b, o, hAe, hbw, hr⟩ := edges_row hE (by omega)
      have hre := edges_at hr hej
      have hrx := edges_at hr hxi
      obtain ⟨b2, o2, hAe2, hbw2, hr2⟩ := edges_row hSE (by omega)
      have hrf := edges_at hr2 hfj
      have hce := cnt_snoc (x := x) hej
      have hcf := cnt_snoc (x := x) hfj
      have hcl := cnt_le x (l.take j)
      have hcs := cnt_le x (S.take j)
      rw [List.length_take] at hcl hcs
      refine qx_seq (qx_block (qx_seq (qx_seq (?_))))
      by_cases f1 : e = x
      · skip
        rw [if_pos f1] at hce
        refine reg_guard (fun w' => Below wl2.heap.size wl2 w') [.inl (.slice A l.length c), .inl (.int .i64 (j : Int)), .inl (.pointer (some ⟨b, o + j * 3, none⟩)), .inl (.agg (encE e).toArray), .inl (.slice A l.length c), .inl (.int .i64 (i : Int)), .inl (.pointer (some ⟨b, o + i * 3, none⟩)), .inl (.agg (encE x).toArray), .inl (.bool true)] 9 0 mixed rfl (by kernel_rfl) hS (Below.refl _ _) (fun _ h => h.drew) ?_
        refine hs_is rfl (fun w' hw => runs_move rfl) ?_
        refine hs_is rfl (fun w' hw => runs_move rfl) ?_
        refine hs_is rfl (fun w' hw => runs_indexAddrG (j := j) (by rw [← hAe]; rfl) rfl und32 sz41 rfl hlt2) ?_
        refine hs_is rfl (fun w' hw => runs_loadM rfl (range_below hre hw hbw)) ?_
        refine hs_is rfl (fun w' hw => runs_move rfl) ?_
        refine hs_is rfl (fun w' hw => runs_move rfl) ?_
        refine hs_is rfl (fun w' hw => runs_indexAddrG (j := i) (by rw [← hAe]; rfl) rfl und32 sz41 rfl hlt1) ?_
        refine hs_is rfl (fun w' hw => runs_loadM rfl (range_below hrx hw hbw)) ?_
        refine hs_is rfl (fun w' hw => runs_eqM (r := true) rfl rfl (by simp [f1])) ?_
        refine (fun a12 w12 hS hB12 hq => ?_)
        clear hq
        have hB := hB.trans (hB12.mono hB.size)
        have hSE := hSEb2.kept hB
        refine wpAnyH_done (by kernel_rfl) ?_ _
        refine wp_cond_true (hS.eval rfl) (reg_seq ?_)
        refine sI hS (runs_move rfl) fun _ hS => ?_
        refine sI hS (runs_add (r := ((cntM x (l.take j) + 1 : Nat) : Int)) rfl rfl (by simp [IntKind.wrap, IntKind.bits, IntKind.signed]; omega)) fun _ hS => ?_
        refine sI hS (runs_assign rfl) fun _ hS => ?_
        refine nil_ok (qx_seq (?_))
        by_cases f2 : f = x
        · skip
          rw [if_pos f2] at hcf
          refine reg_guard (fun w' => Below w12.heap.size w12 w') [.inl (.int .i64 (j : Int)), .inl (.slice As S.length cs), .inl (.int .i64 ((S.length : Nat) : Int)), .inl (.bool true), .inl (.bool true), .inl (.slice As S.length cs), .inl (.int .i64 (j : Int)), .inl (.pointer (some ⟨b2, o2 + j * 3, none⟩)), .inl (.agg (encE f).toArray), .inl (.slice A l.length c), .inl (.int .i64 (i : Int)), .inl (.pointer (some ⟨b, o + i * 3, none⟩)), .inl (.agg (encE x).toArray), .inl (.bool true), .inl (.bool true)] 15 0 mixed rfl (by kernel_rfl) hS (Below.refl _ _) (fun _ h => h.drew) ?_
          refine hs_is rfl (fun w' hw => runs_move rfl) ?_
          refine hs_is rfl (fun w' hw => runs_move rfl) ?_
          refine hs_is rfl (fun w' hw => runs_len rfl und32) ?_
          refine hs_is rfl (fun w' hw => lssT rfl rfl (by omega)) ?_
          refine hs_is rfl (fun w' hw => runs_move rfl) ?_
          refine hs_yis rfl rfl (fun w' hw => runs_move rfl) ?_
          refine hs_yis rfl rfl (fun w' hw => runs_move rfl) ?_
          refine hs_yis rfl rfl (fun w' hw => runs_indexAddrG (j := j) (by rw [← hAe2]; rfl) rfl und32 sz41 rfl (by omega)) ?_
          refine hs_yis rfl rfl (fun w' hw => runs_loadM rfl (range_below (range_below hrf hB hbw2) hw (Nat.lt_of_lt_of_le hbw2 hB.size))) ?_
          refine hs_yis rfl rfl (fun w' hw => runs_move rfl) ?_
          refine hs_yis rfl rfl (fun w' hw => runs_move rfl) ?_
          refine hs_yis rfl rfl (fun w' hw => runs_indexAddrG (j := i) (by rw [← hAe]; rfl) rfl und32 sz41 rfl hlt1) ?_
          refine hs_yis rfl rfl (fun w' hw => runs_loadM rfl (range_below (range_below hrx hB hbw) hw (Nat.lt_of_lt_of_le hbw hB.size))) ?_
          refine hs_yis rfl rfl (fun w' hw => runs_eqM (r := true) rfl rfl (by simp [f2])) ?_
          refine hs_is rfl (fun w' hw => runs_pick rfl rfl) ?_
          refine (fun a14 w14 hS hB14 hq => ?_)
          clear hq
          have hB := hB.trans (hB14.mono hB.size)
          have hSE := hSEb2.kept hB
          refine wpAnyH_done (by kernel_rfl) ?_ _
          refine wp_cond_true (hS.eval rfl) (reg_seq ?_)
          refine sI hS (runs_move rfl) fun _ hS => ?_
          refine sI hS (runs_add (r := ((cntM x (S.take j) + 1 : Nat) : Int)) rfl rfl (by simp [IntKind.wrap, IntKind.bits, IntKind.signed]; omega)) fun _ hS => ?_
          refine sI hS (runs_assign rfl) fun _ hS => ?_
          refine nil_ok (reg_seq ?_)
          refine sI hS (runs_move rfl) fun _ hS => ?_
          refine sI hS (runs_add (r := ((j + 1 : Nat) : Int)) rfl rfl (by simp [IntKind.wrap, IntKind.bits, IntKind.signed]; omega)) fun _ hS => ?_
          refine sI hS (runs_assign rfl) fun _ hS => ?_
          rw [show ((cntM x (l.take j) + 1 : Nat) : Int) = ((cntM x (l.take (j + 1)) : Nat) : Int) by rw [hce]] at hS
          rw [show ((cntM x (S.take j) + 1 : Nat) : Int) = ((cntM x (S.take (j + 1)) : Nat) : Int) by rw [hcf]] at hS
          exact nil_ok ⟨_, by omega, j + 1, by omega, rfl, hBl2.trans (hB.mono hBl2.size), hS.only _ ⟨rfl, rfl, rfl, rfl, rfl, rfl, trivial⟩⟩
        · skip
          rw [if_neg f2] at hcf
          refine reg_guard (fun w' => Below w12.heap.size w12 w') [.inl (.int .i64 (j : Int)), .inl (.slice As S.length cs), .inl (.int .i64 ((S.length : Nat) : Int)), .inl (.bool true), .inl (.bool true), .inl (.slice As S.length cs), .inl (.int .i64 (j : Int)), .inl (.pointer (some ⟨b2, o2 + j * 3, none⟩)), .inl (.agg (encE f).toArray), .inl (.slice A l.length c), .inl (.int .i64 (i : Int)), .inl (.pointer (some ⟨b, o + i * 3, none⟩)), .inl (.agg (encE x).toArray), .inl (.bool false), .inl (.bool false)] 15 0 mixed rfl (by kernel_rfl) hS (Below.refl _ _) (fun _ h => h.drew) ?_
          refine hs_is rfl (fun w' hw => runs_move rfl) ?_
          refine hs_is rfl (fun w' hw => runs_move rfl) ?_
          refine hs_is rfl (fun w' hw => runs_len rfl und32) ?_
          refine hs_is rfl (fun w' hw => lssT rfl rfl (by omega)) ?_
          refine hs_is rfl (fun w' hw => runs_move rfl) ?_
          refine hs_yis rfl rfl (fun w' hw => runs_move rfl) ?_
          refine hs_yis rfl rfl (fun w' hw => runs_move rfl) ?_
          refine hs_yis rfl rfl (fun w' hw => runs_indexAddrG (j := j) (by rw [← hAe2]; rfl) rfl und32 sz41 rfl (by omega)) ?_
          refine hs_yis rfl rfl (fun w' hw => runs_loadM rfl (range_below (range_below hrf hB hbw2) hw (Nat.lt_of_lt_of_le hbw2 hB.size))) ?_
          refine hs_yis rfl rfl (fun w' hw => runs_move rfl) ?_
          refine hs_yis rfl rfl (fun w' hw => runs_move rfl) ?_
          refine hs_yis rfl rfl (fun w' hw => runs_indexAddrG (j := i) (by rw [← hAe]; rfl) rfl und32 sz41 rfl hlt1) ?_
          refine hs_yis rfl rfl (fun w' hw => runs_loadM rfl (range_below (range_below hrx hB hbw) hw (Nat.lt_of_lt_of_le hbw hB.size))) ?_
          refine hs_yis rfl rfl (fun w' hw => runs_eqM (r := false) rfl rfl (by simp [f2])) ?_
          refine hs_is rfl (fun w' hw => runs_pick rfl rfl) ?_
          refine (fun a16 w16 hS hB16 hq => ?_)
          clear hq
          have hB := hB.trans (hB16.mono hB.size)
          have hSE := hSEb2.kept hB
          refine wpAnyH_done (by kernel_rfl) ?_ _
          refine wp_cond_false (hS.eval rfl) (wp_skip (reg_seq ?_))
          refine sI hS (runs_move rfl) fun _ hS => ?_
          refine sI hS (runs_add (r := ((j + 1 : Nat) : Int)) rfl rfl (by simp [IntKind.wrap, IntKind.bits, IntKind.signed]; omega)) fun _ hS => ?_
          refine sI hS (runs_assign rfl) fun _ hS => ?_
          rw [show ((cntM x (l.take j) + 1 : Nat) : Int) = ((cntM x (l.take (j + 1)) : Nat) : Int) by rw [hce]] at hS
          rw [show ((cntM x (S.take j) : Nat) : Int) = ((cntM x (S.take (j + 1)) : Nat) : Int) by rw [hcf, Nat.add_zero]] at hS
          exact nil_ok ⟨_, by omega, j + 1, by omega, rfl, hBl2.trans (hB.mono hBl2.size), hS.only _ ⟨rfl, rfl, rfl, rfl, rfl, rfl, trivial⟩⟩
      · skip
        rw [if_neg f1] at hce
        refine reg_guard (fun w' => Below wl2.heap.size wl2 w') [.inl (.slice A l.length c), .inl (.int .i64 (j : Int)), .inl (.pointer (some ⟨b, o + j * 3, none⟩)), .inl (.agg (encE e).toArray), .inl (.slice A l.length c), .inl (.int .i64 (i : Int)), .inl (.pointer (some ⟨b, o + i * 3, none⟩)), .inl (.agg (encE x).toArray), .inl (.bool false)] 9 0 mixed rfl (by kernel_rfl) hS (Below.refl _ _) (fun _ h => h.drew) ?_
        refine hs_is rfl (fun w' hw => runs_move rfl) ?_
        refine hs_is rfl (fun w' hw => runs_move rfl) ?_
        refine hs_is rfl (fun w' hw => runs_indexAddrG (j := j) (by rw [← hAe]; rfl) rfl und32 sz41 rfl hlt2) ?_
        refine hs_is rfl (fun w' hw => runs_loadM rfl (range_below hre hw hbw)) ?_
        refine hs_is rfl (fun w' hw => runs_move rfl) ?_
        refine hs_is rfl (fun w' hw => runs_move rfl) ?_
        refine hs_is rfl (fun w' hw => runs_indexAddrG (j := i) (by rw [← hAe]; rfl) rfl und32 sz41 rfl hlt1) ?_
        refine hs_is rfl (fun w' hw => runs_loadM rfl (range_below hrx hw hbw)) ?_
        refine hs_is rfl (fun w' hw => runs_eqM (r := false) rfl rfl (by simp [f1])) ?_
        refine (fun a18 w18 hS hB18 hq => ?_)
        clear hq
        have hB := hB.trans (hB18.mono hB.size)
        have hSE := hSEb2.kept hB
        refine wpAnyH_done (by kernel_rfl) ?_ _
        refine wp_cond_false (hS.eval rfl) (wp_skip (qx_seq (?_)))
        by_cases f2 : f = x
        · skip
          rw [if_pos f2] at hcf
          refine reg_guard (fun w' => Below w18.heap.size w18 w') [.inl (.int .i64 (j : Int)), .inl (.slice As S.length cs), .inl (.int .i64 ((S.length : Nat) : Int)), .inl (.bool true), .inl (.bool true), .inl (.slice As S.length cs), .inl (.int .i64 (j : Int)), .inl (.pointer (some ⟨b2, o2 + j * 3, none⟩)), .inl (.agg (encE f).toArray), .inl (.slice A l.length c), .inl (.int .i64 (i : Int)), .inl (.pointer (some ⟨b, o + i * 3, none⟩)), .inl (.agg (encE x).toArray), .inl (.bool true), .inl (.bool true)] 15 0 mixed rfl (by kernel_rfl) hS (Below.refl _ _) (fun _ h => h.drew) ?_
          refine hs_is rfl (fun w' hw => runs_move rfl) ?_
          refine hs_is rfl (fun w' hw => runs_move rfl) ?_
          refine hs_is rfl (fun w' hw => runs_len rfl und32) ?_
          refine hs_is rfl (fun w' hw => lssT rfl rfl (by omega)) ?_
          refine hs_is rfl (fun w' hw => runs_move rfl) ?_
          refine hs_yis rfl rfl (fun w' hw => runs_move rfl) ?_
          refine hs_yis rfl rfl (fun w' hw => runs_move rfl) ?_
          refine hs_yis rfl rfl (fun w' hw => runs_indexAddrG (j := j) (by rw [← hAe2]; rfl) rfl und32 sz41 rfl (by omega)) ?_
          refine hs_yis rfl rfl (fun w' hw => runs_loadM rfl (range_below (range_below hrf hB hbw2) hw (Nat.lt_of_lt_of_le hbw2 hB.size))) ?_
          refine hs_yis rfl rfl (fun w' hw => runs_move rfl) ?_
          refine hs_yis rfl rfl (fun w' hw => runs_move rfl) ?_
          refine hs_yis rfl rfl (fun w' hw => runs_indexAddrG (j := i) (by rw [← hAe]; rfl) rfl und32 sz41 rfl hlt1) ?_
          refine hs_yis rfl rfl (fun w' hw => runs_loadM rfl (range_below (range_below hrx hB hbw) hw (Nat.lt_of_lt_of_le hbw hB.size))) ?_
          refine hs_yis rfl rfl (fun w' hw => runs_eqM (r := true) rfl rfl (by simp [f2])) ?_
          refine hs_is rfl (fun w' hw => runs_pick rfl rfl) ?_
          refine (fun a20 w20 hS hB20 hq => ?_)
          clear hq
          have hB := hB.trans (hB20.mono hB.size)
          have hSE := hSEb2.kept hB
          refine wpAnyH_done (by kernel_rfl) ?_ _
          refine wp_cond_true (hS.eval rfl) (reg_seq ?_)
          refine sI hS (runs_move rfl) fun _ hS => ?_
          refine sI hS (runs_add (r := ((cntM x (S.take j) + 1 : Nat) : Int)) rfl rfl (by simp [IntKind.wrap, IntKind.bits, IntKind.signed]; omega)) fun _ hS => ?_
          refine sI hS (runs_assign rfl) fun _ hS => ?_
          refine nil_ok (reg_seq ?_)
          refine sI hS (runs_move rfl) fun _ hS => ?_
          refine sI hS (runs_add (r := ((j + 1 : Nat) : Int)) rfl rfl (by simp [IntKind.wrap, IntKind.bits, IntKind.signed]; omega)) fun _ hS => ?_
          refine sI hS (runs_assign rfl) fun _ hS => ?_
          rw [show ((cntM x (l.take j) : Nat) : Int) = ((cntM x (l.take (j + 1)) : Nat) : Int) by rw [hce, Nat.add_zero]] at hS
          rw [show ((cntM x (S.take j) + 1 : Nat) : Int) = ((cntM x (S.take (j + 1)) : Nat) : Int) by rw [hcf]] at hS
          exact nil_ok ⟨_, by omega, j + 1, by omega, rfl, hBl2.trans (hB.mono hBl2.size), hS.only _ ⟨rfl, rfl, rfl, rfl, rfl, rfl, trivial⟩⟩
        · skip
          rw [if_neg f2] at hcf
          refine reg_guard (fun w' => Below w18.heap.size w18 w') [.inl (.int .i64 (j : Int)), .inl (.slice As S.length cs), .inl (.int .i64 ((S.length : Nat) : Int)), .inl (.bool true), .inl (.bool true), .inl (.slice As S.length cs), .inl (.int .i64 (j : Int)), .inl (.pointer (some ⟨b2, o2 + j * 3, none⟩)), .inl (.agg (encE f).toArray), .inl (.slice A l.length c), .inl (.int .i64 (i : Int)), .inl (.pointer (some ⟨b, o + i * 3, none⟩)), .inl (.agg (encE x).toArray), .inl (.bool false), .inl (.bool false)] 15 0 mixed rfl (by kernel_rfl) hS (Below.refl _ _) (fun _ h => h.drew) ?_
          refine hs_is rfl (fun w' hw => runs_move rfl) ?_
          refine hs_is rfl (fun w' hw => runs_move rfl) ?_
          refine hs_is rfl (fun w' hw => runs_len rfl und32) ?_
          refine hs_is rfl (fun w' hw => lssT rfl rfl (by omega)) ?_
          refine hs_is rfl (fun w' hw => runs_move rfl) ?_
          refine hs_yis rfl rfl (fun w' hw => runs_move rfl) ?_
          refine hs_yis rfl rfl (fun w' hw => runs_move rfl) ?_
          refine hs_yis rfl rfl (fun w' hw => runs_indexAddrG (j := j) (by rw [← hAe2]; rfl) rfl und32 sz41 rfl (by omega)) ?_
          refine hs_yis rfl rfl (fun w' hw => runs_loadM rfl (range_below (range_below hrf hB hbw2) hw (Nat.lt_of_lt_of_le hbw2 hB.size))) ?_
          refine hs_yis rfl rfl (fun w' hw => runs_move rfl) ?_
          refine hs_yis rfl rfl (fun w' hw => runs_move rfl) ?_
          refine hs_yis rfl rfl (fun w' hw => runs_indexAddrG (j := i) (by rw [← hAe]; rfl) rfl und32 sz41 rfl hlt1) ?_
          refine hs_yis rfl rfl (fun w' hw => runs_loadM rfl (range_below (range_below hrx hB hbw) hw (Nat.lt_of_lt_of_le hbw hB.size))) ?_
          refine hs_yis rfl rfl (fun w' hw => runs_eqM (r := false) rfl rfl (by simp [f2])) ?_
          refine hs_is rfl (fun w' hw => runs_pick rfl rfl) ?_
          refine (fun a22 w22 hS hB22 hq => ?_)
          clear hq
          have hB := hB.trans (hB22.mono hB.size)
          have hSE := hSEb2.kept hB
          refine wpAnyH_done (by kernel_rfl) ?_ _
          refine wp_cond_false (hS.eval rfl) (wp_skip (reg_seq ?_))
          refine sI hS (runs_move rfl) fun _ hS => ?_
          refine sI hS (runs_add (r := ((j + 1 : Nat) : Int)) rfl rfl (by simp [IntKind.wrap, IntKind.bits, IntKind.signed]; omega)) fun _ hS => ?_
          refine sI hS (runs_assign rfl) fun _ hS => ?_
          rw [show ((cntM x (l.take j) : Nat) : Int) = ((cntM x (l.take (j + 1)) : Nat) : Int) by rw [hce, Nat.add_zero]] at hS
          rw [show ((cntM x (S.take j) : Nat) : Int) = ((cntM x (S.take (j + 1)) : Nat) : Int) by rw [hcf, Nat.add_zero]] at hS
          exact nil_ok ⟨_, by omega, j + 1, by omega, rfl, hBl2.trans (hB.mono hBl2.size), hS.only _ ⟨rfl, rfl, rfl, rfl, rfl, rfl, trivial⟩⟩
    refine sI hS (lssF rfl rfl (by omega)) fun _ hS => ?_
    obtain rfl : j = l.length := by omega
    refine nil_ok ⟨_, hS.eval rfl, fun _ => ?_, fun h => by simp at h⟩
    have hB := hBo2.trans ((hBl2.trans (hB.mono hBl2.size)).mono hBo2.size)
    rw [List.take_length, List.take_of_length_le (by omega)] at hS
    refine qx_seq (reg_seq ?_)
    refine sI hS (runs_move rfl) fun _ hS => ?_
    refine sI hS (runs_move rfl) fun _ hS => ?_
    refine sI hS (runs_neq (r := false) rfl rfl (by rw [cnt_perm hper]; simp)) fun _ hS => ?_
    refine nil_ok (wp_cond_false (hS.eval rfl) (wp_skip (reg_seq ?_)))
    refine sI hS (runs_move rfl) fun _ hS => ?_
    refine sI hS (runs_add (r := ((i + 1 : Nat) : Int)) rfl rfl (by simp [IntKind.wrap, IntKind.bits, IntKind.signed]; omega)) fun _ hS => ?_
    refine sI hS (runs_assign rfl) fun _ hS => ?_
    exact nil_ok ⟨_, by omega, i + 1, by omega, rfl, hBl1.trans (hB.mono hBl1.size), hS.only _ ⟨rfl, rfl, rfl, trivial⟩⟩
  refine sI hS (lssF rfl rfl (by omega)) fun _ hS => ?_
  obtain rfl : i = l.length := by omega
  refine nil_ok ⟨_, hS.eval rfl, fun _ => ?_, fun h => by simp at h⟩
  have hB := hBo1.trans ((hBl1.trans (hB.mono hBl1.size)).mono hBo1.size)
  refine qx_seq (reg_seq ?_)
  refine sI hS (runs_move rfl) fun _ hS => ?_
  refine sI hS (runs_len rfl und32) fun _ hS => ?_
  refine sI hS (runs_move rfl) fun _ hS => ?_
  refine sI hS (runs_len rfl und32) fun _ hS => ?_
  refine sI hS (runs_eql (r := true) rfl rfl (by rw [beq_iff_eq]; omega)) fun _ hS => ?_
  refine sI hS (runs_move rfl) fun _ hS => ?_
  refine sY hS (runs_move rfl) fun _ hS => ?_
  refine seq_yes hS (by decide) rfl (by decide) rfl (runs_call (args := [.slice As S.length cs]) goes11 rfl (msort_any S (by omega) _ wl1 hSE)) (fun v24 w24 a1 hp hS => ?_)
  obtain ⟨hB24, hP9⟩ := hp
  have hQ9 := hP9.edges
  rw [hidm] at hQ9
  have hB := hB.trans (hB24.mono hB.size)
  have hSE := hSE.kept hB24
  refine sY hS (runs_move rfl) fun _ hS => ?_
  refine seq_yes hS (by decide) rfl (by decide) rfl (runs_call (args := [v24, .slice As S.length cs]) goes10 rfl (msame_any (S) (S) (v24) (.slice As S.length cs) w24 hQ9 hSE)) (fun v26 w26 a1 hp hS => ?_)
  obtain ⟨rfl, hB26⟩ := hp
  rw [show decide (S = S) = true by simp] at hS
  have hB := hB.trans (hB26.mono hB.size)
  refine sI hS (runs_pick rfl rfl) fun _ hS => ?_
  refine sI hS (runs_assign rfl) fun _ hS => ?_
  exact nil_ok (qx_ret (ret1 (t := 2) (by kernel_rfl) hS rfl ⟨_, rfl, rfl, hB⟩))
end Go.Proofs.Ythenbmalnmaofaa
