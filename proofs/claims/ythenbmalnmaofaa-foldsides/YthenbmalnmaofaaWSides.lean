/- modillionlaw08.FoldSides, walked. Conditions: none of our own. -/
import Derived.Test.YthenbmalnmaofaaFAwake
namespace Go.Proofs.Ythenbmalnmaofaa
open Go.RowKit
set_option maxRecDepth 100000

section
variable {L : List (Nat × Value)} {w : World} {ty : TypeId}
theorem runs_eqM {t' : TypeId} {X Y : Operand} {a b : E} {r : Bool} (hx : vals L X = some (.agg (encE a).toArray)) (hy : vals L Y = some (.agg (encE b).toArray)) (hr : decide (a = b) = r) : Runs Try.prog (.binOp .eql 41 X Y t') ty L w (Is (.bool r) w) := fun o act K Q ho _ hL hK => by
  have ex := hL X (by simp [Op.operands]) _ hx
  have ey := hL Y (by simp [Op.operands]) _ hy
  have h := run_eqM a b w
  rw [eqE_iff, hr] at h
  have hg : (eqGuard .eql 41 X Y (.agg (encE a).toArray) (.agg (encE b).toArray)).run Try.prog w = .ok () w := by
    have hp : Try.prog.eqGuardType Try.prog.depth 41 = false := by kernel_rfl
    simp [eqGuard, hp]
  unfold Oper.wp
  have : (execOp act.eval o).run Try.prog w = .ok (.value (.bool r)) w := by
    simp only [execOp, ho, ex, ey]
    simp only [Sem.run_bind, hg, Result.andThen_ok, h, Sem.run_pure]
  rw [this]
  exact hK _ w ⟨rfl, rfl⟩
end
theorem toL_mem {l : List E} {m : E} (h : m ∈ l) : m ∈ toL l m.2.1 := by
  unfold toL; rw [sortM_mem, List.mem_filter]; exact ⟨h, by simp⟩
theorem fromL_mem {l : List E} {m : E} (h : m ∈ l) : m ∈ fromL l m.1 := by
  unfold fromL; rw [sortM_mem, List.mem_filter]; exact ⟨h, by simp⟩
theorem any_mem {l : List E} {m : E} (h : m ∈ l) : l.any (fun y => decide (y = m)) = true := List.any_eq_true.2 ⟨m, h, by simp⟩
set_option maxHeartbeats 1000000 in
theorem sides_any (l : List E) (v : Value) (w : World) (hE : Edges w v l) : Ans 8 [v] w (fun u w' => u = .bool true ∧ Below w.heap.size w w') := by
  obtain ⟨A, c, rfl, h1, h2, hA⟩ := hE
  have hE : Edges w (.slice A l.length c) l := ⟨A, c, rfl, h1, h2, hA⟩
  refine calls_qx (args := [.slice A l.length c]) 106 Try.func8 rfl (by kernel_rfl) (by simp) (fun a hS => ?_)
  have hB := Below.refl w.heap.size w
  have hEb := hE
  refine qx_seq (reg_seq ?_)
  refine sI hS (runs_assign rfl) fun _ hS => ?_
  refine nil_ok (qx_seq (qx_seq (reg_seq ?_)))
  refine sI hS (runs_move rfl) fun _ hS => ?_
  refine seq_op hS (by decide) (runs_call (args := [.slice A l.length c]) goes9 rfl (awakes_any _ w)) (fun v1 w1 a1 hp hS => ?_)
  obtain ⟨rfl, hB1⟩ := hp
  have hB := hB.trans (hB1.mono hB.size)
  have hE := hEb.kept hB
  refine sI hS (runs_not (b := true) rfl) fun _ hS => ?_
  refine sI hS (runs_move rfl) fun _ hS => ?_
  refine sY hS (runs_move rfl) fun _ hS => ?_
  refine sY hS (runs_len rfl und32) fun _ hS => ?_
  by_cases h40 : ((l.length : Nat) : Int) > 40
  · skip
    refine sY hS (gtrT rfl rfl (by omega)) fun _ hS => ?_
    refine sI hS (runs_pick rfl rfl) fun _ hS => ?_
    refine nil_ok (wp_cond_true (hS.eval rfl) (qx_seq (reg_seq ?_)))
    refine sI hS (runs_move rfl) fun _ hS => ?_
    refine seq_op hS (by decide) (runs_call (args := [.slice A l.length c]) goes9 rfl (awakes_any _ w1)) (fun v3 w3 a1 hp hS => ?_)
    obtain ⟨rfl, hB3⟩ := hp
    have hB := hB.trans (hB3.mono hB.size)
    have hE := hEb.kept hB
    refine sI hS (runs_assign rfl) fun _ hS => ?_
    exact nil_ok (qx_ret (ret1 (t := 2) (by kernel_rfl) hS rfl ⟨_, rfl, rfl, hB⟩))
  refine sY hS (gtrF rfl rfl (by omega)) fun _ hS => ?_
  refine sI hS (runs_pick rfl rfl) fun _ hS => ?_
  refine nil_ok (wp_cond_false (hS.eval rfl) (wp_skip (qx_seq (qx_seq (reg_seq ?_)))))
  refine sI hS (runs_assign rfl) fun _ hS => ?_
  refine nil_ok (?_)
  have hBo1 := hB
  refine qx_for (fun mm a w' => ∃ (i : Nat), i ≤ l.length ∧ mm = l.length - i ∧ Below w1.heap.size w1 w' ∧ Sees 106 [(3, .int .i64 (i : Int)), (0, .slice A l.length c)] a) l.length ⟨0, by omega, by omega, Below.refl _ _, hS.only _ ⟨rfl, rfl, trivial⟩⟩ ?_
  clear hS
  rintro mm a wl1 ⟨i, hi1, rfl, hBl1, hS⟩
  have hE := hE.kept hBl1
  have hB := Below.refl wl1.heap.size wl1
  have hEb1 := hE
  refine reg_seq ?_
  refine sI hS (runs_move rfl) fun _ hS => ?_
  refine sI hS (runs_move rfl) fun _ hS => ?_
  refine sI hS (runs_len rfl und32) fun _ hS => ?_
  by_cases hlt1 : i < l.length
  · skip
    refine sI hS (lssT rfl rfl (by omega)) fun _ hS => ?_
    refine nil_ok ⟨_, hS.eval rfl, fun h => by simp at h, fun _ => ?_⟩
    obtain ⟨m, hmi⟩ : ∃ m, l[i]? = some m := ⟨l[i], by simp [hlt1]⟩
    have hmm := List.mem_of_getElem? hmi
    refine qx_seq (qx_block (qx_seq (?_)))
    obtain ⟨b, o, hAe, hbw, hr⟩ := edges_row hE (by omega)
    have hrm := edges_at hr hmi
    have hlt6 := toL_length l m.2.1
    have hlf6 := fromL_length l m.1
    have hat := any_mem (toL_mem hmm)
    have haf := any_mem (fromL_mem hmm)
    have hst : ∀ e ∈ toL l m.2.1, e.2.1 = m.2.1 := fun e he => (toL_sub he).2
    have hsf : ∀ e ∈ fromL l m.1, e.1 = m.1 := fun e he => (fromL_sub he).2
    obtain ⟨T, hT⟩ : ∃ T, toL l m.2.1 = T := ⟨_, rfl⟩
    obtain ⟨R, hR⟩ : ∃ R, fromL l m.1 = R := ⟨_, rfl⟩
    rw [hT] at hlt6 hat hst
    rw [hR] at hlf6 haf hsf
    refine reg_guard (fun w' => Below wl1.heap.size wl1 w') [.inl (.slice A l.length c), .inr (fun v w' => ∃ B, w'.ownsRow B 41 3 v l.length (cellsE l)), .inl (.slice A l.length c), .inl (.int .i64 (i : Int)), .inl (.pointer (some ⟨b, o + i * 3, none⟩)), .inl (.pointer (some ⟨b, o + i * 3 + 1, none⟩)), .inl (.int .i64 m.2.1), .inr (fun v w' => Edges w' v T), .inl (.slice A l.length c), .inr (fun v w' => ∃ B, w'.ownsRow B 41 3 v l.length (cellsE l)), .inl (.slice A l.length c), .inl (.int .i64 (i : Int)), .inl (.pointer (some ⟨b, o + i * 3, none⟩)), .inl (.pointer (some ⟨b, o + i * 3 + 0, none⟩)), .inl (.int .i64 m.1), .inr (fun v w' => Edges w' v R), .inr (fun v w' => Edges w' v T), .inr (fun v w' => Edges w' v R)] 18 0 mixed rfl (by kernel_rfl) hS (Below.refl _ _) (fun _ h => h.drew) ?_
    refine hs_is rfl (fun w' hw => runs_move rfl) ?_
    refine hs_pr rfl (fun _ _ _ h hb => by obtain ⟨B, h1⟩ := h; exact ⟨B, owns_kept h1 hb⟩) (fun w' hw hq => (runs_call (args := [.slice A l.length c]) goes12 rfl (own_any l (by omega) _ w' (hE.kept hw))).mono (by rintro u w3 ⟨h1, h2⟩; exact ⟨⟨_, h2⟩, hw.trans (h1.mono hw.size), h1⟩)) (fun u1 => ?_)
    refine hs_is rfl (fun w' hw => runs_move rfl) ?_
    refine hs_is rfl (fun w' hw => runs_move rfl) ?_
    refine hs_is rfl (fun w' hw => runs_indexAddrG (j := i) (by rw [← hAe]; rfl) rfl und32 sz41 rfl hlt1) ?_
    refine hs_is rfl (fun w' hw => runs_fieldK fo41_1 rfl) ?_
    refine hs_is rfl (fun w' hw => runs_load rfl pl3 (range_below hrm hw hbw 1 _ rfl)) ?_
    refine hs_pr rfl (fun _ _ _ h hb => h.kept hb) (fun w' hw hq => (by obtain ⟨B, h1⟩ := hq (1, _) List.mem_cons_self (by kernel_rfl); exact (runs_call (args := [u1, .int .i64 m.2.1]) goes14 rfl (to_any l (by omega) m.2.1 _ w' (edges_ownE h1 rfl))).mono (by rintro u w3 ⟨h2, h3⟩; rw [hT] at h3; exact ⟨h3.edges, hw.trans (h2.mono hw.size), h2⟩))) (fun u7 => ?_)
    refine hs_is rfl (fun w' hw => runs_move rfl) ?_
    refine hs_pr rfl (fun _ _ _ h hb => by obtain ⟨B, h1⟩ := h; exact ⟨B, owns_kept h1 hb⟩) (fun w' hw hq => (runs_call (args := [.slice A l.length c]) goes12 rfl (own_any l (by omega) _ w' (hE.kept hw))).mono (by rintro u w3 ⟨h1, h2⟩; exact ⟨⟨_, h2⟩, hw.trans (h1.mono hw.size), h1⟩)) (fun u9 => ?_)
    refine hs_is rfl (fun w' hw => runs_move rfl) ?_
    refine hs_is rfl (fun w' hw => runs_move rfl) ?_
    refine hs_is rfl (fun w' hw => runs_indexAddrG (j := i) (by rw [← hAe]; rfl) rfl und32 sz41 rfl hlt1) ?_
    refine hs_is rfl (fun w' hw => runs_fieldK fo41_0 rfl) ?_
    refine hs_is rfl (fun w' hw => runs_load rfl pl3 (range_below hrm hw hbw 0 _ rfl)) ?_
    refine hs_pr rfl (fun _ _ _ h hb => h.kept hb) (fun w' hw hq => (by obtain ⟨B, h1⟩ := hq (9, _) List.mem_cons_self (by kernel_rfl); exact (runs_call (args := [u9, .int .i64 m.1]) goes16 rfl (from_any l (by omega) m.1 _ w' (edges_ownE h1 rfl))).mono (by rintro u w3 ⟨h2, h3⟩; rw [hR] at h3; exact ⟨h3.edges, hw.trans (h2.mono hw.size), h2⟩))) (fun u15 => ?_)
    refine hs_pr rfl (fun _ _ _ h hb => h.kept hb) (fun w' hw hq => (by have h1 := hq (7, _) (List.mem_cons_of_mem _ (List.mem_cons_of_mem _ List.mem_cons_self)) (by kernel_rfl); exact (runs_assign rfl).mono (by rintro v w3 ⟨rfl, rfl⟩; exact ⟨h1, hw, Below.refl _ _⟩))) (fun u16 => ?_)
    refine hs_pr rfl (fun _ _ _ h hb => h.kept hb) (fun w' hw hq => (by have h1 := hq (15, _) (List.mem_cons_of_mem _ List.mem_cons_self) (by kernel_rfl); exact (runs_assign rfl).mono (by rintro v w3 ⟨rfl, rfl⟩; exact ⟨h1, hw, Below.refl _ _⟩))) (fun u17 => ?_)
    refine (fun a5 w5 hS hB5 hq => ?_)




    have hTa := (hq (16, _) (List.mem_cons_of_mem _ List.mem_cons_self))
    have hRa := (hq (17, _) List.mem_cons_self)
    clear hq
    have hB := hB.trans (hB5.mono hB.size)
    have hE := hEb1.kept hB
    obtain ⟨At, ct, rfl, hk1, hk2, hk3⟩ := hTa
    have hTa : Edges w5 (.slice At T.length ct) T := ⟨At, ct, rfl, hk1, hk2, hk3⟩
    obtain ⟨Ar, cr, rfl, hj1, hj2, hj3⟩ := hRa
    have hRa : Edges w5 (.slice Ar R.length cr) R := ⟨Ar, cr, rfl, hj1, hj2, hj3⟩
    refine wpAnyH_done (by kernel_rfl) ?_ _
    refine qx_seq (reg_seq ?_)
    refine sI hS (runs_assign rfl) fun _ hS => ?_
    refine sI hS (runs_assign rfl) fun _ hS => ?_
    refine nil_ok (qx_seq (qx_seq (reg_seq ?_)))
    refine sI hS (runs_assign rfl) fun _ hS => ?_
    refine nil_ok (?_)
    have hBo2 := hB
    refine qx_for (fun mm a w' => ∃ (j : Nat) (t : Bool), j ≤ T.length ∧ mm = T.length - j ∧ Below w5.heap.size w5 w' ∧ t = ((T.take j).any (fun y => decide (y = m))) ∧ Sees 106 [(8, .int .i64 (j : Int)), (6, .bool t), (3, .int .i64 (i : Int)), (0, .slice A l.length c), (4, .slice At T.length ct), (5, .slice Ar R.length cr), (7, .bool false)] a) T.length ⟨0, false, by omega, by omega, Below.refl _ _, by simp, hS.only _ ⟨rfl, rfl, rfl, rfl, rfl, rfl, rfl, trivial⟩⟩ ?_
    clear hS
    rintro mm a wl2 ⟨j, t, hi2, rfl, hBl2, ht, hS⟩
    have hE := hE.kept hBl2
    have hTa := hTa.kept hBl2
    have hRa := hRa.kept hBl2
    have hB := Below.refl wl2.heap.size wl2
    have hEb2 := hE
    have hRab2 := hRa
    refine reg_seq ?_
    refine sI hS (runs_move rfl) fun _ hS => ?_
    refine sI hS (runs_move rfl) fun _ hS => ?_
    refine sI hS (runs_len rfl und32) fun _ hS => ?_
    by_cases hlt2 : j < T.length
    · skip
      refine sI hS (lssT rfl rfl (by omega)) fun _ hS => ?_
      refine nil_ok ⟨_, hS.eval rfl, fun h => by simp at h, fun _ => ?_⟩
      obtain ⟨e, hej⟩ : ∃ e, T[j]? = some e := ⟨T[j], by simp [hlt2]⟩
      obtain ⟨b1, o1, hA1, hb1, hr1⟩ := edges_row hTa (by omega)
      have hre := edges_at hr1 hej
      obtain ⟨b2, o2, hA2, hb2, hr2⟩ := edges_row hE (by omega)
      have hrm := edges_at hr2 hmi
      have hany : (T.take (j + 1)).any (fun y => decide (y = m)) = (((T.take j).any (fun y => decide (y = m))) || decide (e = m)) := any_take _ hej
      have hee := hst e (List.mem_of_getElem? hej)
      refine qx_seq (qx_block (qx_seq (?_)))
      cases t with
      | false =>
        by_cases f1 : e = m
        · skip
          refine reg_guard (fun w' => Below wl2.heap.size wl2 w') [.inl (.bool false), .inl (.bool false), .inl (.slice At T.length ct), .inl (.int .i64 (j : Int)), .inl (.pointer (some ⟨b1, o1 + j * 3, none⟩)), .inl (.agg (encE e).toArray), .inl (.slice A l.length c), .inl (.int .i64 (i : Int)), .inl (.pointer (some ⟨b2, o2 + i * 3, none⟩)), .inl (.agg (encE m).toArray), .inl (.bool true), .inl (.bool true)] 12 1 mixed rfl (by kernel_rfl) hS (Below.refl _ _) (fun _ h => h.drew) ?_
          refine hs_is rfl (fun w' hw => runs_move rfl) ?_
          refine hs_is rfl (fun w' hw => runs_move rfl) ?_
          refine hs_yis rfl rfl (fun w' hw => runs_move rfl) ?_
          refine hs_yis rfl rfl (fun w' hw => runs_move rfl) ?_
          refine hs_yis rfl rfl (fun w' hw => runs_indexAddrG (j := j) (by rw [← hA1]; rfl) rfl und32 sz41 rfl hlt2) ?_
          refine hs_yis rfl rfl (fun w' hw => runs_loadM rfl (range_below hre hw hb1)) ?_
          refine hs_yis rfl rfl (fun w' hw => runs_move rfl) ?_
          refine hs_yis rfl rfl (fun w' hw => runs_move rfl) ?_
          refine hs_yis rfl rfl (fun w' hw => runs_indexAddrG (j := i) (by rw [← hA2]; rfl) rfl und32 sz41 rfl hlt1) ?_
          refine hs_yis rfl rfl (fun w' hw => runs_loadM rfl (range_below hrm hw hb2)) ?_
          refine hs_yis rfl rfl (fun w' hw => runs_eqM (r := true) rfl rfl (by simp [f1])) ?_
          refine hs_is rfl (fun w' hw => runs_pick rfl rfl) ?_
          refine (fun a7 w7 hS hB7 hq => ?_)
          clear hq
          have hB := hB.trans (hB7.mono hB.size)
          have hE := hEb2.kept hB
          have hRa := hRab2.kept hB
          refine tail_op 12 (by kernel_rfl) rfl hS (by decide) (runs_assign rfl) (fun v9 w9 a9 hp hS => ⟨trivial, ?_⟩)
          obtain ⟨rfl, rfl⟩ := hp
          refine wpAnyH_done (by kernel_rfl) ?_ _
          refine qx_seq (reg_guard (fun w' => Below w9.heap.size w9 w') [.inl (.slice At T.length ct), .inl (.int .i64 (j : Int)), .inl (.pointer (some ⟨b1, o1 + j * 3, none⟩)), .inl (.pointer (some ⟨b1, o1 + j * 3 + 1, none⟩)), .inl (.int .i64 e.2.1), .inl (.slice A l.length c), .inl (.int .i64 (i : Int)), .inl (.pointer (some ⟨b2, o2 + i * 3, none⟩)), .inl (.pointer (some ⟨b2, o2 + i * 3 + 1, none⟩)), .inl (.int .i64 m.2.1), .inl (.bool false)] 11 0 mixed rfl (by kernel_rfl) hS (Below.refl _ _) (fun _ h => h.drew) ?_)
          refine hs_is rfl (fun w' hw => runs_move rfl) ?_
          refine hs_is rfl (fun w' hw => runs_move rfl) ?_
          refine hs_is rfl (fun w' hw => runs_indexAddrG (j := j) (by rw [← hA1]; rfl) rfl und32 sz41 rfl hlt2) ?_
          refine hs_is rfl (fun w' hw => runs_fieldK fo41_1 rfl) ?_
          refine hs_is rfl (fun w' hw => runs_load rfl pl3 (range_below (range_below hre hB hb1) hw (Nat.lt_of_lt_of_le hb1 hB.size) 1 _ rfl)) ?_
          refine hs_is rfl (fun w' hw => runs_move rfl) ?_
          refine hs_is rfl (fun w' hw => runs_move rfl) ?_
          refine hs_is rfl (fun w' hw => runs_indexAddrG (j := i) (by rw [← hA2]; rfl) rfl und32 sz41 rfl hlt1) ?_
          refine hs_is rfl (fun w' hw => runs_fieldK fo41_1 rfl) ?_
          refine hs_is rfl (fun w' hw => runs_load rfl pl3 (range_below (range_below hrm hB hb2) hw (Nat.lt_of_lt_of_le hb2 hB.size) 1 _ rfl)) ?_
          refine hs_is rfl (fun w' hw => runs_neq (r := false) rfl rfl (by rw [hee]; simp)) ?_
          refine (fun a10 w10 hS hB10 hq => ?_)
          clear hq
          have hB := hB.trans (hB10.mono hB.size)
          have hE := hEb2.kept hB
          have hRa := hRab2.kept hB
          refine wpAnyH_done (by kernel_rfl) ?_ _
          refine wp_cond_false (hS.eval rfl) (wp_skip (reg_seq ?_))
          refine sI hS (runs_move rfl) fun _ hS => ?_
          refine sI hS (runs_add (r := ((j + 1 : Nat) : Int)) rfl rfl (by simp [IntKind.wrap, IntKind.bits, IntKind.signed]; omega)) fun _ hS => ?_
          refine sI hS (runs_assign rfl) fun _ hS => ?_
          exact nil_ok ⟨_, by omega, j + 1, true, by omega, rfl, hBl2.trans (hB.mono hBl2.size), by rw [hany, ← ht]; simp [f1], hS.only _ ⟨rfl, rfl, rfl, rfl, rfl, rfl, rfl, trivial⟩⟩
        · skip
          refine reg_guard (fun w' => Below wl2.heap.size wl2 w') [.inl (.bool false), .inl (.bool false), .inl (.slice At T.length ct), .inl (.int .i64 (j : Int)), .inl (.pointer (some ⟨b1, o1 + j * 3, none⟩)), .inl (.agg (encE e).toArray), .inl (.slice A l.length c), .inl (.int .i64 (i : Int)), .inl (.pointer (some ⟨b2, o2 + i * 3, none⟩)), .inl (.agg (encE m).toArray), .inl (.bool false), .inl (.bool false)] 12 1 mixed rfl (by kernel_rfl) hS (Below.refl _ _) (fun _ h => h.drew) ?_
          refine hs_is rfl (fun w' hw => runs_move rfl) ?_
          refine hs_is rfl (fun w' hw => runs_move rfl) ?_
          refine hs_yis rfl rfl (fun w' hw => runs_move rfl) ?_
          refine hs_yis rfl rfl (fun w' hw => runs_move rfl) ?_
          refine hs_yis rfl rfl (fun w' hw => runs_indexAddrG (j := j) (by rw [← hA1]; rfl) rfl und32 sz41 rfl hlt2) ?_
          refine hs_yis rfl rfl (fun w' hw => runs_loadM rfl (range_below hre hw hb1)) ?_
          refine hs_yis rfl rfl (fun w' hw => runs_move rfl) ?_
          refine hs_yis rfl rfl (fun w' hw => runs_move rfl) ?_
          refine hs_yis rfl rfl (fun w' hw => runs_indexAddrG (j := i) (by rw [← hA2]; rfl) rfl und32 sz41 rfl hlt1) ?_
          refine hs_yis rfl rfl (fun w' hw => runs_loadM rfl (range_below hrm hw hb2)) ?_
          refine hs_yis rfl rfl (fun w' hw => runs_eqM (r := false) rfl rfl (by simp [f1])) ?_
          refine hs_is rfl (fun w' hw => runs_pick rfl rfl) ?_
          refine (fun a12 w12 hS hB12 hq => ?_)
          clear hq
          have hB := hB.trans (hB12.mono hB.size)
          have hE := hEb2.kept hB
          have hRa := hRab2.kept hB
          refine tail_op 12 (by kernel_rfl) rfl hS (by decide) (runs_assign rfl) (fun v14 w14 a14 hp hS => ⟨trivial, ?_⟩)
          obtain ⟨rfl, rfl⟩ := hp
          refine wpAnyH_done (by kernel_rfl) ?_ _
          refine qx_seq (reg_guard (fun w' => Below w14.heap.size w14 w') [.inl (.slice At T.length ct), .inl (.int .i64 (j : Int)), .inl (.pointer (some ⟨b1, o1 + j * 3, none⟩)), .inl (.pointer (some ⟨b1, o1 + j * 3 + 1, none⟩)), .inl (.int .i64 e.2.1), .inl (.slice A l.length c), .inl (.int .i64 (i : Int)), .inl (.pointer (some ⟨b2, o2 + i * 3, none⟩)), .inl (.pointer (some ⟨b2, o2 + i * 3 + 1, none⟩)), .inl (.int .i64 m.2.1), .inl (.bool false)] 11 0 mixed rfl (by kernel_rfl) hS (Below.refl _ _) (fun _ h => h.drew) ?_)
          refine hs_is rfl (fun w' hw => runs_move rfl) ?_
          refine hs_is rfl (fun w' hw => runs_move rfl) ?_
          refine hs_is rfl (fun w' hw => runs_indexAddrG (j := j) (by rw [← hA1]; rfl) rfl und32 sz41 rfl hlt2) ?_
          refine hs_is rfl (fun w' hw => runs_fieldK fo41_1 rfl) ?_
          refine hs_is rfl (fun w' hw => runs_load rfl pl3 (range_below (range_below hre hB hb1) hw (Nat.lt_of_lt_of_le hb1 hB.size) 1 _ rfl)) ?_
          refine hs_is rfl (fun w' hw => runs_move rfl) ?_
          refine hs_is rfl (fun w' hw => runs_move rfl) ?_
          refine hs_is rfl (fun w' hw => runs_indexAddrG (j := i) (by rw [← hA2]; rfl) rfl und32 sz41 rfl hlt1) ?_
          refine hs_is rfl (fun w' hw => runs_fieldK fo41_1 rfl) ?_
          refine hs_is rfl (fun w' hw => runs_load rfl pl3 (range_below (range_below hrm hB hb2) hw (Nat.lt_of_lt_of_le hb2 hB.size) 1 _ rfl)) ?_
          refine hs_is rfl (fun w' hw => runs_neq (r := false) rfl rfl (by rw [hee]; simp)) ?_
          refine (fun a15 w15 hS hB15 hq => ?_)
          clear hq
          have hB := hB.trans (hB15.mono hB.size)
          have hE := hEb2.kept hB
          have hRa := hRab2.kept hB
          refine wpAnyH_done (by kernel_rfl) ?_ _
          refine wp_cond_false (hS.eval rfl) (wp_skip (reg_seq ?_))
          refine sI hS (runs_move rfl) fun _ hS => ?_
          refine sI hS (runs_add (r := ((j + 1 : Nat) : Int)) rfl rfl (by simp [IntKind.wrap, IntKind.bits, IntKind.signed]; omega)) fun _ hS => ?_
          refine sI hS (runs_assign rfl) fun _ hS => ?_
          exact nil_ok ⟨_, by omega, j + 1, false, by omega, rfl, hBl2.trans (hB.mono hBl2.size), by rw [hany, ← ht]; simp [f1], hS.only _ ⟨rfl, rfl, rfl, rfl, rfl, rfl, rfl, trivial⟩⟩
      | true =>
        refine reg_guard (fun w' => Below wl2.heap.size wl2 w') [.inl (.bool true), .inl (.bool true), .inl undef, .inl undef, .inl undef, .inl undef, .inl undef, .inl undef, .inl undef, .inl undef, .inl undef, .inl (.bool true)] 12 1 mixed rfl (by kernel_rfl) hS (Below.refl _ _) (fun _ h => h.drew) ?_
        refine hs_is rfl (fun w' hw => runs_move rfl) ?_
        refine hs_is rfl (fun w' hw => runs_move rfl) ?_
        refine hs_no rfl rfl rfl ?_
        refine hs_no rfl rfl rfl ?_
        refine hs_no rfl rfl rfl ?_
        refine hs_no rfl rfl rfl ?_
        refine hs_no rfl rfl rfl ?_
        refine hs_no rfl rfl rfl ?_
        refine hs_no rfl rfl rfl ?_
        refine hs_no rfl rfl rfl ?_
        refine hs_no rfl rfl rfl ?_
        refine hs_is rfl (fun w' hw => runs_pick rfl rfl) ?_
        refine (fun a17 w17 hS hB17 hq => ?_)
        clear hq
        have hB := hB.trans (hB17.mono hB.size)
        have hE := hEb2.kept hB
        have hRa := hRab2.kept hB
        refine tail_op 12 (by kernel_rfl) rfl hS (by decide) (runs_assign rfl) (fun v19 w19 a19 hp hS => ⟨trivial, ?_⟩)
        obtain ⟨rfl, rfl⟩ := hp
        refine wpAnyH_done (by kernel_rfl) ?_ _
        refine qx_seq (reg_guard (fun w' => Below w19.heap.size w19 w') [.inl (.slice At T.length ct), .inl (.int .i64 (j : Int)), .inl (.pointer (some ⟨b1, o1 + j * 3, none⟩)), .inl (.pointer (some ⟨b1, o1 + j * 3 + 1, none⟩)), .inl (.int .i64 e.2.1), .inl (.slice A l.length c), .inl (.int .i64 (i : Int)), .inl (.pointer (some ⟨b2, o2 + i * 3, none⟩)), .inl (.pointer (some ⟨b2, o2 + i * 3 + 1, none⟩)), .inl (.int .i64 m.2.1), .inl (.bool false)] 11 0 mixed rfl (by kernel_rfl) hS (Below.refl _ _) (fun _ h => h.drew) ?_)
        refine hs_is rfl (fun w' hw => runs_move rfl) ?_
        refine hs_is rfl (fun w' hw => runs_move rfl) ?_
        refine hs_is rfl (fun w' hw => runs_indexAddrG (j := j) (by rw [← hA1]; rfl) rfl und32 sz41 rfl hlt2) ?_
        refine hs_is rfl (fun w' hw => runs_fieldK fo41_1 rfl) ?_
        refine hs_is rfl (fun w' hw => runs_load rfl pl3 (range_below (range_below hre hB hb1) hw (Nat.lt_of_lt_of_le hb1 hB.size) 1 _ rfl)) ?_
        refine hs_is rfl (fun w' hw => runs_move rfl) ?_
        refine hs_is rfl (fun w' hw => runs_move rfl) ?_
        refine hs_is rfl (fun w' hw => runs_indexAddrG (j := i) (by rw [← hA2]; rfl) rfl und32 sz41 rfl hlt1) ?_
        refine hs_is rfl (fun w' hw => runs_fieldK fo41_1 rfl) ?_
        refine hs_is rfl (fun w' hw => runs_load rfl pl3 (range_below (range_below hrm hB hb2) hw (Nat.lt_of_lt_of_le hb2 hB.size) 1 _ rfl)) ?_
        refine hs_is rfl (fun w' hw => runs_neq (r := false) rfl rfl (by rw [hee]; simp)) ?_
        refine (fun a20 w20 hS hB20 hq => ?_)
        clear hq
        have hB := hB.trans (hB20.mono hB.size)
        have hE := hEb2.kept hB
        have hRa := hRab2.kept hB
        refine wpAnyH_done (by kernel_rfl) ?_ _
        refine wp_cond_false (hS.eval rfl) (wp_skip (reg_seq ?_))
        refine sI hS (runs_move rfl) fun _ hS => ?_
        refine sI hS (runs_add (r := ((j + 1 : Nat) : Int)) rfl rfl (by simp [IntKind.wrap, IntKind.bits, IntKind.signed]; omega)) fun _ hS => ?_
        refine sI hS (runs_assign rfl) fun _ hS => ?_
        exact nil_ok ⟨_, by omega, j + 1, true, by omega, rfl, hBl2.trans (hB.mono hBl2.size), by rw [hany, ← ht]; rfl, hS.only _ ⟨rfl, rfl, rfl, rfl, rfl, rfl, rfl, trivial⟩⟩
    refine sI hS (lssF rfl rfl (by omega)) fun _ hS => ?_
    obtain rfl : j = T.length := by omega
    refine nil_ok ⟨_, hS.eval rfl, fun _ => ?_, fun h => by simp at h⟩
    have hB := hBo2.trans ((hBl2.trans (hB.mono hBl2.size)).mono hBo2.size)
    rw [List.take_length, hat] at ht
    subst ht
    refine qx_seq (qx_seq (reg_seq ?_))
    refine sI hS (runs_assign rfl) fun _ hS => ?_
    refine nil_ok (?_)
    have hBo2 := hB
    refine qx_for (fun mm a w' => ∃ (j : Nat) (t : Bool), j ≤ R.length ∧ mm = R.length - j ∧ Below wl2.heap.size wl2 w' ∧ t = ((R.take j).any (fun y => decide (y = m))) ∧ Sees 106 [(9, .int .i64 (j : Int)), (7, .bool t), (3, .int .i64 (i : Int)), (0, .slice A l.length c), (4, .slice At T.length ct), (5, .slice Ar R.length cr), (6, .bool true)] a) R.length ⟨0, false, by omega, by omega, Below.refl _ _, by simp, hS.only _ ⟨rfl, rfl, rfl, rfl, rfl, rfl, rfl, trivial⟩⟩ ?_
    clear hS
    rintro mm a wl2 ⟨j, t, hi2, rfl, hBl2, ht, hS⟩
    have hE := hE.kept hBl2
    have hRa := hRa.kept hBl2
    have hB := Below.refl wl2.heap.size wl2
    refine reg_seq ?_
    refine sI hS (runs_move rfl) fun _ hS => ?_
    refine sI hS (runs_move rfl) fun _ hS => ?_
    refine sI hS (runs_len rfl und32) fun _ hS => ?_
    by_cases hlt2 : j < R.length
    · skip
      refine sI hS (lssT rfl rfl (by omega)) fun _ hS => ?_
      refine nil_ok ⟨_, hS.eval rfl, fun h => by simp at h, fun _ => ?_⟩
      obtain ⟨e, hej⟩ : ∃ e, R[j]? = some e := ⟨R[j], by simp [hlt2]⟩
      obtain ⟨b1, o1, hA1, hb1, hr1⟩ := edges_row hRa (by omega)
      have hre := edges_at hr1 hej
      obtain ⟨b2, o2, hA2, hb2, hr2⟩ := edges_row hE (by omega)
      have hrm := edges_at hr2 hmi
      have hany : (R.take (j + 1)).any (fun y => decide (y = m)) = (((R.take j).any (fun y => decide (y = m))) || decide (e = m)) := any_take _ hej
      have hee := hsf e (List.mem_of_getElem? hej)
      refine qx_seq (qx_block (qx_seq (?_)))
      cases t with
      | false =>
        by_cases f1 : e = m
        · skip
          refine reg_guard (fun w' => Below wl2.heap.size wl2 w') [.inl (.bool false), .inl (.bool false), .inl (.slice Ar R.length cr), .inl (.int .i64 (j : Int)), .inl (.pointer (some ⟨b1, o1 + j * 3, none⟩)), .inl (.agg (encE e).toArray), .inl (.slice A l.length c), .inl (.int .i64 (i : Int)), .inl (.pointer (some ⟨b2, o2 + i * 3, none⟩)), .inl (.agg (encE m).toArray), .inl (.bool true), .inl (.bool true)] 12 1 mixed rfl (by kernel_rfl) hS (Below.refl _ _) (fun _ h => h.drew) ?_
          refine hs_is rfl (fun w' hw => runs_move rfl) ?_
          refine hs_is rfl (fun w' hw => runs_move rfl) ?_
          refine hs_yis rfl rfl (fun w' hw => runs_move rfl) ?_
          refine hs_yis rfl rfl (fun w' hw => runs_move rfl) ?_
          refine hs_yis rfl rfl (fun w' hw => runs_indexAddrG (j := j) (by rw [← hA1]; rfl) rfl und32 sz41 rfl hlt2) ?_
          refine hs_yis rfl rfl (fun w' hw => runs_loadM rfl (range_below hre hw hb1)) ?_
          refine hs_yis rfl rfl (fun w' hw => runs_move rfl) ?_
          refine hs_yis rfl rfl (fun w' hw => runs_move rfl) ?_
          refine hs_yis rfl rfl (fun w' hw => runs_indexAddrG (j := i) (by rw [← hA2]; rfl) rfl und32 sz41 rfl hlt1) ?_
          refine hs_yis rfl rfl (fun w' hw => runs_loadM rfl (range_below hrm hw hb2)) ?_
          refine hs_yis rfl rfl (fun w' hw => runs_eqM (r := true) rfl rfl (by simp [f1])) ?_
          refine hs_is rfl (fun w' hw => runs_pick rfl rfl) ?_
          refine (fun a22 w22 hS hB22 hq => ?_)
          clear hq
          have hB := hB.trans (hB22.mono hB.size)
          refine tail_op 12 (by kernel_rfl) rfl hS (by decide) (runs_assign rfl) (fun v24 w24 a24 hp hS => ⟨trivial, ?_⟩)
          obtain ⟨rfl, rfl⟩ := hp
          refine wpAnyH_done (by kernel_rfl) ?_ _
          refine qx_seq (reg_guard (fun w' => Below w24.heap.size w24 w') [.inl (.slice Ar R.length cr), .inl (.int .i64 (j : Int)), .inl (.pointer (some ⟨b1, o1 + j * 3, none⟩)), .inl (.pointer (some ⟨b1, o1 + j * 3 + 0, none⟩)), .inl (.int .i64 e.1), .inl (.slice A l.length c), .inl (.int .i64 (i : Int)), .inl (.pointer (some ⟨b2, o2 + i * 3, none⟩)), .inl (.pointer (some ⟨b2, o2 + i * 3 + 0, none⟩)), .inl (.int .i64 m.1), .inl (.bool false)] 11 0 mixed rfl (by kernel_rfl) hS (Below.refl _ _) (fun _ h => h.drew) ?_)
          refine hs_is rfl (fun w' hw => runs_move rfl) ?_
          refine hs_is rfl (fun w' hw => runs_move rfl) ?_
          refine hs_is rfl (fun w' hw => runs_indexAddrG (j := j) (by rw [← hA1]; rfl) rfl und32 sz41 rfl hlt2) ?_
          refine hs_is rfl (fun w' hw => runs_fieldK fo41_0 rfl) ?_
          refine hs_is rfl (fun w' hw => runs_load rfl pl3 (range_below (range_below hre hB hb1) hw (Nat.lt_of_lt_of_le hb1 hB.size) 0 _ rfl)) ?_
          refine hs_is rfl (fun w' hw => runs_move rfl) ?_
          refine hs_is rfl (fun w' hw => runs_move rfl) ?_
          refine hs_is rfl (fun w' hw => runs_indexAddrG (j := i) (by rw [← hA2]; rfl) rfl und32 sz41 rfl hlt1) ?_
          refine hs_is rfl (fun w' hw => runs_fieldK fo41_0 rfl) ?_
          refine hs_is rfl (fun w' hw => runs_load rfl pl3 (range_below (range_below hrm hB hb2) hw (Nat.lt_of_lt_of_le hb2 hB.size) 0 _ rfl)) ?_
          refine hs_is rfl (fun w' hw => runs_neq (r := false) rfl rfl (by rw [hee]; simp)) ?_
          refine (fun a25 w25 hS hB25 hq => ?_)
          clear hq
          have hB := hB.trans (hB25.mono hB.size)
          refine wpAnyH_done (by kernel_rfl) ?_ _
          refine wp_cond_false (hS.eval rfl) (wp_skip (reg_seq ?_))
          refine sI hS (runs_move rfl) fun _ hS => ?_
          refine sI hS (runs_add (r := ((j + 1 : Nat) : Int)) rfl rfl (by simp [IntKind.wrap, IntKind.bits, IntKind.signed]; omega)) fun _ hS => ?_
          refine sI hS (runs_assign rfl) fun _ hS => ?_
          exact nil_ok ⟨_, by omega, j + 1, true, by omega, rfl, hBl2.trans (hB.mono hBl2.size), by rw [hany, ← ht]; simp [f1], hS.only _ ⟨rfl, rfl, rfl, rfl, rfl, rfl, rfl, trivial⟩⟩
        · skip
          refine reg_guard (fun w' => Below wl2.heap.size wl2 w') [.inl (.bool false), .inl (.bool false), .inl (.slice Ar R.length cr), .inl (.int .i64 (j : Int)), .inl (.pointer (some ⟨b1, o1 + j * 3, none⟩)), .inl (.agg (encE e).toArray), .inl (.slice A l.length c), .inl (.int .i64 (i : Int)), .inl (.pointer (some ⟨b2, o2 + i * 3, none⟩)), .inl (.agg (encE m).toArray), .inl (.bool false), .inl (.bool false)] 12 1 mixed rfl (by kernel_rfl) hS (Below.refl _ _) (fun _ h => h.drew) ?_
          refine hs_is rfl (fun w' hw => runs_move rfl) ?_
          refine hs_is rfl (fun w' hw => runs_move rfl) ?_
          refine hs_yis rfl rfl (fun w' hw => runs_move rfl) ?_
          refine hs_yis rfl rfl (fun w' hw => runs_move rfl) ?_
          refine hs_yis rfl rfl (fun w' hw => runs_indexAddrG (j := j) (by rw [← hA1]; rfl) rfl und32 sz41 rfl hlt2) ?_
          refine hs_yis rfl rfl (fun w' hw => runs_loadM rfl (range_below hre hw hb1)) ?_
          refine hs_yis rfl rfl (fun w' hw => runs_move rfl) ?_
          refine hs_yis rfl rfl (fun w' hw => runs_move rfl) ?_
          refine hs_yis rfl rfl (fun w' hw => runs_indexAddrG (j := i) (by rw [← hA2]; rfl) rfl und32 sz41 rfl hlt1) ?_
          refine hs_yis rfl rfl (fun w' hw => runs_loadM rfl (range_below hrm hw hb2)) ?_
          refine hs_yis rfl rfl (fun w' hw => runs_eqM (r := false) rfl rfl (by simp [f1])) ?_
          refine hs_is rfl (fun w' hw => runs_pick rfl rfl) ?_
          refine (fun a27 w27 hS hB27 hq => ?_)
          clear hq
          have hB := hB.trans (hB27.mono hB.size)
          refine tail_op 12 (by kernel_rfl) rfl hS (by decide) (runs_assign rfl) (fun v29 w29 a29 hp hS => ⟨trivial, ?_⟩)
          obtain ⟨rfl, rfl⟩ := hp
          refine wpAnyH_done (by kernel_rfl) ?_ _
          refine qx_seq (reg_guard (fun w' => Below w29.heap.size w29 w') [.inl (.slice Ar R.length cr), .inl (.int .i64 (j : Int)), .inl (.pointer (some ⟨b1, o1 + j * 3, none⟩)), .inl (.pointer (some ⟨b1, o1 + j * 3 + 0, none⟩)), .inl (.int .i64 e.1), .inl (.slice A l.length c), .inl (.int .i64 (i : Int)), .inl (.pointer (some ⟨b2, o2 + i * 3, none⟩)), .inl (.pointer (some ⟨b2, o2 + i * 3 + 0, none⟩)), .inl (.int .i64 m.1), .inl (.bool false)] 11 0 mixed rfl (by kernel_rfl) hS (Below.refl _ _) (fun _ h => h.drew) ?_)
          refine hs_is rfl (fun w' hw => runs_move rfl) ?_
          refine hs_is rfl (fun w' hw => runs_move rfl) ?_
          refine hs_is rfl (fun w' hw => runs_indexAddrG (j := j) (by rw [← hA1]; rfl) rfl und32 sz41 rfl hlt2) ?_
          refine hs_is rfl (fun w' hw => runs_fieldK fo41_0 rfl) ?_
          refine hs_is rfl (fun w' hw => runs_load rfl pl3 (range_below (range_below hre hB hb1) hw (Nat.lt_of_lt_of_le hb1 hB.size) 0 _ rfl)) ?_
          refine hs_is rfl (fun w' hw => runs_move rfl) ?_
          refine hs_is rfl (fun w' hw => runs_move rfl) ?_
          refine hs_is rfl (fun w' hw => runs_indexAddrG (j := i) (by rw [← hA2]; rfl) rfl und32 sz41 rfl hlt1) ?_
          refine hs_is rfl (fun w' hw => runs_fieldK fo41_0 rfl) ?_
          refine hs_is rfl (fun w' hw => runs_load rfl pl3 (range_below (range_below hrm hB hb2) hw (Nat.lt_of_lt_of_le hb2 hB.size) 0 _ rfl)) ?_
          refine hs_is rfl (fun w' hw => runs_neq (r := false) rfl rfl (by rw [hee]; simp)) ?_
          refine (fun a30 w30 hS hB30 hq => ?_)
          clear hq
          have hB := hB.trans (hB30.mono hB.size)
          refine wpAnyH_done (by kernel_rfl) ?_ _
          refine wp_cond_false (hS.eval rfl) (wp_skip (reg_seq ?_))
          refine sI hS (runs_move rfl) fun _ hS => ?_
          refine sI hS (runs_add (r := ((j + 1 : Nat) : Int)) rfl rfl (by simp [IntKind.wrap, IntKind.bits, IntKind.signed]; omega)) fun _ hS => ?_
          refine sI hS (runs_assign rfl) fun _ hS => ?_
          exact nil_ok ⟨_, by omega, j + 1, false, by omega, rfl, hBl2.trans (hB.mono hBl2.size), by rw [hany, ← ht]; simp [f1], hS.only _ ⟨rfl, rfl, rfl, rfl, rfl, rfl, rfl, trivial⟩⟩
      | true =>
        refine reg_guard (fun w' => Below wl2.heap.size wl2 w') [.inl (.bool true), .inl (.bool true), .inl undef, .inl undef, .inl undef, .inl undef, .inl undef, .inl undef, .inl undef, .inl undef, .inl undef, .inl (.bool true)] 12 1 mixed rfl (by kernel_rfl) hS (Below.refl _ _) (fun _ h => h.drew) ?_
        refine hs_is rfl (fun w' hw => runs_move rfl) ?_
        refine hs_is rfl (fun w' hw => runs_move rfl) ?_
        refine hs_no rfl rfl rfl ?_
        refine hs_no rfl rfl rfl ?_
        refine hs_no rfl rfl rfl ?_
        refine hs_no rfl rfl rfl ?_
        refine hs_no rfl rfl rfl ?_
        refine hs_no rfl rfl rfl ?_
        refine hs_no rfl rfl rfl ?_
        refine hs_no rfl rfl rfl ?_
        refine hs_no rfl rfl rfl ?_
        refine hs_is rfl (fun w' hw => runs_pick rfl rfl) ?_
        refine (fun a32 w32 hS hB32 hq => ?_)
        clear hq
        have hB := hB.trans (hB32.mono hB.size)
        refine tail_op 12 (by kernel_rfl) rfl hS (by decide) (runs_assign rfl) (fun v34 w34 a34 hp hS => ⟨trivial, ?_⟩)
        obtain ⟨rfl, rfl⟩ := hp
        refine wpAnyH_done (by kernel_rfl) ?_ _
        refine qx_seq (reg_guard (fun w' => Below w34.heap.size w34 w') [.inl (.slice Ar R.length cr), .inl (.int .i64 (j : Int)), .inl (.pointer (some ⟨b1, o1 + j * 3, none⟩)), .inl (.pointer (some ⟨b1, o1 + j * 3 + 0, none⟩)), .inl (.int .i64 e.1), .inl (.slice A l.length c), .inl (.int .i64 (i : Int)), .inl (.pointer (some ⟨b2, o2 + i * 3, none⟩)), .inl (.pointer (some ⟨b2, o2 + i * 3 + 0, none⟩)), .inl (.int .i64 m.1), .inl (.bool false)] 11 0 mixed rfl (by kernel_rfl) hS (Below.refl _ _) (fun _ h => h.drew) ?_)
        refine hs_is rfl (fun w' hw => runs_move rfl) ?_
        refine hs_is rfl (fun w' hw => runs_move rfl) ?_
        refine hs_is rfl (fun w' hw => runs_indexAddrG (j := j) (by rw [← hA1]; rfl) rfl und32 sz41 rfl hlt2) ?_
        refine hs_is rfl (fun w' hw => runs_fieldK fo41_0 rfl) ?_
        refine hs_is rfl (fun w' hw => runs_load rfl pl3 (range_below (range_below hre hB hb1) hw (Nat.lt_of_lt_of_le hb1 hB.size) 0 _ rfl)) ?_
        refine hs_is rfl (fun w' hw => runs_move rfl) ?_
        refine hs_is rfl (fun w' hw => runs_move rfl) ?_
        refine hs_is rfl (fun w' hw => runs_indexAddrG (j := i) (by rw [← hA2]; rfl) rfl und32 sz41 rfl hlt1) ?_
        refine hs_is rfl (fun w' hw => runs_fieldK fo41_0 rfl) ?_
        refine hs_is rfl (fun w' hw => runs_load rfl pl3 (range_below (range_below hrm hB hb2) hw (Nat.lt_of_lt_of_le hb2 hB.size) 0 _ rfl)) ?_
        refine hs_is rfl (fun w' hw => runs_neq (r := false) rfl rfl (by rw [hee]; simp)) ?_
        refine (fun a35 w35 hS hB35 hq => ?_)
        clear hq
        have hB := hB.trans (hB35.mono hB.size)
        refine wpAnyH_done (by kernel_rfl) ?_ _
        refine wp_cond_false (hS.eval rfl) (wp_skip (reg_seq ?_))
        refine sI hS (runs_move rfl) fun _ hS => ?_
        refine sI hS (runs_add (r := ((j + 1 : Nat) : Int)) rfl rfl (by simp [IntKind.wrap, IntKind.bits, IntKind.signed]; omega)) fun _ hS => ?_
        refine sI hS (runs_assign rfl) fun _ hS => ?_
        exact nil_ok ⟨_, by omega, j + 1, true, by omega, rfl, hBl2.trans (hB.mono hBl2.size), by rw [hany, ← ht]; rfl, hS.only _ ⟨rfl, rfl, rfl, rfl, rfl, rfl, rfl, trivial⟩⟩
    refine sI hS (lssF rfl rfl (by omega)) fun _ hS => ?_
    obtain rfl : j = R.length := by omega
    refine nil_ok ⟨_, hS.eval rfl, fun _ => ?_, fun h => by simp at h⟩
    have hB := hBo2.trans ((hBl2.trans (hB.mono hBl2.size)).mono hBo2.size)
    rw [List.take_length, haf] at ht
    subst ht
    refine qx_seq (reg_seq ?_)
    refine sI hS (runs_move rfl) fun _ hS => ?_
    refine sI hS (runs_not (b := true) rfl) fun _ hS => ?_
    refine sI hS (runs_move rfl) fun _ hS => ?_
    refine sY hS (runs_move rfl) fun _ hS => ?_
    refine sY hS (runs_not (b := true) rfl) fun _ hS => ?_
    refine sI hS (runs_pick rfl rfl) fun _ hS => ?_
    refine nil_ok (wp_cond_false (hS.eval rfl) (wp_skip (reg_seq ?_)))
    refine sI hS (runs_move rfl) fun _ hS => ?_
    refine sI hS (runs_add (r := ((i + 1 : Nat) : Int)) rfl rfl (by simp [IntKind.wrap, IntKind.bits, IntKind.signed]; omega)) fun _ hS => ?_
    refine sI hS (runs_assign rfl) fun _ hS => ?_
    exact nil_ok ⟨_, by omega, i + 1, by omega, rfl, hBl1.trans (hB.mono hBl1.size), hS.only _ ⟨rfl, rfl, trivial⟩⟩
  refine sI hS (lssF rfl rfl (by omega)) fun _ hS => ?_
  obtain rfl : i = l.length := by omega
  refine nil_ok ⟨_, hS.eval rfl, fun _ => ?_, fun h => by simp at h⟩
  have hB := hBo1.trans ((hBl1.trans (hB.mono hBl1.size)).mono hBo1.size)
  refine qx_seq (reg_seq ?_)
  refine sI hS (runs_assign rfl) fun _ hS => ?_
  exact nil_ok (qx_ret (ret1 (t := 2) (by kernel_rfl) hS rfl ⟨_, rfl, rfl, hB⟩))
end Go.Proofs.Ythenbmalnmaofaa
