/- Layer 8: the document's Check. Conditions: none of our own. -/
import Derived.Test.YthenbmalnmaofaaFSend
import Derived.Test.YthenbmalnmaofaaRCheck
namespace Go.Proofs.Ythenbmalnmaofaa
open Go.RowKit
set_option maxRecDepth 100000

set_option maxHeartbeats 1000000 in
theorem rfcheck_any (n : Int) (es : List E) (v : Value) (l : List E) (hl : l.length ≤ 10000) (vm : Value) (w : World) (hE : Edges w v es) (hM : Edges w vm l) : Ans 18 [gv n v, vm] w (fun u w' => u = .bool (sentB n es l) ∧ Below w.heap.size w w') := by
  obtain ⟨A, c, rfl, h1, h2, hA⟩ := hE
  have hE : Edges w (.slice A es.length c) es := ⟨A, c, rfl, h1, h2, hA⟩
  obtain ⟨Am, cm, rfl, hm1, hm2, hAm⟩ := hM
  have hM : Edges w (.slice Am l.length cm) l := ⟨Am, cm, rfl, hm1, hm2, hAm⟩
  refine calls_qx (args := [gv n (.slice A es.length c), .slice Am l.length cm]) 96 Try.func18 rfl (by kernel_rfl) (by simp) (fun a hS => ?_)
  have hB := Below.refl w.heap.size w
  have hEb := hE
  have hMb := hM
  refine qx_seq (reg_seq ?_)
  refine seq_op hS (by decide) (runs_boxB (cs := [.int .i64 n, .slice A es.length c]) rfl rfl) (fun v1 w1 a1 hp hS => ?_)
  obtain ⟨rfl, hM1, hB1⟩ := hp
  have hB := hB.trans (hB1.mono hB.size)
  have hE := hEb.kept hB
  have hM := hMb.kept hB
  refine sI hS (runs_assign rfl) fun _ hS => ?_
  refine nil_ok (qx_seq (qx_seq (reg_seq ?_)))
  refine sI hS (runs_loadRow rfl hM1 Try.underlying30 rfl (by rw [sz30]; rfl)) fun _ hS => ?_
  refine seq_op hS (by decide) (runs_call (args := [gv n (.slice A es.length c)]) goes32 rfl (rcheck_any n es _ w1 hE)) (fun v3 w3 a1 hp hS => ?_)
  obtain ⟨rfl, hB3⟩ := hp
  have hB := hB.trans (hB3.mono hB.size)
  have hM1 := hM1.below hB3 hM1.lt
  have hE := hEb.kept hB
  have hM := hMb.kept hB
  by_cases h0 : checkZ n es ≠ 0
  · skip
    refine sI hS (runs_neq (r := true) rfl rfl (by simpa using h0)) fun _ hS => ?_
    refine nil_ok (wp_cond_true (hS.eval rfl) (qx_seq (reg_seq ?_)))
    refine sI hS (runs_assign rfl) fun _ hS => ?_
    have hfin : sentB n es l = false := by unfold sentB; simp [h0]
    exact nil_ok (qx_ret (ret1 (t := 4) (by kernel_rfl) hS rfl ⟨_, rfl, by rw [hfin], hB⟩))
  refine sI hS (runs_neq (r := false) rfl rfl (by simpa using h0)) fun _ hS => ?_
  refine nil_ok (wp_cond_false (hS.eval rfl) (wp_skip (qx_seq (qx_seq (?_)))))
  have hel : es.length ≤ 512 := by obtain ⟨_, _, _, _, h⟩ := norm_small (Classical.not_not.1 h0); exact h
  refine reg_seq ?_
  refine sI hS (runs_assign rfl) fun _ hS => ?_
  refine nil_ok (?_)
  have hBo1 := hB
  refine qx_for (fun mm a w' => ∃ (i : Nat), i ≤ l.length ∧ mm = l.length - i ∧ Below w3.heap.size w3 w' ∧ sendB es [] l = sendB es (l.take i) (l.drop i) ∧ Sees 96 [(5, .int .i64 (i : Int)), (2, .pointer (some ⟨w.heap.size, 0, none⟩)), (1, .slice Am l.length cm)] a) l.length ⟨0, by omega, by omega, Below.refl _ _, by simp, hS.only _ ⟨rfl, rfl, rfl, trivial⟩⟩ ?_
  clear hS
  rintro mm a wl1 ⟨i, hi1, rfl, hBl1, hsd, hS⟩
  have hM1 := hM1.below hBl1 hM1.lt
  have hE := hE.kept hBl1
  have hM := hM.kept hBl1
  have hB := Below.refl wl1.heap.size wl1
  refine reg_seq ?_
  refine sI hS (runs_move rfl) fun _ hS => ?_
  refine sI hS (runs_move rfl) fun _ hS => ?_
  refine sI hS (runs_len rfl und32) fun _ hS => ?_
  by_cases hlt1 : i < l.length
  · skip
    refine sI hS (lssT rfl rfl (by omega)) fun _ hS => ?_
    refine nil_ok ⟨_, hS.eval rfl, fun h => by simp at h, fun _ => ?_⟩
    obtain ⟨m, hmi⟩ : ∃ m, l[i]? = some m := ⟨l[i], by simp [hlt1]⟩
    have hstep := sendB_step (es := es) hmi
    refine qx_seq (qx_block (qx_seq (reg_seq ?_)))
    refine sI hS (runs_assign rfl) fun _ hS => ?_
    refine nil_ok (qx_seq (qx_seq (reg_seq ?_)))
    refine sI hS (runs_assign rfl) fun _ hS => ?_
    refine nil_ok (?_)
    have hBo2 := hB
    refine qx_for (fun mm a w' => ∃ (j : Nat) (t : Bool), j ≤ es.length ∧ mm = es.length - j ∧ Below wl1.heap.size wl1 w' ∧ t = ((es.take j).any (fun y => sameE y m)) ∧ Sees 96 [(7, .int .i64 (j : Int)), (6, .bool t), (5, .int .i64 (i : Int)), (2, .pointer (some ⟨w.heap.size, 0, none⟩)), (1, .slice Am l.length cm)] a) es.length ⟨0, false, by omega, by omega, Below.refl _ _, by simp, hS.only _ ⟨rfl, rfl, rfl, rfl, rfl, trivial⟩⟩ ?_
    clear hS
    rintro mm a wl2 ⟨j, t, hi2, rfl, hBl2, ht, hS⟩
    have hM1 := hM1.below hBl2 hM1.lt
    have hE := hE.kept hBl2
    have hM := hM.kept hBl2
    have hB := Below.refl wl2.heap.size wl2
    have hM1b2 := hM1
    have hMb2 := hM
    refine reg_seq ?_
    refine sI hS (runs_move rfl) fun _ hS => ?_
    refine sI hS (runs_fieldK fo30_1 rfl) fun _ hS => ?_
    refine sI hS (runs_load rfl pl28 (hM1.at rfl)) fun _ hS => ?_
    refine sI hS (runs_len rfl und22) fun _ hS => ?_
    by_cases hlt2 : j < es.length
    · skip
      refine sI hS (lssT rfl rfl (by omega)) fun _ hS => ?_
      refine nil_ok ⟨_, hS.eval rfl, fun h => by simp at h, fun _ => ?_⟩
      obtain ⟨e, hej⟩ : ∃ e, es[j]? = some e := ⟨es[j], by simp [hlt2]⟩
      obtain ⟨b, o, hAe, hbw, hr⟩ := edges_row hE (by omega)
      have hre := edges_at hr hej
      obtain ⟨b2, o2, hAe2, hbw2, hr2⟩ := edges_row hM (by omega)
      have hre2 := edges_at hr2 hmi
      have hany : (es.take (j + 1)).any (fun y => sameE y m) = (((es.take j).any (fun y => sameE y m)) || sameE e m) := any_take _ hej
      refine qx_seq (qx_block (?_))
      cases t with
      | false =>
        by_cases f1 : e.1 = m.1
        · skip
          by_cases f2 : e.2.1 = m.2.1
          · skip
            refine reg_u (fun a b => Below a.heap.size a b) (fun w' => Below wl2.heap.size wl2 w') [.inl (.bool false), .inl (.bool false), .inl (.pointer (some ⟨w.heap.size, 0 + 1, none⟩)), .inl (.slice A es.length c), .inl (.int .i64 (j : Int)), .inl (.pointer (some ⟨b, o + j * 3, none⟩)), .inl (.pointer (some ⟨b, o + j * 3 + 0, none⟩)), .inl (.int .i64 e.1), .inl (.slice Am l.length cm), .inl (.int .i64 (i : Int)), .inl (.pointer (some ⟨b2, o2 + i * 3, none⟩)), .inl (.pointer (some ⟨b2, o2 + i * 3 + 0, none⟩)), .inl (.int .i64 m.1), .inl (.bool true), .inl (.bool true), .inl (.pointer (some ⟨w.heap.size, 0 + 1, none⟩)), .inl (.slice A es.length c), .inl (.int .i64 (j : Int)), .inl (.pointer (some ⟨b, o + j * 3, none⟩)), .inl (.pointer (some ⟨b, o + j * 3 + 1, none⟩)), .inl (.int .i64 e.2.1), .inl (.slice Am l.length cm), .inl (.int .i64 (i : Int)), .inl (.pointer (some ⟨b2, o2 + i * 3, none⟩)), .inl (.pointer (some ⟨b2, o2 + i * 3 + 1, none⟩)), .inl (.int .i64 m.2.1), .inl (.bool true), .inl (.bool true), .inl (.bool true)] 29 1 mixed rfl (by kernel_rfl) hS (Below.refl _ _) (fun _ h => h.drew) ?_
            refine us_is rfl (fun w' hw => runs_move rfl) ?_
            refine us_is rfl (fun w' hw => runs_move rfl) ?_
            refine us_yis rfl rfl (fun w' hw => runs_fieldK fo30_1 rfl) ?_
            refine us_yis rfl rfl (fun w' hw => runs_load rfl pl28 ((hM1.below hw hM1.lt).at rfl)) ?_
            refine us_yis rfl rfl (fun w' hw => runs_move rfl) ?_
            refine us_yis rfl rfl (fun w' hw => runs_indexAddrG (j := j) (by rw [← hAe]; rfl) rfl und22 siz45 rfl hlt2) ?_
            refine us_yis rfl rfl (fun w' hw => runs_fieldK fo54_0 rfl) ?_
            refine us_yis rfl rfl (fun w' hw => runs_load rfl pl3 (range_below hre hw hbw 0 _ rfl)) ?_
            refine us_yis rfl rfl (fun w' hw => runs_move rfl) ?_
            refine us_yis rfl rfl (fun w' hw => runs_move rfl) ?_
            refine us_yis rfl rfl (fun w' hw => runs_indexAddrG (j := i) (by rw [← hAe2]; rfl) rfl und32 sz41 rfl hlt1) ?_
            refine us_yis rfl rfl (fun w' hw => runs_fieldK fo41_0 rfl) ?_
            refine us_yis rfl rfl (fun w' hw => runs_load rfl pl3 (range_below hre2 hw hbw2 0 _ rfl)) ?_
            refine us_yis rfl rfl (fun w' hw => runs_eql (r := true) rfl rfl (by simp [f1])) ?_
            refine us_yis rfl rfl (fun w' hw => runs_move rfl) ?_
            refine us_yis rfl rfl (fun w' hw => runs_fieldK fo30_1 rfl) ?_
            refine us_yis rfl rfl (fun w' hw => runs_load rfl pl28 ((hM1.below hw hM1.lt).at rfl)) ?_
            refine us_yis rfl rfl (fun w' hw => runs_move rfl) ?_
            refine us_yis rfl rfl (fun w' hw => runs_indexAddrG (j := j) (by rw [← hAe]; rfl) rfl und22 siz45 rfl hlt2) ?_
            refine us_yis rfl rfl (fun w' hw => runs_fieldK fo54_1 rfl) ?_
            refine us_yis rfl rfl (fun w' hw => runs_load rfl pl3 (range_below hre hw hbw 1 _ rfl)) ?_
            refine us_yis rfl rfl (fun w' hw => runs_move rfl) ?_
            refine us_yis rfl rfl (fun w' hw => runs_move rfl) ?_
            refine us_yis rfl rfl (fun w' hw => runs_indexAddrG (j := i) (by rw [← hAe2]; rfl) rfl und32 sz41 rfl hlt1) ?_
            refine us_yis rfl rfl (fun w' hw => runs_fieldK fo41_1 rfl) ?_
            refine us_yis rfl rfl (fun w' hw => runs_load rfl pl3 (range_below hre2 hw hbw2 1 _ rfl)) ?_
            refine us_yis rfl rfl (fun w' hw => runs_eql (r := true) rfl rfl (by simp [f2])) ?_
            refine us_yis rfl rfl (fun w' hw => runs_pick rfl rfl) ?_
            refine us_is rfl (fun w' hw => runs_pick rfl rfl) ?_
            refine (fun a5 w5 hS hB5 hq => ?_)
            clear hq
            have hB := hB.trans (hB5.mono hB.size)
            have hM1 := hM1b2.below hB hM1b2.lt
            have hM := hMb2.kept hB
            refine tail_op 29 (by kernel_rfl) rfl hS (by decide) (runs_assign rfl) (fun v7 w7 a7 hp hS => ⟨trivial, ?_⟩)
            obtain ⟨rfl, rfl⟩ := hp
            refine wpAnyH_done (by kernel_rfl) ?_ _
            refine reg_seq ?_
            refine sI hS (runs_move rfl) fun _ hS => ?_
            refine sI hS (runs_add (r := ((j + 1 : Nat) : Int)) rfl rfl (by simp [IntKind.wrap, IntKind.bits, IntKind.signed]; omega)) fun _ hS => ?_
            refine sI hS (runs_assign rfl) fun _ hS => ?_
            exact nil_ok ⟨_, by omega, j + 1, true, by omega, rfl, hBl2.trans (hB.mono hBl2.size), by rw [hany, ← ht]; simp [sameE, f1, f2], hS.only _ ⟨rfl, rfl, rfl, rfl, rfl, trivial⟩⟩
          · skip
            refine reg_u (fun a b => Below a.heap.size a b) (fun w' => Below wl2.heap.size wl2 w') [.inl (.bool false), .inl (.bool false), .inl (.pointer (some ⟨w.heap.size, 0 + 1, none⟩)), .inl (.slice A es.length c), .inl (.int .i64 (j : Int)), .inl (.pointer (some ⟨b, o + j * 3, none⟩)), .inl (.pointer (some ⟨b, o + j * 3 + 0, none⟩)), .inl (.int .i64 e.1), .inl (.slice Am l.length cm), .inl (.int .i64 (i : Int)), .inl (.pointer (some ⟨b2, o2 + i * 3, none⟩)), .inl (.pointer (some ⟨b2, o2 + i * 3 + 0, none⟩)), .inl (.int .i64 m.1), .inl (.bool true), .inl (.bool true), .inl (.pointer (some ⟨w.heap.size, 0 + 1, none⟩)), .inl (.slice A es.length c), .inl (.int .i64 (j : Int)), .inl (.pointer (some ⟨b, o + j * 3, none⟩)), .inl (.pointer (some ⟨b, o + j * 3 + 1, none⟩)), .inl (.int .i64 e.2.1), .inl (.slice Am l.length cm), .inl (.int .i64 (i : Int)), .inl (.pointer (some ⟨b2, o2 + i * 3, none⟩)), .inl (.pointer (some ⟨b2, o2 + i * 3 + 1, none⟩)), .inl (.int .i64 m.2.1), .inl (.bool false), .inl (.bool false), .inl (.bool false)] 29 1 mixed rfl (by kernel_rfl) hS (Below.refl _ _) (fun _ h => h.drew) ?_
            refine us_is rfl (fun w' hw => runs_move rfl) ?_
            refine us_is rfl (fun w' hw => runs_move rfl) ?_
            refine us_yis rfl rfl (fun w' hw => runs_fieldK fo30_1 rfl) ?_
            refine us_yis rfl rfl (fun w' hw => runs_load rfl pl28 ((hM1.below hw hM1.lt).at rfl)) ?_
            refine us_yis rfl rfl (fun w' hw => runs_move rfl) ?_
            refine us_yis rfl rfl (fun w' hw => runs_indexAddrG (j := j) (by rw [← hAe]; rfl) rfl und22 siz45 rfl hlt2) ?_
            refine us_yis rfl rfl (fun w' hw => runs_fieldK fo54_0 rfl) ?_
            refine us_yis rfl rfl (fun w' hw => runs_load rfl pl3 (range_below hre hw hbw 0 _ rfl)) ?_
            refine us_yis rfl rfl (fun w' hw => runs_move rfl) ?_
            refine us_yis rfl rfl (fun w' hw => runs_move rfl) ?_
            refine us_yis rfl rfl (fun w' hw => runs_indexAddrG (j := i) (by rw [← hAe2]; rfl) rfl und32 sz41 rfl hlt1) ?_
            refine us_yis rfl rfl (fun w' hw => runs_fieldK fo41_0 rfl) ?_
            refine us_yis rfl rfl (fun w' hw => runs_load rfl pl3 (range_below hre2 hw hbw2 0 _ rfl)) ?_
            refine us_yis rfl rfl (fun w' hw => runs_eql (r := true) rfl rfl (by simp [f1])) ?_
            refine us_yis rfl rfl (fun w' hw => runs_move rfl) ?_
            refine us_yis rfl rfl (fun w' hw => runs_fieldK fo30_1 rfl) ?_
            refine us_yis rfl rfl (fun w' hw => runs_load rfl pl28 ((hM1.below hw hM1.lt).at rfl)) ?_
            refine us_yis rfl rfl (fun w' hw => runs_move rfl) ?_
            refine us_yis rfl rfl (fun w' hw => runs_indexAddrG (j := j) (by rw [← hAe]; rfl) rfl und22 siz45 rfl hlt2) ?_
            refine us_yis rfl rfl (fun w' hw => runs_fieldK fo54_1 rfl) ?_
            refine us_yis rfl rfl (fun w' hw => runs_load rfl pl3 (range_below hre hw hbw 1 _ rfl)) ?_
            refine us_yis rfl rfl (fun w' hw => runs_move rfl) ?_
            refine us_yis rfl rfl (fun w' hw => runs_move rfl) ?_
            refine us_yis rfl rfl (fun w' hw => runs_indexAddrG (j := i) (by rw [← hAe2]; rfl) rfl und32 sz41 rfl hlt1) ?_
            refine us_yis rfl rfl (fun w' hw => runs_fieldK fo41_1 rfl) ?_
            refine us_yis rfl rfl (fun w' hw => runs_load rfl pl3 (range_below hre2 hw hbw2 1 _ rfl)) ?_
            refine us_yis rfl rfl (fun w' hw => runs_eql (r := false) rfl rfl (by simp [f2])) ?_
            refine us_yis rfl rfl (fun w' hw => runs_pick rfl rfl) ?_
            refine us_is rfl (fun w' hw => runs_pick rfl rfl) ?_
            refine (fun a8 w8 hS hB8 hq => ?_)
            clear hq
            have hB := hB.trans (hB8.mono hB.size)
            have hM1 := hM1b2.below hB hM1b2.lt
            have hM := hMb2.kept hB
            refine tail_op 29 (by kernel_rfl) rfl hS (by decide) (runs_assign rfl) (fun v10 w10 a10 hp hS => ⟨trivial, ?_⟩)
            obtain ⟨rfl, rfl⟩ := hp
            refine wpAnyH_done (by kernel_rfl) ?_ _
            refine reg_seq ?_
            refine sI hS (runs_move rfl) fun _ hS => ?_
            refine sI hS (runs_add (r := ((j + 1 : Nat) : Int)) rfl rfl (by simp [IntKind.wrap, IntKind.bits, IntKind.signed]; omega)) fun _ hS => ?_
            refine sI hS (runs_assign rfl) fun _ hS => ?_
            exact nil_ok ⟨_, by omega, j + 1, false, by omega, rfl, hBl2.trans (hB.mono hBl2.size), by rw [hany, ← ht]; simp [sameE, f1, f2], hS.only _ ⟨rfl, rfl, rfl, rfl, rfl, trivial⟩⟩
        · skip
          refine reg_u (fun a b => Below a.heap.size a b) (fun w' => Below wl2.heap.size wl2 w') [.inl (.bool false), .inl (.bool false), .inl (.pointer (some ⟨w.heap.size, 0 + 1, none⟩)), .inl (.slice A es.length c), .inl (.int .i64 (j : Int)), .inl (.pointer (some ⟨b, o + j * 3, none⟩)), .inl (.pointer (some ⟨b, o + j * 3 + 0, none⟩)), .inl (.int .i64 e.1), .inl (.slice Am l.length cm), .inl (.int .i64 (i : Int)), .inl (.pointer (some ⟨b2, o2 + i * 3, none⟩)), .inl (.pointer (some ⟨b2, o2 + i * 3 + 0, none⟩)), .inl (.int .i64 m.1), .inl (.bool false), .inl (.bool false), .inl undef, .inl undef, .inl undef, .inl undef, .inl undef, .inl undef, .inl undef, .inl undef, .inl undef, .inl undef, .inl undef, .inl undef, .inl (.bool false), .inl (.bool false)] 29 1 mixed rfl (by kernel_rfl) hS (Below.refl _ _) (fun _ h => h.drew) ?_
          refine us_is rfl (fun w' hw => runs_move rfl) ?_
          refine us_is rfl (fun w' hw => runs_move rfl) ?_
          refine us_yis rfl rfl (fun w' hw => runs_fieldK fo30_1 rfl) ?_
          refine us_yis rfl rfl (fun w' hw => runs_load rfl pl28 ((hM1.below hw hM1.lt).at rfl)) ?_
          refine us_yis rfl rfl (fun w' hw => runs_move rfl) ?_
          refine us_yis rfl rfl (fun w' hw => runs_indexAddrG (j := j) (by rw [← hAe]; rfl) rfl und22 siz45 rfl hlt2) ?_
          refine us_yis rfl rfl (fun w' hw => runs_fieldK fo54_0 rfl) ?_
          refine us_yis rfl rfl (fun w' hw => runs_load rfl pl3 (range_below hre hw hbw 0 _ rfl)) ?_
          refine us_yis rfl rfl (fun w' hw => runs_move rfl) ?_
          refine us_yis rfl rfl (fun w' hw => runs_move rfl) ?_
          refine us_yis rfl rfl (fun w' hw => runs_indexAddrG (j := i) (by rw [← hAe2]; rfl) rfl und32 sz41 rfl hlt1) ?_
          refine us_yis rfl rfl (fun w' hw => runs_fieldK fo41_0 rfl) ?_
          refine us_yis rfl rfl (fun w' hw => runs_load rfl pl3 (range_below hre2 hw hbw2 0 _ rfl)) ?_
          refine us_yis rfl rfl (fun w' hw => runs_eql (r := false) rfl rfl (by simp [f1])) ?_
          refine us_yis rfl rfl (fun w' hw => runs_move rfl) ?_
          refine us_no rfl rfl rfl ?_
          refine us_no rfl rfl rfl ?_
          refine us_no rfl rfl rfl ?_
          refine us_no rfl rfl rfl ?_
          refine us_no rfl rfl rfl ?_
          refine us_no rfl rfl rfl ?_
          refine us_no rfl rfl rfl ?_
          refine us_no rfl rfl rfl ?_
          refine us_no rfl rfl rfl ?_
          refine us_no rfl rfl rfl ?_
          refine us_no rfl rfl rfl ?_
          refine us_no rfl rfl rfl ?_
          refine us_yis rfl rfl (fun w' hw => runs_pick rfl rfl) ?_
          refine us_is rfl (fun w' hw => runs_pick rfl rfl) ?_
          refine (fun a11 w11 hS hB11 hq => ?_)
          clear hq
          have hB := hB.trans (hB11.mono hB.size)
          have hM := hMb2.kept hB
          refine tail_op 29 (by kernel_rfl) rfl hS (by decide) (runs_assign rfl) (fun v13 w13 a13 hp hS => ⟨trivial, ?_⟩)
          obtain ⟨rfl, rfl⟩ := hp
          refine wpAnyH_done (by kernel_rfl) ?_ _
          refine reg_seq ?_
          refine sI hS (runs_move rfl) fun _ hS => ?_
          refine sI hS (runs_add (r := ((j + 1 : Nat) : Int)) rfl rfl (by simp [IntKind.wrap, IntKind.bits, IntKind.signed]; omega)) fun _ hS => ?_
          refine sI hS (runs_assign rfl) fun _ hS => ?_
          exact nil_ok ⟨_, by omega, j + 1, false, by omega, rfl, hBl2.trans (hB.mono hBl2.size), by rw [hany, ← ht]; simp [sameE, f1], hS.only _ ⟨rfl, rfl, rfl, rfl, rfl, trivial⟩⟩
      | true =>
        refine reg_u (fun a b => Below a.heap.size a b) (fun w' => Below wl2.heap.size wl2 w') [.inl (.bool true), .inl (.bool true), .inl undef, .inl undef, .inl undef, .inl undef, .inl undef, .inl undef, .inl undef, .inl undef, .inl undef, .inl undef, .inl undef, .inl undef, .inl undef, .inl undef, .inl undef, .inl undef, .inl undef, .inl undef, .inl undef, .inl undef, .inl undef, .inl undef, .inl undef, .inl undef, .inl undef, .inl undef, .inl (.bool true)] 29 1 mixed rfl (by kernel_rfl) hS (Below.refl _ _) (fun _ h => h.drew) ?_
        refine us_is rfl (fun w' hw => runs_move rfl) ?_
        refine us_is rfl (fun w' hw => runs_move rfl) ?_
        refine us_no rfl rfl rfl ?_
        refine us_no rfl rfl rfl ?_
        refine us_no rfl rfl rfl ?_
        refine us_no rfl rfl rfl ?_
        refine us_no rfl rfl rfl ?_
        refine us_no rfl rfl rfl ?_
        refine us_no rfl rfl rfl ?_
        refine us_no rfl rfl rfl ?_
        refine us_no rfl rfl rfl ?_
        refine us_no rfl rfl rfl ?_
        refine us_no rfl rfl rfl ?_
        refine us_no rfl rfl rfl ?_
        refine us_no rfl rfl rfl ?_
        refine us_un rfl rfl ?_
        refine us_un rfl rfl ?_
        refine us_un rfl rfl ?_
        refine us_un rfl rfl ?_
        refine us_un rfl rfl ?_
        refine us_un rfl rfl ?_
        refine us_un rfl rfl ?_
        refine us_un rfl rfl ?_
        refine us_un rfl rfl ?_
        refine us_un rfl rfl ?_
        refine us_un rfl rfl ?_
        refine us_un rfl rfl ?_
        refine us_no rfl rfl rfl ?_
        refine us_is rfl (fun w' hw => runs_pick rfl rfl) ?_
        refine (fun a14 w14 hS hB14 hq => ?_)
        clear hq
        have hB := hB.trans (hB14.mono hB.size)
        have hM := hMb2.kept hB
        refine tail_op 29 (by kernel_rfl) rfl hS (by decide) (runs_assign rfl) (fun v16 w16 a16 hp hS => ⟨trivial, ?_⟩)
        obtain ⟨rfl, rfl⟩ := hp
        refine wpAnyH_done (by kernel_rfl) ?_ _
        refine reg_seq ?_
        refine sI hS (runs_move rfl) fun _ hS => ?_
        refine sI hS (runs_add (r := ((j + 1 : Nat) : Int)) rfl rfl (by simp [IntKind.wrap, IntKind.bits, IntKind.signed]; omega)) fun _ hS => ?_
        refine sI hS (runs_assign rfl) fun _ hS => ?_
        exact nil_ok ⟨_, by omega, j + 1, true, by omega, rfl, hBl2.trans (hB.mono hBl2.size), by rw [hany, ← ht]; rfl, hS.only _ ⟨rfl, rfl, rfl, rfl, rfl, trivial⟩⟩
    refine sI hS (lssF rfl rfl (by omega)) fun _ hS => ?_
    obtain rfl : j = es.length := by omega
    refine nil_ok ⟨_, hS.eval rfl, fun _ => ?_, fun h => by simp at h⟩
    have hB := hBo2.trans ((hBl2.trans (hB.mono hBl2.size)).mono hBo2.size)
    rw [List.take_length] at ht
    subst ht
    refine qx_seq (qx_seq (reg_seq ?_))
    refine sI hS (runs_assign rfl) fun _ hS => ?_
    refine nil_ok (?_)
    have hBo2 := hB
    refine qx_for (fun mm a w' => ∃ (j : Nat) (t : Bool), j ≤ i ∧ mm = i - j ∧ Below wl2.heap.size wl2 w' ∧ t = ((es.any (fun y => sameE y m)) && (l.take j).all (fun y => !sameE y m)) ∧ Sees 96 [(8, .int .i64 (j : Int)), (6, .bool t), (5, .int .i64 (i : Int)), (2, .pointer (some ⟨w.heap.size, 0, none⟩)), (1, .slice Am l.length cm)] a) i ⟨0, (es.any (fun y => sameE y m)), by omega, by omega, Below.refl _ _, by simp, hS.only _ ⟨rfl, rfl, rfl, rfl, rfl, trivial⟩⟩ ?_
    clear hS
    rintro mm a wl2 ⟨j, t, hi2, rfl, hBl2, ht, hS⟩
    have hM := hM.kept hBl2
    have hB := Below.refl wl2.heap.size wl2
    have hMb2 := hM
    refine reg_seq ?_
    refine sI hS (runs_move rfl) fun _ hS => ?_
    refine sI hS (runs_move rfl) fun _ hS => ?_
    by_cases hlt2 : j < i
    · skip
      refine sI hS (lssT rfl rfl (by omega)) fun _ hS => ?_
      refine nil_ok ⟨_, hS.eval rfl, fun h => by simp at h, fun _ => ?_⟩
      obtain ⟨e, hej⟩ : ∃ e, l[j]? = some e := ⟨_, List.getElem?_eq_getElem (by omega)⟩
      obtain ⟨b2, o2, hAe2, hbw2, hr2⟩ := edges_row hM (by omega)
      have hre := edges_at hr2 hej
      have hre2 := edges_at hr2 hmi
      have hall : (l.take (j + 1)).all (fun y => !sameE y m) = ((l.take j).all (fun y => !sameE y m) && !sameE e m) := by rw [List.take_add_one, hej, Option.toList_some, List.all_append]; simp
      refine qx_seq (qx_block (?_))
      cases t with
      | false =>
        refine reg_u (fun a b => Below a.heap.size a b) (fun w' => Below wl2.heap.size wl2 w') [.inl (.bool false), .inl (.bool false), .inl undef, .inl undef, .inl undef, .inl undef, .inl undef, .inl undef, .inl undef, .inl undef, .inl undef, .inl undef, .inl undef, .inl undef, .inl undef, .inl undef, .inl undef, .inl undef, .inl undef, .inl undef, .inl undef, .inl undef, .inl undef, .inl undef, .inl undef, .inl undef, .inl (.bool false)] 27 1 mixed rfl (by kernel_rfl) hS (Below.refl _ _) (fun _ h => h.drew) ?_
        refine us_is rfl (fun w' hw => runs_move rfl) ?_
        refine us_is rfl (fun w' hw => runs_move rfl) ?_
        refine us_no rfl rfl rfl ?_
        refine us_no rfl rfl rfl ?_
        refine us_no rfl rfl rfl ?_
        refine us_no rfl rfl rfl ?_
        refine us_no rfl rfl rfl ?_
        refine us_no rfl rfl rfl ?_
        refine us_no rfl rfl rfl ?_
        refine us_no rfl rfl rfl ?_
        refine us_no rfl rfl rfl ?_
        refine us_no rfl rfl rfl ?_
        refine us_no rfl rfl rfl ?_
        refine us_no rfl rfl rfl ?_
        refine us_un rfl rfl ?_
        refine us_un rfl rfl ?_
        refine us_un rfl rfl ?_
        refine us_un rfl rfl ?_
        refine us_un rfl rfl ?_
        refine us_un rfl rfl ?_
        refine us_un rfl rfl ?_
        refine us_un rfl rfl ?_
        refine us_un rfl rfl ?_
        refine us_un rfl rfl ?_
        refine us_un rfl rfl ?_
        refine us_no rfl rfl rfl ?_
        refine us_is rfl (fun w' hw => runs_pick rfl rfl) ?_
        refine (fun a17 w17 hS hB17 hq => ?_)
        clear hq
        have hB := hB.trans (hB17.mono hB.size)
        have hM := hMb2.kept hB
        refine tail_op 27 (by kernel_rfl) rfl hS (by decide) (runs_assign rfl) (fun v19 w19 a19 hp hS => ⟨trivial, ?_⟩)
        obtain ⟨rfl, rfl⟩ := hp
        refine wpAnyH_done (by kernel_rfl) ?_ _
        refine reg_seq ?_
        refine sI hS (runs_move rfl) fun _ hS => ?_
        refine sI hS (runs_add (r := ((j + 1 : Nat) : Int)) rfl rfl (by simp [IntKind.wrap, IntKind.bits, IntKind.signed]; omega)) fun _ hS => ?_
        refine sI hS (runs_assign rfl) fun _ hS => ?_
        exact nil_ok ⟨_, by omega, j + 1, false, by omega, rfl, hBl2.trans (hB.mono hBl2.size), by rw [hall, ← Bool.and_assoc, ← ht]; rfl, hS.only _ ⟨rfl, rfl, rfl, rfl, rfl, trivial⟩⟩
      | true =>
        by_cases f1 : e.1 = m.1
        · skip
          by_cases f2 : e.2.1 = m.2.1
          · skip
            refine reg_u (fun a b => Below a.heap.size a b) (fun w' => Below wl2.heap.size wl2 w') [.inl (.bool true), .inl (.bool true), .inl (.slice Am l.length cm), .inl (.int .i64 (j : Int)), .inl (.pointer (some ⟨b2, o2 + j * 3, none⟩)), .inl (.pointer (some ⟨b2, o2 + j * 3 + 0, none⟩)), .inl (.int .i64 e.1), .inl (.slice Am l.length cm), .inl (.int .i64 (i : Int)), .inl (.pointer (some ⟨b2, o2 + i * 3, none⟩)), .inl (.pointer (some ⟨b2, o2 + i * 3 + 0, none⟩)), .inl (.int .i64 m.1), .inl (.bool false), .inl (.bool false), .inl (.slice Am l.length cm), .inl (.int .i64 (j : Int)), .inl (.pointer (some ⟨b2, o2 + j * 3, none⟩)), .inl (.pointer (some ⟨b2, o2 + j * 3 + 1, none⟩)), .inl (.int .i64 e.2.1), .inl (.slice Am l.length cm), .inl (.int .i64 (i : Int)), .inl (.pointer (some ⟨b2, o2 + i * 3, none⟩)), .inl (.pointer (some ⟨b2, o2 + i * 3 + 1, none⟩)), .inl (.int .i64 m.2.1), .inl (.bool false), .inl (.bool false), .inl (.bool false)] 27 1 mixed rfl (by kernel_rfl) hS (Below.refl _ _) (fun _ h => h.drew) ?_
            refine us_is rfl (fun w' hw => runs_move rfl) ?_
            refine us_is rfl (fun w' hw => runs_move rfl) ?_
            refine us_yis rfl rfl (fun w' hw => runs_move rfl) ?_
            refine us_yis rfl rfl (fun w' hw => runs_move rfl) ?_
            refine us_yis rfl rfl (fun w' hw => runs_indexAddrG (j := j) (by rw [← hAe2]; rfl) rfl und32 sz41 rfl (by omega)) ?_
            refine us_yis rfl rfl (fun w' hw => runs_fieldK fo41_0 rfl) ?_
            refine us_yis rfl rfl (fun w' hw => runs_load rfl pl3 (range_below hre hw hbw2 0 _ rfl)) ?_
            refine us_yis rfl rfl (fun w' hw => runs_move rfl) ?_
            refine us_yis rfl rfl (fun w' hw => runs_move rfl) ?_
            refine us_yis rfl rfl (fun w' hw => runs_indexAddrG (j := i) (by rw [← hAe2]; rfl) rfl und32 sz41 rfl hlt1) ?_
            refine us_yis rfl rfl (fun w' hw => runs_fieldK fo41_0 rfl) ?_
            refine us_yis rfl rfl (fun w' hw => runs_load rfl pl3 (range_below hre2 hw hbw2 0 _ rfl)) ?_
            refine us_yis rfl rfl (fun w' hw => runs_neq (r := false) rfl rfl (by simp [f1])) ?_
            refine us_yis rfl rfl (fun w' hw => runs_move rfl) ?_
            refine us_yis rfl rfl (fun w' hw => runs_move rfl) ?_
            refine us_yis rfl rfl (fun w' hw => runs_move rfl) ?_
            refine us_yis rfl rfl (fun w' hw => runs_indexAddrG (j := j) (by rw [← hAe2]; rfl) rfl und32 sz41 rfl (by omega)) ?_
            refine us_yis rfl rfl (fun w' hw => runs_fieldK fo41_1 rfl) ?_
            refine us_yis rfl rfl (fun w' hw => runs_load rfl pl3 (range_below hre hw hbw2 1 _ rfl)) ?_
            refine us_yis rfl rfl (fun w' hw => runs_move rfl) ?_
            refine us_yis rfl rfl (fun w' hw => runs_move rfl) ?_
            refine us_yis rfl rfl (fun w' hw => runs_indexAddrG (j := i) (by rw [← hAe2]; rfl) rfl und32 sz41 rfl hlt1) ?_
            refine us_yis rfl rfl (fun w' hw => runs_fieldK fo41_1 rfl) ?_
            refine us_yis rfl rfl (fun w' hw => runs_load rfl pl3 (range_below hre2 hw hbw2 1 _ rfl)) ?_
            refine us_yis rfl rfl (fun w' hw => runs_neq (r := false) rfl rfl (by simp [f2])) ?_
            refine us_yis rfl rfl (fun w' hw => runs_pick rfl rfl) ?_
            refine us_is rfl (fun w' hw => runs_pick rfl rfl) ?_
            refine (fun a20 w20 hS hB20 hq => ?_)
            clear hq
            have hB := hB.trans (hB20.mono hB.size)
            have hM := hMb2.kept hB
            refine tail_op 27 (by kernel_rfl) rfl hS (by decide) (runs_assign rfl) (fun v22 w22 a22 hp hS => ⟨trivial, ?_⟩)
            obtain ⟨rfl, rfl⟩ := hp
            refine wpAnyH_done (by kernel_rfl) ?_ _
            refine reg_seq ?_
            refine sI hS (runs_move rfl) fun _ hS => ?_
            refine sI hS (runs_add (r := ((j + 1 : Nat) : Int)) rfl rfl (by simp [IntKind.wrap, IntKind.bits, IntKind.signed]; omega)) fun _ hS => ?_
            refine sI hS (runs_assign rfl) fun _ hS => ?_
            exact nil_ok ⟨_, by omega, j + 1, false, by omega, rfl, hBl2.trans (hB.mono hBl2.size), by rw [hall, ← Bool.and_assoc, ← ht]; simp [sameE, f1, f2], hS.only _ ⟨rfl, rfl, rfl, rfl, rfl, trivial⟩⟩
          · skip
            refine reg_u (fun a b => Below a.heap.size a b) (fun w' => Below wl2.heap.size wl2 w') [.inl (.bool true), .inl (.bool true), .inl (.slice Am l.length cm), .inl (.int .i64 (j : Int)), .inl (.pointer (some ⟨b2, o2 + j * 3, none⟩)), .inl (.pointer (some ⟨b2, o2 + j * 3 + 0, none⟩)), .inl (.int .i64 e.1), .inl (.slice Am l.length cm), .inl (.int .i64 (i : Int)), .inl (.pointer (some ⟨b2, o2 + i * 3, none⟩)), .inl (.pointer (some ⟨b2, o2 + i * 3 + 0, none⟩)), .inl (.int .i64 m.1), .inl (.bool false), .inl (.bool false), .inl (.slice Am l.length cm), .inl (.int .i64 (j : Int)), .inl (.pointer (some ⟨b2, o2 + j * 3, none⟩)), .inl (.pointer (some ⟨b2, o2 + j * 3 + 1, none⟩)), .inl (.int .i64 e.2.1), .inl (.slice Am l.length cm), .inl (.int .i64 (i : Int)), .inl (.pointer (some ⟨b2, o2 + i * 3, none⟩)), .inl (.pointer (some ⟨b2, o2 + i * 3 + 1, none⟩)), .inl (.int .i64 m.2.1), .inl (.bool true), .inl (.bool true), .inl (.bool true)] 27 1 mixed rfl (by kernel_rfl) hS (Below.refl _ _) (fun _ h => h.drew) ?_
            refine us_is rfl (fun w' hw => runs_move rfl) ?_
            refine us_is rfl (fun w' hw => runs_move rfl) ?_
            refine us_yis rfl rfl (fun w' hw => runs_move rfl) ?_
            refine us_yis rfl rfl (fun w' hw => runs_move rfl) ?_
            refine us_yis rfl rfl (fun w' hw => runs_indexAddrG (j := j) (by rw [← hAe2]; rfl) rfl und32 sz41 rfl (by omega)) ?_
            refine us_yis rfl rfl (fun w' hw => runs_fieldK fo41_0 rfl) ?_
            refine us_yis rfl rfl (fun w' hw => runs_load rfl pl3 (range_below hre hw hbw2 0 _ rfl)) ?_
            refine us_yis rfl rfl (fun w' hw => runs_move rfl) ?_
            refine us_yis rfl rfl (fun w' hw => runs_move rfl) ?_
            refine us_yis rfl rfl (fun w' hw => runs_indexAddrG (j := i) (by rw [← hAe2]; rfl) rfl und32 sz41 rfl hlt1) ?_
            refine us_yis rfl rfl (fun w' hw => runs_fieldK fo41_0 rfl) ?_
            refine us_yis rfl rfl (fun w' hw => runs_load rfl pl3 (range_below hre2 hw hbw2 0 _ rfl)) ?_
            refine us_yis rfl rfl (fun w' hw => runs_neq (r := false) rfl rfl (by simp [f1])) ?_
            refine us_yis rfl rfl (fun w' hw => runs_move rfl) ?_
            refine us_yis rfl rfl (fun w' hw => runs_move rfl) ?_
            refine us_yis rfl rfl (fun w' hw => runs_move rfl) ?_
            refine us_yis rfl rfl (fun w' hw => runs_indexAddrG (j := j) (by rw [← hAe2]; rfl) rfl und32 sz41 rfl (by omega)) ?_
            refine us_yis rfl rfl (fun w' hw => runs_fieldK fo41_1 rfl) ?_
            refine us_yis rfl rfl (fun w' hw => runs_load rfl pl3 (range_below hre hw hbw2 1 _ rfl)) ?_
            refine us_yis rfl rfl (fun w' hw => runs_move rfl) ?_
            refine us_yis rfl rfl (fun w' hw => runs_move rfl) ?_
            refine us_yis rfl rfl (fun w' hw => runs_indexAddrG (j := i) (by rw [← hAe2]; rfl) rfl und32 sz41 rfl hlt1) ?_
            refine us_yis rfl rfl (fun w' hw => runs_fieldK fo41_1 rfl) ?_
            refine us_yis rfl rfl (fun w' hw => runs_load rfl pl3 (range_below hre2 hw hbw2 1 _ rfl)) ?_
            refine us_yis rfl rfl (fun w' hw => runs_neq (r := true) rfl rfl (by simp [f2])) ?_
            refine us_yis rfl rfl (fun w' hw => runs_pick rfl rfl) ?_
            refine us_is rfl (fun w' hw => runs_pick rfl rfl) ?_
            refine (fun a23 w23 hS hB23 hq => ?_)
            clear hq
            have hB := hB.trans (hB23.mono hB.size)
            have hM := hMb2.kept hB
            refine tail_op 27 (by kernel_rfl) rfl hS (by decide) (runs_assign rfl) (fun v25 w25 a25 hp hS => ⟨trivial, ?_⟩)
            obtain ⟨rfl, rfl⟩ := hp
            refine wpAnyH_done (by kernel_rfl) ?_ _
            refine reg_seq ?_
            refine sI hS (runs_move rfl) fun _ hS => ?_
            refine sI hS (runs_add (r := ((j + 1 : Nat) : Int)) rfl rfl (by simp [IntKind.wrap, IntKind.bits, IntKind.signed]; omega)) fun _ hS => ?_
            refine sI hS (runs_assign rfl) fun _ hS => ?_
            exact nil_ok ⟨_, by omega, j + 1, true, by omega, rfl, hBl2.trans (hB.mono hBl2.size), by rw [hall, ← Bool.and_assoc, ← ht]; simp [sameE, f1, f2], hS.only _ ⟨rfl, rfl, rfl, rfl, rfl, trivial⟩⟩
        · skip
          refine reg_u (fun a b => Below a.heap.size a b) (fun w' => Below wl2.heap.size wl2 w') [.inl (.bool true), .inl (.bool true), .inl (.slice Am l.length cm), .inl (.int .i64 (j : Int)), .inl (.pointer (some ⟨b2, o2 + j * 3, none⟩)), .inl (.pointer (some ⟨b2, o2 + j * 3 + 0, none⟩)), .inl (.int .i64 e.1), .inl (.slice Am l.length cm), .inl (.int .i64 (i : Int)), .inl (.pointer (some ⟨b2, o2 + i * 3, none⟩)), .inl (.pointer (some ⟨b2, o2 + i * 3 + 0, none⟩)), .inl (.int .i64 m.1), .inl (.bool true), .inl (.bool true), .inl undef, .inl undef, .inl undef, .inl undef, .inl undef, .inl undef, .inl undef, .inl undef, .inl undef, .inl undef, .inl undef, .inl (.bool true), .inl (.bool true)] 27 1 mixed rfl (by kernel_rfl) hS (Below.refl _ _) (fun _ h => h.drew) ?_
          refine us_is rfl (fun w' hw => runs_move rfl) ?_
          refine us_is rfl (fun w' hw => runs_move rfl) ?_
          refine us_yis rfl rfl (fun w' hw => runs_move rfl) ?_
          refine us_yis rfl rfl (fun w' hw => runs_move rfl) ?_
          refine us_yis rfl rfl (fun w' hw => runs_indexAddrG (j := j) (by rw [← hAe2]; rfl) rfl und32 sz41 rfl (by omega)) ?_
          refine us_yis rfl rfl (fun w' hw => runs_fieldK fo41_0 rfl) ?_
          refine us_yis rfl rfl (fun w' hw => runs_load rfl pl3 (range_below hre hw hbw2 0 _ rfl)) ?_
          refine us_yis rfl rfl (fun w' hw => runs_move rfl) ?_
          refine us_yis rfl rfl (fun w' hw => runs_move rfl) ?_
          refine us_yis rfl rfl (fun w' hw => runs_indexAddrG (j := i) (by rw [← hAe2]; rfl) rfl und32 sz41 rfl hlt1) ?_
          refine us_yis rfl rfl (fun w' hw => runs_fieldK fo41_0 rfl) ?_
          refine us_yis rfl rfl (fun w' hw => runs_load rfl pl3 (range_below hre2 hw hbw2 0 _ rfl)) ?_
          refine us_yis rfl rfl (fun w' hw => runs_neq (r := true) rfl rfl (by simp [f1])) ?_
          refine us_yis rfl rfl (fun w' hw => runs_move rfl) ?_
          refine us_no rfl rfl rfl ?_
          refine us_no rfl rfl rfl ?_
          refine us_no rfl rfl rfl ?_
          refine us_no rfl rfl rfl ?_
          refine us_no rfl rfl rfl ?_
          refine us_no rfl rfl rfl ?_
          refine us_no rfl rfl rfl ?_
          refine us_no rfl rfl rfl ?_
          refine us_no rfl rfl rfl ?_
          refine us_no rfl rfl rfl ?_
          refine us_no rfl rfl rfl ?_
          refine us_yis rfl rfl (fun w' hw => runs_pick rfl rfl) ?_
          refine us_is rfl (fun w' hw => runs_pick rfl rfl) ?_
          refine (fun a26 w26 hS hB26 hq => ?_)
          clear hq
          have hB := hB.trans (hB26.mono hB.size)
          have hM := hMb2.kept hB
          refine tail_op 27 (by kernel_rfl) rfl hS (by decide) (runs_assign rfl) (fun v28 w28 a28 hp hS => ⟨trivial, ?_⟩)
          obtain ⟨rfl, rfl⟩ := hp
          refine wpAnyH_done (by kernel_rfl) ?_ _
          refine reg_seq ?_
          refine sI hS (runs_move rfl) fun _ hS => ?_
          refine sI hS (runs_add (r := ((j + 1 : Nat) : Int)) rfl rfl (by simp [IntKind.wrap, IntKind.bits, IntKind.signed]; omega)) fun _ hS => ?_
          refine sI hS (runs_assign rfl) fun _ hS => ?_
          exact nil_ok ⟨_, by omega, j + 1, true, by omega, rfl, hBl2.trans (hB.mono hBl2.size), by rw [hall, ← Bool.and_assoc, ← ht]; simp [sameE, f1], hS.only _ ⟨rfl, rfl, rfl, rfl, rfl, trivial⟩⟩
    refine sI hS (lssF rfl rfl (by omega)) fun _ hS => ?_
    obtain rfl : i = j := by omega
    refine nil_ok ⟨_, hS.eval rfl, fun _ => ?_, fun h => by simp at h⟩
    have hB := hBo2.trans ((hBl2.trans (hB.mono hBl2.size)).mono hBo2.size)
    refine qx_seq (?_)
    obtain ⟨b, o, hAe, hbw, hr⟩ := edges_row hM (by omega)
    have hrm := edges_at hr hmi
    cases t with
    | false =>
      refine reg_seq ?_
      refine sI hS (runs_move rfl) fun _ hS => ?_
      refine sI hS (runs_not (b := false) rfl) fun _ hS => ?_
      refine sI hS (runs_move rfl) fun _ hS => ?_
      refine sN hS fun _ hS => ?_
      refine sN hS fun _ hS => ?_
      refine sN hS fun _ hS => ?_
      refine sN hS fun _ hS => ?_
      refine sN hS fun _ hS => ?_
      refine sN hS fun _ hS => ?_
      refine sI hS (runs_pick rfl rfl) fun _ hS => ?_
      refine nil_ok (wp_cond_true (hS.eval rfl) (qx_seq (reg_seq ?_)))
      refine sI hS (runs_assign rfl) fun _ hS => ?_
      have hbad : goodM es (l.take i) m = false := by unfold goodM; rw [← ht]; rfl
      have hfin : sentB n es l = false := by unfold sentB; rw [hsd, hstep, hbad]; simp
      exact nil_ok (qx_ret (ret1 (t := 4) (by kernel_rfl) hS rfl ⟨_, rfl, by rw [hfin], hBo1.trans ((hBl1.trans ((hB).mono hBl1.size)).mono hBo1.size)⟩))
    | true =>
      refine reg_seq ?_
      refine sI hS (runs_move rfl) fun _ hS => ?_
      refine sI hS (runs_not (b := true) rfl) fun _ hS => ?_
      refine sI hS (runs_move rfl) fun _ hS => ?_
      refine sY hS (runs_move rfl) fun _ hS => ?_
      refine sY hS (runs_move rfl) fun _ hS => ?_
      refine sY hS (runs_indexAddrG (j := i) (by rw [← hAe]; rfl) rfl und32 sz41 rfl hlt1) fun _ hS => ?_
      refine sY hS (runs_fieldK fo41_2 rfl) fun _ hS => ?_
      refine sY hS (runs_load rfl pl2 (hrm 2 _ rfl)) fun _ hS => ?_
      by_cases hg : great m.2.2 = true
      · skip
        refine sY hS (runs_call (args := [.int .i64 m.2.2]) goes33 rfl (rgreat_is wl2 hg)) fun _ hS => ?_
        refine sI hS (runs_pick rfl rfl) fun _ hS => ?_
        refine nil_ok (wp_cond_true (hS.eval rfl) (qx_seq (reg_seq ?_)))
        refine sI hS (runs_assign rfl) fun _ hS => ?_
        have hbad : goodM es (l.take i) m = false := good_great hg
        have hfin : sentB n es l = false := by unfold sentB; rw [hsd, hstep, hbad]; simp
        exact nil_ok (qx_ret (ret1 (t := 4) (by kernel_rfl) hS rfl ⟨_, rfl, by rw [hfin], hBo1.trans ((hBl1.trans ((hB).mono hBl1.size)).mono hBo1.size)⟩))
      refine sY hS (runs_call (args := [.int .i64 m.2.2]) goes33 rfl (rgreat_is wl2 (Bool.eq_false_iff.2 hg))) fun _ hS => ?_
      refine sI hS (runs_pick rfl rfl) fun _ hS => ?_
      refine nil_ok (wp_cond_false (hS.eval rfl) (wp_skip (reg_seq ?_)))
      refine sI hS (runs_move rfl) fun _ hS => ?_
      refine sI hS (runs_add (r := ((i + 1 : Nat) : Int)) rfl rfl (by simp [IntKind.wrap, IntKind.bits, IntKind.signed]; omega)) fun _ hS => ?_
      refine sI hS (runs_assign rfl) fun _ hS => ?_
      have hgood : goodM es (l.take i) m = true := by unfold goodM; rw [← ht, Bool.eq_false_iff.2 hg]; rfl
      exact nil_ok ⟨_, by omega, i + 1, by omega, rfl, hBl1.trans (hB.mono hBl1.size), by rw [hsd, hstep, hgood]; rfl, hS.only _ ⟨rfl, rfl, rfl, trivial⟩⟩
  refine sI hS (lssF rfl rfl (by omega)) fun _ hS => ?_
  obtain rfl : i = l.length := by omega
  refine nil_ok ⟨_, hS.eval rfl, fun _ => ?_, fun h => by simp at h⟩
  have hB := hBo1.trans ((hBl1.trans (hB.mono hBl1.size)).mono hBo1.size)
  rw [List.take_length, List.drop_length] at hsd
  refine qx_seq (reg_seq ?_)
  refine sI hS (runs_assign rfl) fun _ hS => ?_
  have hfin : sentB n es l = true := by unfold sentB; rw [Classical.not_not.1 h0, hsd]; rfl
  exact nil_ok (qx_ret (ret1 (t := 4) (by kernel_rfl) hS rfl ⟨_, rfl, by rw [hfin], hB⟩))
end Go.Proofs.Ythenbmalnmaofaa
