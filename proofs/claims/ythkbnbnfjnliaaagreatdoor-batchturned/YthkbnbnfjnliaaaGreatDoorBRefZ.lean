/- Layer 11: the document's Right and Put. Conditions: at most 10000 messages, each field within 64 bits. -/
import Derived.Test.YthkbnbnfjnliaaaGreatDoorBRef
import Derived.Test.YthkbnbnfjnliaaaGreatDoorJ28
namespace Go.Proofs.YthkbnbnfjnliaaaGreatDoor
open Go.RowKit
set_option maxRecDepth 100000

theorem pair_at {l : List E} {i j : Nat} {a b : E} (h : l.Pairwise Apart) (hij : i < j) (ha : l[i]? = some a) (hb : l[j]? = some b) : Apart a b := by
  obtain ⟨h1, rfl⟩ := List.getElem?_eq_some_iff.1 ha
  obtain ⟨h2, rfl⟩ := List.getElem?_eq_some_iff.1 hb
  exact List.pairwise_iff_getElem.1 h i j h1 h2 hij
set_option maxHeartbeats 1000000 in
theorem rright_any (l : List E) (v : Value) (w : World) (hE : Edges w v l) : Ans 14 [v] w (fun u w' => u = .bool (rightM l) ∧ Below w.heap.size w w') := by
  obtain ⟨A, c, rfl, hc1, hc2, hA⟩ := hE
  have hE : Edges w (.slice A l.length c) l := ⟨A, c, rfl, hc1, hc2, hA⟩
  have hcm := hc2
  unfold maxLen at hcm
  refine calls_qx (args := [.slice A l.length c]) 65 Tryz.func14 rfl (by kernel_rfl) (by simp) (fun a hS => ?_)
  have hB := Below.refl w.heap.size w
  have hEb := hE
  refine qx_seq (reg_seq ?_)
  refine sI hS (runs_assign rfl) fun _ hS => ?_
  refine nil_ok (qx_seq (qx_seq (reg_seq ?_)))
  refine sI hS (runs_assign rfl) fun _ hS => ?_
  refine nil_ok (?_)
  refine qx_for (fun mm a w' => ∃ (i : Nat), i ≤ l.length ∧ mm = l.length - i ∧ Below w.heap.size w w' ∧ (∀ m ∈ l.take i, okM m = true) ∧ (l.take i).Pairwise Apart ∧ Sees 65 [(3, .int .i64 (i : Int)), (0, .slice A l.length c)] a) l.length ⟨0, by omega, by omega, hB, (fun m hm => by simp at hm), (by simp), hS.only _ ⟨rfl, rfl, trivial⟩⟩ ?_
  clear hS 
  rintro mm a wl1 ⟨i, hi1, rfl, hBb1, hall, hpw, hS⟩
  have hE := hEb.kept hBb1
  have hB := Below.refl wl1.heap.size wl1
  have hEb1 := hE
  refine reg_seq ?_
  refine sI hS (runs_move rfl) fun _ hS => ?_
  refine sI hS (runs_move rfl) fun _ hS => ?_
  refine sI hS (runs_len rfl und32) fun _ hS => ?_
  by_cases hlt1 : i < l.length
  · skip
    refine sI hS (lssT rfl rfl (by omega)) fun _ hS => ?_
    refine nil_ok ⟨_, hS.eval rfl, fun h => by simp at h, fun _ => ?_⟩
    obtain ⟨x, hx⟩ : ∃ x, l[i]? = some x := ⟨l[i], by simp [hlt1]⟩
    obtain ⟨b, o, rfl, hbw, hr⟩ := edges_row hE (by omega)
    have hrx := edges_at hr hx
    refine qx_seq (qx_block (qx_seq (reg_seq ?_)))
    refine sI hS (runs_move rfl) fun _ hS => ?_
    refine sI hS (runs_move rfl) fun _ hS => ?_
    refine sI hS (runs_indexAddrG (j := i) rfl rfl und32 sz41 rfl hlt1) fun _ hS => ?_
    refine sI hS (runs_loadM rfl hrx) fun _ hS => ?_
    refine seq_op hS (by decide) (runs_allocB (cs := [.int .i64 0, .int .i64 0, .int .i64 0]) zo41 rfl) (fun v1 w1 a1 hp hS => ?_)
    obtain ⟨rfl, hM1, hB1⟩ := hp
    have hLhM1 : wl1.heap.size ≤ wl1.heap.size := hB.size
    have hB := hB.trans (hB1.mono hB.size)
    have hE := hEb1.kept hB
    refine seq_none hS (runs_storeB (cs := encE x) rfl rfl hM1 rfl rfl sz41) (fun v3 w3 a1 hp hS => ?_)
    obtain ⟨hM1, hU3⟩ := hp
    have hB := But.new hB hU3 (fun i e => by rw [e]; exact hLhM1) (Nat.le_refl _)
    have hE := hEb1.kept hB
    refine nil_ok (qx_seq (qx_seq (reg_seq ?_)))
    refine sI hS (runs_fieldK fo41_0 rfl) fun _ hS => ?_
    refine sI hS (runs_load rfl pl3 (hM1.at rfl)) fun _ hS => ?_
    by_cases h1 : x.1 < 0
    · skip
      refine sI hS (lssT rfl rfl (by omega)) fun _ hS => ?_
      refine sI hS (runs_move rfl) fun _ hS => ?_
      refine sN hS fun _ hS => ?_
      refine sN hS fun _ hS => ?_
      refine sN hS fun _ hS => ?_
      refine sI hS (runs_pick rfl rfl) fun _ hS => ?_
      refine sI hS (runs_move rfl) fun _ hS => ?_
      refine sN hS fun _ hS => ?_
      refine sN hS fun _ hS => ?_
      refine sN hS fun _ hS => ?_
      refine sI hS (runs_pick rfl rfl) fun _ hS => ?_
      refine sI hS (runs_move rfl) fun _ hS => ?_
      refine sN hS fun _ hS => ?_
      refine sN hS fun _ hS => ?_
      refine sN hS fun _ hS => ?_
      refine sI hS (runs_pick rfl rfl) fun _ hS => ?_
      refine sI hS (runs_move rfl) fun _ hS => ?_
      refine sN hS fun _ hS => ?_
      refine sN hS fun _ hS => ?_
      refine sN hS fun _ hS => ?_
      refine sI hS (runs_pick rfl rfl) fun _ hS => ?_
      refine nil_ok (wp_cond_true (hS.eval rfl) (qx_seq (reg_seq ?_)))
      refine sI hS (runs_assign rfl) fun _ hS => ?_
      have hfin : rightM l = false := by
        rw [Bool.eq_false_iff]; intro h
        obtain ⟨k1, k2, k3, k4, k5⟩ := (okM_iff x).1 (((rightM_iff l).1 h).1 x (List.mem_of_getElem? hx))
        omega
      exact nil_ok (qx_ret (ret1 (t := 2) (by kernel_rfl) hS rfl ⟨_, rfl, by rw [hfin], (hBb1.trans (hB.mono hBb1.size))⟩))
    refine sI hS (lssF rfl rfl (by omega)) fun _ hS => ?_
    refine sI hS (runs_move rfl) fun _ hS => ?_
    refine sY hS (runs_fieldK fo41_0 rfl) fun _ hS => ?_
    refine sY hS (runs_load rfl pl3 (hM1.at rfl)) fun _ hS => ?_
    by_cases h2 : 63 < x.1
    · skip
      refine sY hS (gtrT rfl rfl (by omega)) fun _ hS => ?_
      refine sI hS (runs_pick rfl rfl) fun _ hS => ?_
      refine sI hS (runs_move rfl) fun _ hS => ?_
      refine sN hS fun _ hS => ?_
      refine sN hS fun _ hS => ?_
      refine sN hS fun _ hS => ?_
      refine sI hS (runs_pick rfl rfl) fun _ hS => ?_
      refine sI hS (runs_move rfl) fun _ hS => ?_
      refine sN hS fun _ hS => ?_
      refine sN hS fun _ hS => ?_
      refine sN hS fun _ hS => ?_
      refine sI hS (runs_pick rfl rfl) fun _ hS => ?_
      refine sI hS (runs_move rfl) fun _ hS => ?_
      refine sN hS fun _ hS => ?_
      refine sN hS fun _ hS => ?_
      refine sN hS fun _ hS => ?_
      refine sI hS (runs_pick rfl rfl) fun _ hS => ?_
      refine nil_ok (wp_cond_true (hS.eval rfl) (qx_seq (reg_seq ?_)))
      refine sI hS (runs_assign rfl) fun _ hS => ?_
      have hfin : rightM l = false := by
        rw [Bool.eq_false_iff]; intro h
        obtain ⟨k1, k2, k3, k4, k5⟩ := (okM_iff x).1 (((rightM_iff l).1 h).1 x (List.mem_of_getElem? hx))
        omega
      exact nil_ok (qx_ret (ret1 (t := 2) (by kernel_rfl) hS rfl ⟨_, rfl, by rw [hfin], (hBb1.trans (hB.mono hBb1.size))⟩))
    refine sY hS (gtrF rfl rfl (by omega)) fun _ hS => ?_
    refine sI hS (runs_pick rfl rfl) fun _ hS => ?_
    refine sI hS (runs_move rfl) fun _ hS => ?_
    refine sY hS (runs_fieldK fo41_1 rfl) fun _ hS => ?_
    refine sY hS (runs_load rfl pl3 (hM1.at rfl)) fun _ hS => ?_
    by_cases h3 : x.2.1 < 0
    · skip
      refine sY hS (lssT rfl rfl (by omega)) fun _ hS => ?_
      refine sI hS (runs_pick rfl rfl) fun _ hS => ?_
      refine sI hS (runs_move rfl) fun _ hS => ?_
      refine sN hS fun _ hS => ?_
      refine sN hS fun _ hS => ?_
      refine sN hS fun _ hS => ?_
      refine sI hS (runs_pick rfl rfl) fun _ hS => ?_
      refine sI hS (runs_move rfl) fun _ hS => ?_
      refine sN hS fun _ hS => ?_
      refine sN hS fun _ hS => ?_
      refine sN hS fun _ hS => ?_
      refine sI hS (runs_pick rfl rfl) fun _ hS => ?_
      refine nil_ok (wp_cond_true (hS.eval rfl) (qx_seq (reg_seq ?_)))
      refine sI hS (runs_assign rfl) fun _ hS => ?_
      have hfin : rightM l = false := by
        rw [Bool.eq_false_iff]; intro h
        obtain ⟨k1, k2, k3, k4, k5⟩ := (okM_iff x).1 (((rightM_iff l).1 h).1 x (List.mem_of_getElem? hx))
        omega
      exact nil_ok (qx_ret (ret1 (t := 2) (by kernel_rfl) hS rfl ⟨_, rfl, by rw [hfin], (hBb1.trans (hB.mono hBb1.size))⟩))
    refine sY hS (lssF rfl rfl (by omega)) fun _ hS => ?_
    refine sI hS (runs_pick rfl rfl) fun _ hS => ?_
    refine sI hS (runs_move rfl) fun _ hS => ?_
    refine sY hS (runs_fieldK fo41_1 rfl) fun _ hS => ?_
    refine sY hS (runs_load rfl pl3 (hM1.at rfl)) fun _ hS => ?_
    by_cases h4 : 63 < x.2.1
    · skip
      refine sY hS (gtrT rfl rfl (by omega)) fun _ hS => ?_
      refine sI hS (runs_pick rfl rfl) fun _ hS => ?_
      refine sI hS (runs_move rfl) fun _ hS => ?_
      refine sN hS fun _ hS => ?_
      refine sN hS fun _ hS => ?_
      refine sN hS fun _ hS => ?_
      refine sI hS (runs_pick rfl rfl) fun _ hS => ?_
      refine nil_ok (wp_cond_true (hS.eval rfl) (qx_seq (reg_seq ?_)))
      refine sI hS (runs_assign rfl) fun _ hS => ?_
      have hfin : rightM l = false := by
        rw [Bool.eq_false_iff]; intro h
        obtain ⟨k1, k2, k3, k4, k5⟩ := (okM_iff x).1 (((rightM_iff l).1 h).1 x (List.mem_of_getElem? hx))
        omega
      exact nil_ok (qx_ret (ret1 (t := 2) (by kernel_rfl) hS rfl ⟨_, rfl, by rw [hfin], (hBb1.trans (hB.mono hBb1.size))⟩))
    refine sY hS (gtrF rfl rfl (by omega)) fun _ hS => ?_
    refine sI hS (runs_pick rfl rfl) fun _ hS => ?_
    refine sI hS (runs_move rfl) fun _ hS => ?_
    refine sY hS (runs_fieldK fo41_2 rfl) fun _ hS => ?_
    refine sY hS (runs_load rfl pl2 (hM1.at rfl)) fun _ hS => ?_
    by_cases h5 : great x.2.2 = true
    · skip
      refine sY hS (runs_call (args := [.int .i64 x.2.2]) goes29 rfl (rgreat_is w3 h5)) fun _ hS => ?_
      refine sI hS (runs_pick rfl rfl) fun _ hS => ?_
      refine nil_ok (wp_cond_true (hS.eval rfl) (qx_seq (reg_seq ?_)))
      refine sI hS (runs_assign rfl) fun _ hS => ?_
      have hfin : rightM l = false := by
        rw [Bool.eq_false_iff]; intro h
        obtain ⟨k1, k2, k3, k4, k5⟩ := (okM_iff x).1 (((rightM_iff l).1 h).1 x (List.mem_of_getElem? hx))
        rw [h5] at k5; cases k5
      exact nil_ok (qx_ret (ret1 (t := 2) (by kernel_rfl) hS rfl ⟨_, rfl, by rw [hfin], (hBb1.trans (hB.mono hBb1.size))⟩))
    refine sY hS (runs_call (args := [.int .i64 x.2.2]) goes29 rfl (rgreat_is w3 (Bool.eq_false_iff.2 h5))) fun _ hS => ?_
    refine sI hS (runs_pick rfl rfl) fun _ hS => ?_
    refine nil_ok (wp_cond_false (hS.eval rfl) (wp_skip (qx_seq (?_))))
    have hok : okM x = true := (okM_iff x).2 ⟨by omega, by omega, by omega, by omega, Bool.eq_false_iff.2 h5⟩
    have hBprer := hB
    have hB := Below.refl w3.heap.size w3
    have hM1b1 := hM1
    have hEb1 := hE
    refine reg_seq ?_
    refine sI hS (runs_assign rfl) fun _ hS => ?_
    refine nil_ok (?_)
    refine qx_for (fun mm a w' => ∃ (q : Nat), q ≤ i ∧ mm = i - q ∧ Below w3.heap.size w3 w' ∧ (∀ y ∈ l.take q, Apart y x) ∧ Sees 65 [(5, .int .i64 (q : Int)), (3, .int .i64 (i : Int)), (4, .pointer (some ⟨wl1.heap.size, 0, none⟩)), (0, .slice (some ⟨b, o, none⟩) l.length c)] a) i ⟨0, by omega, by omega, hB, (fun y hy => by simp at hy), hS.only _ ⟨rfl, rfl, rfl, rfl, trivial⟩⟩ ?_
    clear hS 
    rintro mm a wl2 ⟨q, hi2, rfl, hBb2, hap, hS⟩
    have hE := hEb1.kept hBb2
    have hM1 := hM1b1.below hBb2 hM1b1.lt
    have hB := Below.refl wl2.heap.size wl2
    have hM1b2 := hM1
    refine reg_seq ?_
    refine sI hS (runs_move rfl) fun _ hS => ?_
    refine sI hS (runs_move rfl) fun _ hS => ?_
    by_cases hlt2 : q < i
    · skip
      refine sI hS (lssT rfl rfl (by omega)) fun _ hS => ?_
      refine nil_ok ⟨_, hS.eval rfl, fun h => by simp at h, fun _ => ?_⟩
      obtain ⟨y, hy⟩ : ∃ x, l[q]? = some x := ⟨l[q], by simp [Nat.lt_trans hlt2 hlt1]⟩
      obtain ⟨b2, o2, hbe, hbw2, hr2⟩ := edges_row hE (by omega)
      cases hbe
      have hry := edges_at hr2 hy
      refine qx_seq (qx_block (qx_seq (?_)))
      by_cases e1 : y.1 = x.1
      · skip
        by_cases e2 : y.2.1 = x.2.1
        · skip
          refine reg_guard (fun w' => Below wl2.heap.size wl2 w') [.inl (.slice (some ⟨b, o, none⟩) l.length c), .inl (.int .i64 (q : Int)), .inl (.pointer (some ⟨b, o + q * 3, none⟩)), .inl (.pointer (some ⟨b, o + q * 3 + 0, none⟩)), .inl (.int .i64 y.1), .inl (.pointer (some ⟨wl1.heap.size, 0 + 0, none⟩)), .inl (.int .i64 x.1), .inl (.bool true), .inl (.bool true), .inl (.slice (some ⟨b, o, none⟩) l.length c), .inl (.int .i64 (q : Int)), .inl (.pointer (some ⟨b, o + q * 3, none⟩)), .inl (.pointer (some ⟨b, o + q * 3 + 1, none⟩)), .inl (.int .i64 y.2.1), .inl (.pointer (some ⟨wl1.heap.size, 0 + 1, none⟩)), .inl (.int .i64 x.2.1), .inl (.bool true), .inl (.bool true)] 18 0 mixed rfl (by kernel_rfl) hS (Below.refl _ _) (fun _ h => h.drew) ?_
          refine hs_is rfl (fun w' hw => runs_move rfl) ?_
          refine hs_is rfl (fun w' hw => runs_move rfl) ?_
          refine hs_is rfl (fun w' hw => runs_indexAddrG (j := q) rfl rfl und32 sz41 rfl (Nat.lt_trans hlt2 hlt1)) ?_
          refine hs_is rfl (fun w' hw => runs_fieldK fo41_0 rfl) ?_
          refine hs_is rfl (fun w' hw => runs_load rfl pl3 ((range_below hry hw hbw2) 0 (.int .i64 y.1) rfl)) ?_
          refine hs_is rfl (fun w' hw => runs_fieldK fo41_0 rfl) ?_
          refine hs_is rfl (fun w' hw => runs_load rfl pl3 ((hM1.below hw hM1.lt).at rfl)) ?_
          refine hs_is rfl (fun w' hw => runs_eql rfl rfl (by simpa using e1)) ?_
          refine hs_is rfl (fun w' hw => runs_move rfl) ?_
          refine hs_yis rfl rfl (fun w' hw => runs_move rfl) ?_
          refine hs_yis rfl rfl (fun w' hw => runs_move rfl) ?_
          refine hs_yis rfl rfl (fun w' hw => runs_indexAddrG (j := q) rfl rfl und32 sz41 rfl (Nat.lt_trans hlt2 hlt1)) ?_
          refine hs_yis rfl rfl (fun w' hw => runs_fieldK fo41_1 rfl) ?_
          refine hs_yis rfl rfl (fun w' hw => runs_load rfl pl3 ((range_below hry hw hbw2) 1 (.int .i64 y.2.1) rfl)) ?_
          refine hs_yis rfl rfl (fun w' hw => runs_fieldK fo41_1 rfl) ?_
          refine hs_yis rfl rfl (fun w' hw => runs_load rfl pl3 ((hM1.below hw hM1.lt).at rfl)) ?_
          refine hs_yis rfl rfl (fun w' hw => runs_eql rfl rfl (by simpa using e2)) ?_
          refine hs_is rfl (fun w' hw => runs_pick rfl rfl) ?_
          refine (fun a5 w5 hS hB5 hq => ?_)
          clear hq
          have hB := hB.trans (hB5.mono hB.size)
          have hM1 := hM1b2.below hB hM1b2.lt
          refine wpAnyH_done (by kernel_rfl) ?_ _
          refine wp_cond_true (hS.eval rfl) (qx_seq (reg_seq ?_))
          refine sI hS (runs_assign rfl) fun _ hS => ?_
          have hfin : rightM l = false := by
            rw [Bool.eq_false_iff]; intro h
            have hp := ((rightM_iff l).1 h).2.1
            exact pair_at hp hlt2 hy hx ⟨e1, e2⟩
          exact nil_ok (qx_ret (ret1 (t := 2) (by kernel_rfl) hS rfl ⟨_, rfl, by rw [hfin], (hBb1.trans ((hBprer.trans ((hBb2.trans (hB.mono hBb2.size)).mono hBprer.size)).mono hBb1.size))⟩))
        · skip
          refine reg_guard (fun w' => Below wl2.heap.size wl2 w') [.inl (.slice (some ⟨b, o, none⟩) l.length c), .inl (.int .i64 (q : Int)), .inl (.pointer (some ⟨b, o + q * 3, none⟩)), .inl (.pointer (some ⟨b, o + q * 3 + 0, none⟩)), .inl (.int .i64 y.1), .inl (.pointer (some ⟨wl1.heap.size, 0 + 0, none⟩)), .inl (.int .i64 x.1), .inl (.bool true), .inl (.bool true), .inl (.slice (some ⟨b, o, none⟩) l.length c), .inl (.int .i64 (q : Int)), .inl (.pointer (some ⟨b, o + q * 3, none⟩)), .inl (.pointer (some ⟨b, o + q * 3 + 1, none⟩)), .inl (.int .i64 y.2.1), .inl (.pointer (some ⟨wl1.heap.size, 0 + 1, none⟩)), .inl (.int .i64 x.2.1), .inl (.bool false), .inl (.bool false)] 18 0 mixed rfl (by kernel_rfl) hS (Below.refl _ _) (fun _ h => h.drew) ?_
          refine hs_is rfl (fun w' hw => runs_move rfl) ?_
          refine hs_is rfl (fun w' hw => runs_move rfl) ?_
          refine hs_is rfl (fun w' hw => runs_indexAddrG (j := q) rfl rfl und32 sz41 rfl (Nat.lt_trans hlt2 hlt1)) ?_
          refine hs_is rfl (fun w' hw => runs_fieldK fo41_0 rfl) ?_
          refine hs_is rfl (fun w' hw => runs_load rfl pl3 ((range_below hry hw hbw2) 0 (.int .i64 y.1) rfl)) ?_
          refine hs_is rfl (fun w' hw => runs_fieldK fo41_0 rfl) ?_
          refine hs_is rfl (fun w' hw => runs_load rfl pl3 ((hM1.below hw hM1.lt).at rfl)) ?_
          refine hs_is rfl (fun w' hw => runs_eql rfl rfl (by simpa using e1)) ?_
          refine hs_is rfl (fun w' hw => runs_move rfl) ?_
          refine hs_yis rfl rfl (fun w' hw => runs_move rfl) ?_
          refine hs_yis rfl rfl (fun w' hw => runs_move rfl) ?_
          refine hs_yis rfl rfl (fun w' hw => runs_indexAddrG (j := q) rfl rfl und32 sz41 rfl (Nat.lt_trans hlt2 hlt1)) ?_
          refine hs_yis rfl rfl (fun w' hw => runs_fieldK fo41_1 rfl) ?_
          refine hs_yis rfl rfl (fun w' hw => runs_load rfl pl3 ((range_below hry hw hbw2) 1 (.int .i64 y.2.1) rfl)) ?_
          refine hs_yis rfl rfl (fun w' hw => runs_fieldK fo41_1 rfl) ?_
          refine hs_yis rfl rfl (fun w' hw => runs_load rfl pl3 ((hM1.below hw hM1.lt).at rfl)) ?_
          refine hs_yis rfl rfl (fun w' hw => runs_eql rfl rfl (by simpa using e2)) ?_
          refine hs_is rfl (fun w' hw => runs_pick rfl rfl) ?_
          refine (fun a7 w7 hS hB7 hq => ?_)
          clear hq
          have hB := hB.trans (hB7.mono hB.size)
          have hM1 := hM1b2.below hB hM1b2.lt
          refine wpAnyH_done (by kernel_rfl) ?_ _
          refine wp_cond_false (hS.eval rfl) (wp_skip (reg_seq ?_))
          refine sI hS (runs_move rfl) fun _ hS => ?_
          refine sI hS (runs_add (r := ((q + 1 : Nat) : Int)) rfl rfl (by simp [IntKind.wrap, IntKind.bits, IntKind.signed]; omega)) fun _ hS => ?_
          refine sI hS (runs_assign rfl) fun _ hS => ?_
          exact nil_ok ⟨_, by omega, q + 1, by omega, rfl, hBb2.trans (hB.mono hBb2.size), (fun z hz => by rw [List.take_add_one, hy, Option.toList_some] at hz; rcases List.mem_append.1 hz with h | h; exact hap z h; rw [List.mem_singleton] at h; subst h; exact fun h => e2 h.2), hS.only _ ⟨rfl, rfl, rfl, rfl, trivial⟩⟩
      · skip
        refine reg_guard (fun w' => Below wl2.heap.size wl2 w') [.inl (.slice (some ⟨b, o, none⟩) l.length c), .inl (.int .i64 (q : Int)), .inl (.pointer (some ⟨b, o + q * 3, none⟩)), .inl (.pointer (some ⟨b, o + q * 3 + 0, none⟩)), .inl (.int .i64 y.1), .inl (.pointer (some ⟨wl1.heap.size, 0 + 0, none⟩)), .inl (.int .i64 x.1), .inl (.bool false), .inl (.bool false), .inl undef, .inl undef, .inl undef, .inl undef, .inl undef, .inl undef, .inl undef, .inl undef, .inl (.bool false)] 18 0 mixed rfl (by kernel_rfl) hS (Below.refl _ _) (fun _ h => h.drew) ?_
        refine hs_is rfl (fun w' hw => runs_move rfl) ?_
        refine hs_is rfl (fun w' hw => runs_move rfl) ?_
        refine hs_is rfl (fun w' hw => runs_indexAddrG (j := q) rfl rfl und32 sz41 rfl (Nat.lt_trans hlt2 hlt1)) ?_
        refine hs_is rfl (fun w' hw => runs_fieldK fo41_0 rfl) ?_
        refine hs_is rfl (fun w' hw => runs_load rfl pl3 ((range_below hry hw hbw2) 0 (.int .i64 y.1) rfl)) ?_
        refine hs_is rfl (fun w' hw => runs_fieldK fo41_0 rfl) ?_
        refine hs_is rfl (fun w' hw => runs_load rfl pl3 ((hM1.below hw hM1.lt).at rfl)) ?_
        refine hs_is rfl (fun w' hw => runs_eql rfl rfl (by simpa using e1)) ?_
        refine hs_is rfl (fun w' hw => runs_move rfl) ?_
        refine hs_no rfl rfl rfl ?_
        refine hs_no rfl rfl rfl ?_
        refine hs_no rfl rfl rfl ?_
        refine hs_no rfl rfl rfl ?_
        refine hs_no rfl rfl rfl ?_
        refine hs_no rfl rfl rfl ?_
        refine hs_no rfl rfl rfl ?_
        refine hs_no rfl rfl rfl ?_
        refine hs_is rfl (fun w' hw => runs_pick rfl rfl) ?_
        refine (fun a9 w9 hS hB9 hq => ?_)
        clear hq
        have hB := hB.trans (hB9.mono hB.size)
        refine wpAnyH_done (by kernel_rfl) ?_ _
        refine wp_cond_false (hS.eval rfl) (wp_skip (reg_seq ?_))
        refine sI hS (runs_move rfl) fun _ hS => ?_
        refine sI hS (runs_add (r := ((q + 1 : Nat) : Int)) rfl rfl (by simp [IntKind.wrap, IntKind.bits, IntKind.signed]; omega)) fun _ hS => ?_
        refine sI hS (runs_assign rfl) fun _ hS => ?_
        exact nil_ok ⟨_, by omega, q + 1, by omega, rfl, hBb2.trans (hB.mono hBb2.size), (fun z hz => by rw [List.take_add_one, hy, Option.toList_some] at hz; rcases List.mem_append.1 hz with h | h; exact hap z h; rw [List.mem_singleton] at h; subst h; exact fun h => e1 h.1), hS.only _ ⟨rfl, rfl, rfl, rfl, trivial⟩⟩
    refine sI hS (lssF rfl rfl (by omega)) fun _ hS => ?_
    obtain rfl : i = q := by omega
    refine nil_ok ⟨_, hS.eval rfl, fun _ => ?_, fun h => by simp at h⟩
    have hB := hBb2
    have hB := hBprer.trans (hB.mono hBprer.size)
    refine reg_seq ?_
    refine sI hS (runs_move rfl) fun _ hS => ?_
    refine sI hS (runs_add (r := ((i + 1 : Nat) : Int)) rfl rfl (by simp [IntKind.wrap, IntKind.bits, IntKind.signed]; omega)) fun _ hS => ?_
    refine sI hS (runs_assign rfl) fun _ hS => ?_
    exact nil_ok ⟨_, by omega, i + 1, by omega, rfl, hBb1.trans (hB.mono hBb1.size), (fun m hm => by rw [List.take_add_one, hx, Option.toList_some] at hm; rcases List.mem_append.1 hm with h | h; exact hall m h; rw [List.mem_singleton] at h; subst h; exact hok), (by rw [List.take_add_one, hx, Option.toList_some]; exact List.pairwise_append.2 ⟨hpw, by simp, fun a ha b hb => by rw [List.mem_singleton] at hb; subst hb; exact hap a ha⟩), hS.only _ ⟨rfl, rfl, trivial⟩⟩
  refine sI hS (lssF rfl rfl (by omega)) fun _ hS => ?_
  obtain rfl : i = l.length := by omega
  refine nil_ok ⟨_, hS.eval rfl, fun _ => ?_, fun h => by simp at h⟩
  have hB := hBb1
  rw [List.take_length] at hall hpw
  refine qx_seq (reg_seq ?_)
  refine sI hS (runs_move rfl) fun _ hS => ?_
  refine sI hS (runs_len rfl und32) fun _ hS => ?_
  refine sI hS (runs_leq (r := decide (l.length ≤ 512)) rfl rfl (by rw [decide_eq_decide]; omega)) fun _ hS => ?_
  refine sI hS (runs_assign rfl) fun _ hS => ?_
  have hfin : rightM l = decide (l.length ≤ 512) := by
    rw [Bool.eq_iff_iff, rightM_iff, decide_eq_true_eq]
    exact ⟨fun h => h.2.2, fun h => ⟨hall, hpw, h⟩⟩
  exact nil_ok (qx_ret (ret1 (t := 2) (by kernel_rfl) hS rfl ⟨_, rfl, by rw [hfin], hB⟩))
set_option maxHeartbeats 1000000 in
theorem rtext_any (s : ByteArray) (hs : s.size ≤ 100000) (w : World) : Ans 40 [.string s] w (fun u w' => u = .string (S (txt (bl s))) ∧ Below w.heap.size w w') := by
  refine calls_qx (args := [.string s]) 9 Tryz.func40 rfl (by kernel_rfl) (by simp) (fun a hS => ?_)
  have hB := Below.refl w.heap.size w
  refine qx_seq (reg_seq ?_)
  refine sI hS (runs_assign rfl) fun _ hS => ?_
  refine nil_ok (qx_seq (reg_seq ?_))
  refine sI hS (runs_move rfl) fun _ hS => ?_
  refine sI hS (runs_lens rfl und9) fun _ hS => ?_
  refine sI hS (runs_convInt (r := ((s.size : Nat) : Int)) rfl (by decide) undB64 (by simp [IntKind.wrap, IntKind.bits, IntKind.signed]; omega)) fun _ hS => ?_
  refine seq_op hS (by decide) (runs_call (args := [.int .u64 ((s.size : Nat) : Int)]) goes39 rfl (rnum_a s.size w (by omega))) (fun v1 w1 a1 hp hS => ?_)
  obtain ⟨rfl, hB1⟩ := hp
  have hB := hB.trans (hB1.mono hB.size)
  refine sI hS (runs_move rfl) fun _ hS => ?_
  refine sI hS (runs_catG (r := S (txt (bl s))) rfl rfl (by unfold txt; rw [bl_length, ← S_cat, S_bl]) (by rw [S_size]; have := Wire.num_len10 s.size (by omega); omega)) fun _ hS => ?_
  refine sI hS (runs_assign rfl) fun _ hS => ?_
  exact nil_ok (qx_ret (ret1 (t := 2) (by kernel_rfl) hS rfl ⟨_, rfl, rfl, hB⟩))
theorem flat_len : ∀ (rs : List (List Nat)), (∀ r ∈ rs, r.length ≤ 30) → ((rs.map txt).flatten).length ≤ 40 * rs.length
  | [], _ => by simp
  | r :: rs, h => by
    have ih := flat_len rs (fun x hx => h x (by simp [hx]))
    have h1 := h r (by simp)
    have h2 := Wire.num_len10 r.length (by omega)
    simp only [List.map_cons, List.flatten_cons, List.length_append, List.length_cons, txt] at ih ⊢
    omega
theorem rowsM_small {l : List E} (h : FitsM l) : ∀ r ∈ rowsM l, r.length ≤ 30 := fun r hr => by
  obtain ⟨m, hm, rfl⟩ := List.mem_map.1 hr
  obtain ⟨h1, h2, h3⟩ := h m (sortM_mem.1 hm)
  exact rowM_size (by omega) (by omega) h3.1 h3.2
theorem rowsM_bytes (l : List E) : ∀ r ∈ rowsM l, ∀ c ∈ r, c < 256 := fun r hr => by
  obtain ⟨m, _, rfl⟩ := List.mem_map.1 hr
  exact rowM_lt m
theorem pl9s : (match Tryz.prog.underlying 9 with | some (.struct _) => true | some (.array _ _) => true | none => true | _ => false) = false := by kernel_rfl
theorem cell_below {w w' : World} {B b o : Nat} {v : Value} (h : w.cell? ⟨b, o, none⟩ = some v) (k : Below B w w') (hb : b < B) : w'.cell? ⟨b, o, none⟩ = some v := by
  unfold World.cell? at h ⊢
  rw [k.block b hb]
  exact h
set_option maxHeartbeats 1000000 in
theorem rput_any (l : List E) (hl : l.length ≤ 10000) (hf : FitsM l) (v : Value) (w : World) (hE : Edges w v l) : Ans 17 [v] w (fun u w' => u = .string (S (bytesM l)) ∧ Below w.heap.size w w') := by
  obtain ⟨A, c, rfl, hc1, hc2, hA⟩ := hE
  have hE : Edges w (.slice A l.length c) l := ⟨A, c, rfl, hc1, hc2, hA⟩
  have hcm := hc2
  unfold maxLen at hcm
  refine calls_qx (args := [.slice A l.length c]) 26 Tryz.func17 rfl (by kernel_rfl) (by simp) (fun a hS => ?_)
  have hB := Below.refl w.heap.size w
  have hEb := hE
  refine qx_seq (reg_seq ?_)
  refine sI hS (runs_assign rfl) fun _ hS => ?_
  refine nil_ok (qx_seq (reg_seq ?_))
  refine sI hS (runs_move rfl) fun _ hS => ?_
  refine sI hS (runs_len rfl und32) fun _ hS => ?_
  refine sI hS (runs_convInt (r := ((l.length : Nat) : Int)) rfl (by decide) undB64 (by simp [IntKind.wrap, IntKind.bits, IntKind.signed]; omega)) fun _ hS => ?_
  refine seq_op hS (by decide) (runs_call (args := [.int .u64 ((l.length : Nat) : Int)]) goes39 rfl (rnum_a l.length w (by omega))) (fun v1 w1 a1 hp hS => ?_)
  obtain ⟨rfl, hB1⟩ := hp
  have hB := hB.trans (hB1.mono hB.size)
  have hE := hEb.kept hB
  refine sI hS (runs_move rfl) fun _ hS => ?_
  refine seq_op hS (by decide) (runs_call (args := [.slice A l.length c]) goes28 rfl (rrows_any l hl hf _ w1 hE)) (fun v3 w3 a1 hp hS => ?_)
  obtain ⟨hSr, hB3⟩ := hp
  obtain ⟨Ar, cr, rfl, hr1, hr2, hrr⟩ := id hSr
  have hB := hB.trans (hB3.mono hB.size)
  refine sI hS (runs_assign rfl) fun _ hS => ?_
  refine sI hS (runs_assign rfl) fun _ hS => ?_
  refine nil_ok (qx_seq (qx_seq (?_)))
  have hrl : ((rowsM l).map S).length = l.length := by rw [List.length_map, rowsM_length]
  rw [hrl] at hS hrr
  rw [show Wire.num l.length = Wire.num l.length ++ (((rowsM l).take 0).map txt).flatten by simp] at hS
  have hBpre0 := hB
  have hB := Below.refl w3.heap.size w3
  refine reg_seq ?_
  refine sI hS (runs_assign rfl) fun _ hS => ?_
  refine nil_ok (?_)
  have hBo1 := hB
  refine qx_for (fun mm a w' => ∃ (i : Nat), i ≤ l.length ∧ mm = l.length - i ∧ Below w3.heap.size w3 w' ∧ Sees 26 [(5, .int .i64 (i : Int)), (4, .slice Ar l.length cr), (3, .string (S (Wire.num l.length ++ (((rowsM l).take i).map txt).flatten)))] a) l.length ⟨0, by omega, by omega, Below.refl _ _, hS.only _ ⟨rfl, rfl, rfl, trivial⟩⟩ ?_
  clear hS
  rintro mm a wl1 ⟨i, hi1, rfl, hBl1, hS⟩
  have hB := Below.refl wl1.heap.size wl1
  refine reg_seq ?_
  refine sI hS (runs_move rfl) fun _ hS => ?_
  refine sI hS (runs_move rfl) fun _ hS => ?_
  refine sI hS (runs_len rfl undStrs) fun _ hS => ?_
  by_cases hlt1 : i < l.length
  · skip
    refine sI hS (lssT rfl rfl (by omega)) fun _ hS => ?_
    refine nil_ok ⟨_, hS.eval rfl, fun h => by simp at h, fun _ => ?_⟩
    obtain ⟨br, or_, rfl, hbr, hcell⟩ := hrr (by omega)
    have hgi : i < (rowsM l).length := by rw [rowsM_length]; exact hlt1
    obtain ⟨r, hri⟩ : ∃ r, (rowsM l)[i]? = some r := ⟨(rowsM l)[i], by simp [hgi]⟩
    have hci : w3.cell? ⟨br, or_ + i, none⟩ = some (.string (S r)) := by
      have h := hcell i hlt1
      rw [show (List.map S (rowsM l)).getD i ByteArray.empty = S r by simp [List.getD, hri]] at h
      exact h
    have hci := cell_below hci hBl1 hbr
    have hrm := List.mem_of_getElem? hri
    have hr30 := rowsM_small hf r hrm
    have hbl : bl (S r) = r := bl_S (rowsM_bytes l r hrm)
    have htx : (txt r).length ≤ 40 := by unfold txt; rw [List.length_append]; have := Wire.num_len10 r.length (by omega); omega
    have hfl := flat_len ((rowsM l).take i) (fun x hx => rowsM_small hf x (List.mem_of_mem_take hx))
    have hn10 := Wire.num_len10 l.length (by omega)
    have htl : ((rowsM l).take i).length ≤ i := List.length_take_le _ _
    refine qx_seq (qx_block (reg_seq ?_))
    refine sI hS (runs_move rfl) fun _ hS => ?_
    refine sI hS (runs_move rfl) fun _ hS => ?_
    refine sI hS (runs_move rfl) fun _ hS => ?_
    refine sI hS (runs_indexAddrG (j := i) rfl rfl undStrs infStr1 rfl hlt1) fun _ hS => ?_
    refine sI hS (runs_load rfl pl9s (by rw [Nat.mul_one]; exact hci)) fun _ hS => ?_
    refine seq_op hS (by decide) (runs_call (args := [.string (S r)]) goes40 rfl (rtext_any (S r) (by rw [S_size]; omega) wl1)) (fun v5 w5 a1 hp hS => ?_)
    obtain ⟨rfl, hB5⟩ := hp
    have hB := hB.trans (hB5.mono hB.size)
    refine sI hS (runs_catG (r := S (Wire.num l.length ++ (((rowsM l).take (i + 1)).map txt).flatten)) rfl rfl (by rw [S_cat, hbl, List.take_add_one, hri, Option.toList_some, List.map_append, List.flatten_append, List.append_assoc]; simp) (by rw [S_size, S_size, hbl, List.length_append]; omega)) fun _ hS => ?_
    refine sI hS (runs_assign rfl) fun _ hS => ?_
    refine nil_ok (reg_seq ?_)
    refine sI hS (runs_move rfl) fun _ hS => ?_
    refine sI hS (runs_add (r := ((i + 1 : Nat) : Int)) rfl rfl (by simp [IntKind.wrap, IntKind.bits, IntKind.signed]; omega)) fun _ hS => ?_
    refine sI hS (runs_assign rfl) fun _ hS => ?_
    exact nil_ok ⟨_, by omega, i + 1, by omega, rfl, hBl1.trans (hB.mono hBl1.size), hS.only _ ⟨rfl, rfl, rfl, trivial⟩⟩
  refine sI hS (lssF rfl rfl (by omega)) fun _ hS => ?_
  obtain rfl : i = l.length := by omega
  refine nil_ok ⟨_, hS.eval rfl, fun _ => ?_, fun h => by simp at h⟩
  have hB := hBo1.trans ((hBl1.trans (hB.mono hBl1.size)).mono hBo1.size)
  refine qx_seq (reg_seq ?_)
  refine sI hS (runs_move rfl) fun _ hS => ?_
  refine sI hS (runs_assign rfl) fun _ hS => ?_
  exact nil_ok (qx_ret (ret1 (t := 2) (by kernel_rfl) hS rfl ⟨_, rfl, by unfold bytesM; rw [List.take_of_length_le (by rw [rowsM_length]; exact Nat.le_refl _)], hBpre0.trans (hB.mono hBpre0.size)⟩))
end Go.Proofs.YthkbnbnfjnliaaaGreatDoor
