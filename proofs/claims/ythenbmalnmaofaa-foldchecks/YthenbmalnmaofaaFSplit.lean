/- Layer 8: Split. Conditions: none of our own. -/
import Derived.Test.YthenbmalnmaofaaFParts
namespace Go.Proofs.Ythenbmalnmaofaa
open Go.RowKit
open Part (own own_range)
set_option maxRecDepth 100000

theorem parts_nil (w : World) (B : Nat) (k : Int) (n : Nat) (l : List E) : PartsI w B k (l.take 0) (List.replicate n (.slice none 0 0)) := by
  have hr : ∀ (j : Nat) (u : Value), (List.replicate n (Value.slice none 0 0))[j]? = some u → u = .slice none 0 0 := fun j u hu => by
    rw [List.getElem?_replicate] at hu
    split at hu <;> cases hu
    rfl
  refine ⟨fun j u hu => ?_, fun j u hu _ => hr j u hu, fun j j' u u' _ hu _ => .inl (by rw [hr j u hu]; rfl)⟩
  rw [hr j u hu]
  exact ⟨rfl, .inl ⟨rfl, rfl⟩⟩
set_option maxHeartbeats 1000000 in
theorem split_any (k : Int) (l : List E) (hsm : l.length ≤ 10000) (v : Value) (w : World) (hE : Edges w v l) : Ans 20 [.int .i64 k, v] w (fun u w' => Below w.heap.size w w' ∧ ∃ x, u = .tuple #[x, .int .i64 (if splitOk k l = true then 0 else 80)] ∧ (splitOk k l = true → RowsM w' x (splitL k l)) ∧ (splitOk k l = false → x = .slice none 0 0)) := by
  refine calls_qx (args := [.int .i64 k, v]) 45 Try.func20 rfl (by kernel_rfl) (by simp) (fun a hS => ?_)
  have hB := Below.refl w.heap.size w
  have hEb := hE
  refine qx_seq (reg_seq ?_)
  refine sI hS (runs_assign rfl) fun _ hS => ?_
  refine sI hS (runs_assign rfl) fun _ hS => ?_
  refine nil_ok (qx_seq (qx_seq (reg_seq ?_)))
  refine sI hS (runs_move rfl) fun _ hS => ?_
  by_cases h1 : k < 1
  · skip
    refine sI hS (lssT rfl rfl (by omega)) fun _ hS => ?_
    refine sI hS (runs_move rfl) fun _ hS => ?_
    refine sN hS fun _ hS => ?_
    refine sN hS fun _ hS => ?_
    refine sI hS (runs_pick rfl rfl) fun _ hS => ?_
    refine sI hS (runs_move rfl) fun _ hS => ?_
    refine sN hS fun _ hS => ?_
    refine sN hS fun _ hS => ?_
    refine sI hS (runs_pick rfl rfl) fun _ hS => ?_
    refine nil_ok (wp_cond_true (hS.eval rfl) (qx_seq (reg_seq ?_)))
    refine sI hS (runs_assign rfl) fun _ hS => ?_
    refine sI hS (runs_assign rfl) fun _ hS => ?_
    have hok : splitOk k l = false := by unfold splitOk; simp; omega
    exact nil_ok (qx_ret (ret2 (t := 4) (u := 5) (by kernel_rfl) hS rfl rfl ⟨_, rfl, hB, _, by rw [hok]; rfl, (fun h => by rw [hok] at h; cases h), fun _ => rfl⟩))
  refine sI hS (lssF rfl rfl (by omega)) fun _ hS => ?_
  refine sI hS (runs_move rfl) fun _ hS => ?_
  refine sY hS (runs_move rfl) fun _ hS => ?_
  by_cases h2 : k > 64
  · skip
    refine sY hS (gtrT rfl rfl (by omega)) fun _ hS => ?_
    refine sI hS (runs_pick rfl rfl) fun _ hS => ?_
    refine sI hS (runs_move rfl) fun _ hS => ?_
    refine sN hS fun _ hS => ?_
    refine sN hS fun _ hS => ?_
    refine sI hS (runs_pick rfl rfl) fun _ hS => ?_
    refine nil_ok (wp_cond_true (hS.eval rfl) (qx_seq (reg_seq ?_)))
    refine sI hS (runs_assign rfl) fun _ hS => ?_
    refine sI hS (runs_assign rfl) fun _ hS => ?_
    have hok : splitOk k l = false := by unfold splitOk; simp; omega
    exact nil_ok (qx_ret (ret2 (t := 4) (u := 5) (by kernel_rfl) hS rfl rfl ⟨_, rfl, hB, _, by rw [hok]; rfl, (fun h => by rw [hok] at h; cases h), fun _ => rfl⟩))
  refine sY hS (gtrF rfl rfl (by omega)) fun _ hS => ?_
  refine sI hS (runs_pick rfl rfl) fun _ hS => ?_
  refine sI hS (runs_move rfl) fun _ hS => ?_
  refine sY hS (runs_move rfl) fun _ hS => ?_
  refine seq_yes hS (by decide) rfl (by decide) rfl (runs_call (args := [v, .func (.func 37) #[] #[]]) goes36 rfl (containsM_any l v w hE)) (fun v1 w1 a1 hp hS => ?_)
  obtain ⟨rfl, hB1⟩ := hp
  have hB := hB.trans (hB1.mono hB.size)
  have hE := hEb.kept hB
  by_cases h3 : (l.any (fun m : E => decide (m.2.1 < 0))) = true
  · skip
    rw [h3] at hS
    refine sI hS (runs_pick rfl rfl) fun _ hS => ?_
    refine nil_ok (wp_cond_true (hS.eval rfl) (qx_seq (reg_seq ?_)))
    refine sI hS (runs_assign rfl) fun _ hS => ?_
    refine sI hS (runs_assign rfl) fun _ hS => ?_
    have hok : splitOk k l = false := by unfold splitOk negB; rw [h3]; simp
    exact nil_ok (qx_ret (ret2 (t := 4) (u := 5) (by kernel_rfl) hS rfl rfl ⟨_, rfl, hB, _, by rw [hok]; rfl, (fun h => by rw [hok] at h; cases h), fun _ => rfl⟩))
  · skip
    rw [Bool.eq_false_iff.2 h3] at hS
    refine sI hS (runs_pick rfl rfl) fun _ hS => ?_
    refine nil_ok (wp_cond_false (hS.eval rfl) (wp_skip (qx_seq (?_))))
    obtain ⟨n, rfl⟩ : ∃ n : Nat, k = n := ⟨k.toNat, by omega⟩
    have hneg : negB l = false := Bool.eq_false_iff.2 h3
    refine reg_seq ?_
    refine sI hS (runs_move rfl) fun _ hS => ?_
    refine seq_op hS (by decide) (runs_makeMM rfl rfl (by omega)) (fun v3 w3 a1 hp hS => ?_)
    obtain ⟨rfl, hP, hB3⟩ := hp
    have hgpB : w.heap.size ≤ w1.heap.size := hB.size
    have hB := hB.trans (hB3.mono hB.size)
    have hE := hEb.kept hB
    obtain ⟨gp, hgp⟩ : ∃ gp, w1.heap.size = gp := ⟨_, rfl⟩
    rw [hgp] at hP hS hgpB
    refine sI hS (runs_assign rfl) fun _ hS => ?_
    refine nil_ok (qx_seq (qx_seq (reg_seq ?_)))
    refine sI hS (runs_move rfl) fun _ hS => ?_
    refine seq_op hS (by decide) (runs_call (args := [v]) goes11 rfl (msort_any l hsm v w3 hE)) (fun v5 w5 a1 hp hS => ?_)
    obtain ⟨hB5, hS0⟩ := hp
    have hS0 := hS0.edges
    obtain ⟨S, hSl⟩ : ∃ S, sortM l = S := ⟨_, rfl⟩
    have hlen := sortM_length l
    rw [hSl] at hS0 hlen
    obtain ⟨A, c, rfl, hc1, hc2, hAA⟩ := hS0
    have hSE : Edges w5 (.slice A S.length c) S := ⟨A, c, rfl, hc1, hc2, hAA⟩
    clear hAA
    have hB := hB.trans (hB5.mono hB.size)
    have hP := hP.below hB5 hP.lt
    refine sI hS (runs_len rfl und32) fun _ hS => ?_
    refine sI hS (runs_move rfl) fun _ hS => ?_
    refine nil_ok (?_)
    have hBW := hB
    have hP0 := hP
    refine qx_range (fun mm a w' => ∃ (i : Nat) (vs : List Value), i ≤ S.length ∧ mm = S.length - i ∧ But (fun q => q = gp) w5 w' ∧ Has w' gp 22 vs ∧ vs.length = n ∧ PartsI w' w5.heap.size n (S.take i) vs ∧ Sees 45 [(25, .int .i64 (i : Int)), (24, .int .i64 ((S.length : Nat) : Int)), (23, .slice A S.length c), (6, .slice (some ⟨gp, 0, none⟩) n n), (0, .int .i64 (n : Int))] a) S.length ⟨0, _, by omega, by omega, But.refl _ _, hP, by simp, parts_nil _ _ _ _ _, hS.only _ ⟨rfl, rfl, rfl, rfl, rfl, trivial⟩⟩ ?_
    clear hS hP
    rintro mm a wl1 ⟨i, vs, hi, rfl, hU, hP, hvs, hI, hS⟩
    have hUs := hU.size
    have hSE := edges_but hSE hU (by rintro q rfl; exact ⟨_, _, hP0, fun u hu x => by rw [List.mem_replicate] at hu; rw [hu.2]; simp⟩)
    have hB := Below.refl wl1.heap.size wl1
    have hIb := hI
    refine reg_seq ?_
    by_cases hlt1 : i < S.length
    · skip
      refine sI hS (lssT rfl rfl (by omega)) fun _ hS => ?_
      refine nil_ok ⟨_, hS.eval rfl, fun h => by simp at h, fun _ => ?_⟩
      obtain ⟨e, hei⟩ : ∃ e, S[i]? = some e := ⟨S[i], by simp [hlt1]⟩
      obtain ⟨b, o, rfl, hbw, hr⟩ := edges_row hSE (by omega)
      have hre := edges_at hr hei
      have hto : 0 ≤ e.2.1 := negB_no hneg (sortM_mem.1 (by rw [hSl]; exact List.mem_of_getElem? hei))
      obtain ⟨hr1, hr2⟩ := own_range (k := (n : Int)) hto (by omega) (by omega)
      obtain ⟨j, hj⟩ : ∃ j : Nat, own e.2.1 (n : Int) = j := ⟨(own e.2.1 (n : Int)).toNat, by omega⟩
      have hjn : j < n := by omega
      obtain ⟨sv, hsv⟩ : ∃ sv, vs[j]? = some sv := ⟨vs[j], by simp [hvs, hjn]⟩
      have hpl := ptL_le (n : Int) (S.take i) j
      have htk : (S.take i).length ≤ i := by simp; omega
      refine qx_seq (qx_block (qx_seq (reg_seq ?_)))
      refine sI hS (runs_indexAddrG (j := i) rfl rfl und32 sz41 rfl hlt1) fun _ hS => ?_
      refine sI hS (runs_loadM rfl hre) fun _ hS => ?_
      refine seq_op hS (by decide) (runs_allocB (cs := [.int .i64 0, .int .i64 0, .int .i64 0]) zo41 rfl) (fun v7 w7 a1 hp hS => ?_)
      obtain ⟨rfl, hM7, hB7⟩ := hp
      have hLhM7 : wl1.heap.size ≤ wl1.heap.size := hB.size
      have hB := hB.trans (hB7.mono hB.size)
      have hP := hP.below hB7 hP.lt
      refine seq_none hS (runs_storeB (cs := encE e) rfl rfl hM7 rfl rfl sz41) (fun v9 w9 a1 hp hS => ?_)
      have hQ9 := hM7
      obtain ⟨hM7, hU9⟩ := hp
      have hB := But.new hB hU9 (fun i e => by rw [e]; exact hLhM7) (Nat.le_refl _)
      have hP := hP.but hU9 (has_ne hP hQ9 (by decide))
      refine nil_ok (qx_seq (reg_seq ?_))
      refine sI hS (runs_fieldK fo41_1 rfl) fun _ hS => ?_
      refine sI hS (runs_load rfl pl3 (hM7.at rfl)) fun _ hS => ?_
      refine sI hS (runs_move rfl) fun _ hS => ?_
      refine sI hS (runs_call (args := [.int .i64 e.2.1, .int .i64 (n : Int)]) goes38 rfl (by have h := owner_any e.2.1 (n : Int) w9; rw [hj] at h; exact h)) fun _ hS => ?_
      refine sI hS (runs_assign rfl) fun _ hS => ?_
      refine nil_ok (?_)
      have hI := hIb.kept hB
      have hsvo := hI.1 j sv hsv
      have hsv0 := hI.2.1 j sv hsv
      have hsz8 := hB.size
      have hY : ptL (n : Int) (S.take (i + 1)) j = ptL (n : Int) (S.take i) j ++ [e] := by rw [List.take_add_one, hei, Option.toList_some, ptL_snoc, if_pos hj]
      obtain ⟨D, hD⟩ : ∃ D, ptL (n : Int) (S.take i) j = D := ⟨_, rfl⟩
      rw [hD] at hsvo hY hpl hsv0
      have hBs := hB.mono hUs
      refine reg_k (KZ w5.heap.size (cellsE (D ++ [e])) sv.ownBlock) (fun w' => KZ w5.heap.size (cellsE (D ++ [e])) sv.ownBlock w9 w') [.inl (.slice (some ⟨gp, 0, none⟩) n n), .inl (.int .i64 (j : Int)), .inl (.slice (some ⟨gp, 0, none⟩) n n), .inl (.int .i64 (j : Int)), .inl (.pointer (some ⟨gp, 0 + j * 1, none⟩)), .inl (sv), .inl (.agg (encE e).toArray), .inr (fun v w' => ∃ g5, v = .slice (some ⟨g5, 0, none⟩) 1 1 ∧ Has w' g5 41 (encE e)), .inr (fun v w' => (∃ g3 c3, v = .slice (some ⟨g3, 0, none⟩) (D.length + 1) c3) ∧ w'.ownsRow w5.heap.size 41 3 v (D.length + 1) (cellsE (D ++ [e])) ∧ (v.ownBlock = sv.ownBlock ∨ ∃ g, v.ownBlock = some g ∧ w9.heap.size ≤ g))] 9 2 mixed rfl (by kernel_rfl) hS KZ.refl (fun _ h => h.drew) ?_
      refine ks_is rfl (fun w' hw => runs_move rfl) ?_
      refine ks_is rfl (fun w' hw => runs_move rfl) ?_
      refine ks_is rfl (fun w' hw => runs_move rfl) ?_
      refine ks_is rfl (fun w' hw => runs_move rfl) ?_
      refine ks_is rfl (fun w' hw => runs_indexAddrG (j := j) rfl rfl undMM s1_22 rfl hjn) ?_
      refine ks_is rfl (fun w' hw => runs_load rfl pl22 ((hw.1.2.2.1 _ _ _ (by decide) hP).at (by rw [Nat.zero_add, Nat.mul_one]; exact hsv))) ?_
      refine ks_is rfl (fun w' hw => runs_loadRow rfl (hw.1.2.2.2 _ _ rfl hM7) Try.underlying41 rfl (by rw [sz41]; rfl)) ?_
      refine ks_pr rfl (fun _ _ _ h hk => by obtain ⟨g5, h1, h2⟩ := h; exact ⟨g5, h1, hk.1.2.2.2 _ _ rfl h2⟩) (fun w' hw hq => (runs_oneM rfl).mono (by rintro v w5 ⟨g5, h1, h2, hb⟩; exact ⟨⟨g5, h1, h2⟩, hw.trans (KZ.of_below hb (Nat.le_trans (Nat.le_trans hUs hsz8) hw.1.1.size)), KZ.of_below hb (Nat.le_trans (Nat.le_trans hUs hsz8) hw.1.1.size)⟩)) (fun u7 => ?_)
      refine ks_pr rfl (fun _ _ _ h hk => ⟨h.1, hk.1.2.1 _ _ _ (List.prefix_refl _) h.2.1, h.2.2⟩) (fun w' hw hq => (by obtain ⟨g5, rfl, hX⟩ := hq (7, _) List.mem_cons_self (by kernel_rfl); exact (app_ownY (B := w5.heap.size) (xs := D) (es := [e]) (n := D.length + 1) (edges_has1 hX) (by simp; omega) (Nat.le_trans (Nat.le_trans hUs hsz8) hw.1.1.size) rfl (hw.1.2.1 _ _ _ (by rw [cellsE_append]; exact List.prefix_append _ _) hsvo) rfl (.inl (by simp)) (fun _ => by rcases Nat.eq_zero_or_pos D.length with h | h; exact .inr (fun g m c e => by rw [hsv0 h] at e; cases e); exact .inl (by omega)) rfl).mono (by rintro v w5 ⟨h1, h2, hk, hf, hl⟩; exact ⟨⟨h1, h2, hl.imp id (fun ⟨g, e, hg⟩ => ⟨g, e, Nat.le_trans hw.1.1.size hg⟩)⟩, hw.trans ⟨hk, hf⟩, ⟨hk, hf⟩⟩))) (fun u8 => ?_)
      refine (fun a11 w11 hS hK11 hq => ?_)

      obtain ⟨⟨g3, c3, rfl⟩, h8, hloc⟩ := (hq (8, _) List.mem_cons_self)
      clear hq
      have hBs := hBs.trans hK11.1.1
      have hP := hK11.1.2.2.1 _ _ _ (by decide) hP
      rw [List.take_add_one, hei, Option.toList_some] at hY
      have hI2 := hI.step hj hsv (by rw [hY, List.length_append]; exact h8) hK11.2 hloc
      refine tail_op 9 (by kernel_rfl) rfl hS (by decide) (runs_indexAddrG (j := j) rfl rfl undMM s1_22 rfl hjn) (fun v12 w12 a12 hp hS => ⟨trivial, ?_⟩)
      obtain ⟨rfl, rfl⟩ := hp
      refine tail_none 10 (by kernel_rfl) rfl hS (runs_storeC (u := sv) rfl rfl rfl s1_22 hP (by rw [Nat.zero_add, Nat.mul_one]; exact hsv)) (fun v13 w13 a13 hp hS => ⟨trivial, ?_⟩)
      obtain ⟨hP2, hU13⟩ := hp
      rw [Nat.zero_add, Nat.mul_one] at hP2
      have hI2 := hI2.but hU13 (fun i old ho e => by subst e; exact has_ne ho hP (by decide) rfl)
      rw [show S.take i ++ [e] = S.take (i + 1) by rw [List.take_add_one, hei, Option.toList_some]] at hI2
      refine wpAnyH_done (by kernel_rfl) ?_ _
      refine reg_seq ?_
      refine sI hS (runs_add (r := ((i + 1 : Nat) : Int)) rfl rfl (by simp [IntKind.wrap, IntKind.bits, IntKind.signed]; omega)) fun _ hS => ?_
      refine sI hS (runs_move rfl) fun _ hS => ?_
      exact nil_ok ⟨_, by omega, i + 1, _, by omega, rfl, hU.step hBs hU13, hP2, by rw [List.length_set]; exact hvs, hI2, hS.only _ ⟨rfl, rfl, rfl, rfl, rfl, trivial⟩⟩
    refine sI hS (lssF rfl rfl (by omega)) fun _ hS => ?_
    obtain rfl : i = S.length := by omega
    refine nil_ok ⟨_, hS.eval rfl, fun _ => ?_, fun h => by simp at h⟩
    rw [List.take_length] at hI
    refine qx_seq (reg_seq ?_)
    refine sI hS (runs_move rfl) fun _ hS => ?_
    refine sI hS (runs_assign rfl) fun _ hS => ?_
    refine sI hS (runs_assign rfl) fun _ hS => ?_
    have hok : splitOk (n : Int) l = true := splitOk_iff.2 ⟨by omega, by omega, hneg⟩
    have hsp : (splitL (n : Int) l).length = n := by rw [splitL_length, Int.toNat_natCast]
    have hB := But.new hBW hU (fun i e => by rw [e]; exact hgpB) (Nat.le_refl _)
    exact nil_ok (qx_ret (ret2 (t := 4) (u := 5) (by kernel_rfl) hS rfl rfl ⟨_, rfl, hB, _, by rw [hok]; rfl, (fun _ => ⟨gp, 0, n, by rw [hsp], by rw [hsp]; exact Nat.le_refl _, hP.lt, vs, by rw [hsp, hvs], fun j u hu => by rw [Nat.zero_add, hP.cell]; exact hu, fun j u l2 hu hl2 => by have hjn := (List.getElem?_eq_some_iff.1 hu).1; rw [splitL_get (by rw [Int.toNat_natCast]; omega), ← ptL_sort, hSl] at hl2; cases hl2; exact edges_ownE (hI.1 j u hu) rfl⟩), (fun h => by rw [hok] at h; cases h)⟩))
end Go.Proofs.Ythenbmalnmaofaa
