/- What the document of layer 10 gets of bytes. Conditions: at most 100000 bytes. -/
import Derived.Test.YtbcmglggplmkfaaDoorJM
import Derived.Test.YtbcmglggplmkfaaDoorJB
namespace Go.Proofs.YtbcmglggplmkfaaDoor
open Go.RowKit
set_option maxRecDepth 100000

theorem goes15 : Goes Tryd.prog 15 := goes_of Tryd.func15 (by kernel_rfl) rfl
theorem goes36 : Goes Tryd.prog 36 := goes_of Tryd.func36 (by kernel_rfl) rfl
set_option maxHeartbeats 1000000 in
theorem rget_any (s : ByteArray) (hs : s.size ≤ 100000) (w : World) : Ans 15 [.string s] w (fun u w' => u = .tuple #[vv (getX (bl s)).1, .int .i64 ((getX (bl s)).2 : Int)] ∧ Below w.heap.size w w') := by
  refine calls_qx (args := [.string s]) 93 Tryd.func15 rfl (by kernel_rfl) (by simp) (fun a hS => ?_)
  have hB := Below.refl w.heap.size w
  refine qx_seq (reg_seq ?_)
  refine seq_op hS (by decide) (runs_allocB (cs := [.int .i64 0, .int .i64 0, .bool false, .bool false, .int .i64 0]) zo28 rfl) (fun v1 w1 a1 hp hS => ?_)
  obtain ⟨rfl, hM1, hB1⟩ := hp
  have hB := hB.trans (hB1.mono hB.size)
  refine sI hS (runs_assign rfl) fun _ hS => ?_
  refine nil_ok (qx_seq (?_))
  have hBpre0 := hB
  have hB := Below.refl w1.heap.size w1
  have hM1b := hM1
  refine reg_seq ?_
  refine seq_op hS (by decide) (none_ownF (B := w1.heap.size) hB.size) (fun v3 w3 a1 hp hS => ?_)
  obtain ⟨g0, rfl, h0, hB3⟩ := hp
  have hB := hB.trans (hB3.mono hB.size)
  have hM1 := hM1b.below hB hM1b.lt
  refine sI hS (runs_assign rfl) fun _ hS => ?_
  refine nil_ok (qx_seq (qx_seq (reg_seq ?_)))
  refine sI hS (runs_assign rfl) fun _ hS => ?_
  refine nil_ok (?_)
  refine qx_for (fun mm a w' => ∃ (i : Nat) (ns : List Nat) (cur : ByteArray) (ov : Value), i ≤ 5 ∧ mm = 5 - i ∧ Below w1.heap.size w1 w' ∧ ns.length = i ∧ (∀ n ∈ ns, n < 18446744073709551616) ∧ cur.size ≤ s.size ∧ RdI (bl s) i ns (bl cur) ∧ w'.ownsRow w1.heap.size 66 37 ov i (rowF 0 ns) ∧ (i = 0 → ∀ g m c, ov = .slice (some g) m c → c = 0) ∧ Sees 93 [(5, .int .i64 (i : Int)), (4, ov), (2, .pointer (some ⟨w.heap.size, 0, none⟩)), (0, .string cur)] a) 5 ⟨0, [], s, _, by omega, by omega, hB, rfl, (fun n hn => by cases hn), Nat.le_refl _, RdI.zero _, h0, (fun _ g m c e => by cases e; rfl), hS.only _ ⟨rfl, rfl, rfl, rfl, trivial⟩⟩ ?_
  clear hS 
  rintro mm a wl1 ⟨i, ns, cur, ov, hi1, rfl, hBb1, hlen, hall, hcs, hrdI, hown, hz, hS⟩
  have hBsz1 := hBb1.size
  have hM1 := hM1b.below hBb1 hM1b.lt
  have hB := Below.refl wl1.heap.size wl1
  have hM1b1 := hM1
  refine reg_seq ?_
  refine sI hS (runs_move rfl) fun _ hS => ?_
  by_cases hlt1 : i < 5
  · skip
    refine sI hS (lssT rfl rfl (by omega)) fun _ hS => ?_
    refine nil_ok ⟨_, hS.eval rfl, fun h => by simp at h, fun _ => ?_⟩
    refine qx_seq (qx_block (qx_seq (reg_seq ?_)))
    refine sI hS (runs_assign rfl) fun _ hS => ?_
    refine nil_ok (qx_seq (qx_seq (reg_seq ?_)))
    refine sI hS (runs_move rfl) fun _ hS => ?_
    by_cases k1 : i = 1
    · skip
      refine sI hS (runs_eql (r := true) rfl rfl (by first | rfl | (simp; done) | (simp; omega))) fun _ hS => ?_
      refine sI hS (runs_move rfl) fun _ hS => ?_
      refine sN hS fun _ hS => ?_
      refine sN hS fun _ hS => ?_
      refine sI hS (runs_pick rfl rfl) fun _ hS => ?_
      refine nil_ok (wp_cond_true (hS.eval rfl) (reg_seq ?_))
      refine sI hS (runs_assign rfl) fun _ hS => ?_
      refine nil_ok (qx_seq (?_))
      have hF : ∀ n, fldAt i n = fi1 (Wire.unfold_ n) := fun n => if_pos (by omega)
      by_cases hrd : (Wire.rd (bl cur)).2.2 = 0
      · skip
        refine reg_seq ?_
        refine sI hS (runs_move rfl) fun _ hS => ?_
        refine sI hS (runs_move rfl) fun _ hS => ?_
        refine sI hS (runs_buildK (pv := [(0, .int .i64 1)]) (cells := (fi1 0).cells.toArray) rfl (by kernel_rfl)) fun _ hS => ?_
        refine seq_op hS (by decide) (runs_call (args := [.string cur, (fi1 0).val]) goes36 rfl (rget1_ok (by omega) hrd)) (fun v5 w5 a1 hp hS => ?_)
        obtain ⟨rfl, hB5⟩ := hp
        have hB := hB.trans (hB5.mono hB.size)
        have hM1 := hM1b1.below hB hM1b1.lt
        refine sI hS (runs_move rfl) fun _ hS => ?_
        refine sI hS (runs_extract rfl rfl) fun _ hS => ?_
        refine sI hS (runs_extract rfl rfl) fun _ hS => ?_
        refine sI hS (runs_extract rfl rfl) fun _ hS => ?_
        refine seq_op hS (by decide) (runs_allocB (cs := (fn0 0).cells) zo67 rfl) (fun v7 w7 a1 hp hS => ?_)
        obtain ⟨rfl, hM7, hB7⟩ := hp
        have hLhM7 : wl1.heap.size ≤ w5.heap.size := hB.size
        have hB := hB.trans (hB7.mono hB.size)
        have hM1 := hM1b1.below hB hM1b1.lt
        refine seq_none hS (runs_storeB (cs := (fi1 (Wire.unfold_ (Wire.rd (bl cur)).1)).cells) rfl rfl hM7 rfl rfl sz67) (fun v9 w9 a1 hp hS => ?_)
        obtain ⟨hM7, hU9⟩ := hp
        have hB := But.new hB hU9 (fun i e => by rw [e]; exact hLhM7) (Nat.le_refl _)
        have hM1 := hM1b1.below hB hM1b1.lt
        refine sI hS (runs_assign rfl) fun _ hS => ?_
        refine sI hS (runs_assign rfl) fun _ hS => ?_
        refine nil_ok (qx_seq (qx_seq (reg_seq ?_)))
        refine sI hS (runs_move rfl) fun _ hS => ?_
        refine sI hS (runs_neq (r := false) rfl rfl (by simp)) fun _ hS => ?_
        refine nil_ok (wp_cond_false (hS.eval rfl) (wp_skip (?_)))
        have hownW := owns_kept hown hB
        have hszW : w1.heap.size ≤ w9.heap.size := Nat.le_trans hBsz1 hB.size
        obtain ⟨hk1, _, hk3, hk2⟩ := Wire.rd_back (bl cur) (Wire.rd (bl cur)).1 (Wire.rd (bl cur)).2.1 (bl_bytes cur) (by rw [← hrd])
        rw [bl_length] at hk1
        have hcap : 0 < i ∨ ∀ g m c, ov = .slice (some g) m c → c = 0 := (Nat.eq_zero_or_pos i).elim (fun h => .inr (hz h)) .inl
        refine reg_x (KR 66 37 w1.heap.size (rowF 0 ns ++ (fi1 (Wire.unfold_ (Wire.rd (bl cur)).1)).cells)) (fun w' => KR 66 37 w1.heap.size (rowF 0 ns ++ (fi1 (Wire.unfold_ (Wire.rd (bl cur)).1)).cells) w9 w') [.inl (ov), .inl ((fi1 (Wire.unfold_ (Wire.rd (bl cur)).1)).val), .inr (fun v w' => ∃ g5, v = .slice (some ⟨g5, 0, none⟩) 1 1 ∧ Has w' g5 66 (fi1 (Wire.unfold_ (Wire.rd (bl cur)).1)).cells), .inr (fun v w' => (∃ g3 c3, v = .slice (some ⟨g3, 0, none⟩) (i + 1) c3) ∧ w'.ownsRow w1.heap.size 66 37 v (i + 1) (rowF 0 ns ++ (fi1 (Wire.unfold_ (Wire.rd (bl cur)).1)).cells)), .inl (.string cur), .inl (.int .i64 ((Wire.rd (bl cur)).2.1 : Int)), .inl (.string (cut cur (Wire.rd (bl cur)).2.1)), .inr (fun v w' => (∃ g3 c3, v = .slice (some ⟨g3, 0, none⟩) (i + 1) c3) ∧ w'.ownsRow w1.heap.size 66 37 v (i + 1) (rowF 0 ns ++ (fi1 (Wire.unfold_ (Wire.rd (bl cur)).1)).cells)), .inl (.string (cut cur (Wire.rd (bl cur)).2.1))] 9 0 mixed rfl (by kernel_rfl) hS KR.refl (fun _ h => h.drew) ?_
        refine ks_is rfl (fun w' hw => runs_move rfl) ?_
        refine ks_is rfl (fun w' hw => runs_loadRow rfl (hw.2.2.2 _ _ rfl hM7) Tryd.underlying66 rfl (by rw [sz67]; rfl)) ?_
        refine ks_pr rfl (fun _ _ _ h hk => by obtain ⟨g5, h1, h2⟩ := h; exact ⟨g5, h1, hk.2.2.2 _ _ rfl h2⟩) (fun w' hw hq => (runs_oneF1 rfl).mono (by rintro v w5 ⟨g5, h1, h2, hb⟩; exact ⟨⟨g5, h1, h2⟩, hw.trans (KR.of_below hb (Nat.le_trans hszW hw.1.size)), KR.of_below hb (Nat.le_trans hszW hw.1.size)⟩)) (fun u2 => ?_)
        refine ks_pr rfl (fun _ _ _ h hk => ⟨h.1, hk.2.1 _ _ _ (List.prefix_refl _) h.2⟩) (fun w' hw hq => (by obtain ⟨g5, rfl, hX⟩ := hq (2, _) List.mem_cons_self (by kernel_rfl); exact (push_ownF rfl (hw.2.1 _ _ _ (List.prefix_append _ _) hownW) rfl hX rfl (by omega) (Nat.le_trans hszW hw.1.size) hcap).mono (by rintro v w5 ⟨h1, h2, h3⟩; exact ⟨⟨h1, h2⟩, hw.trans h3, h3⟩))) (fun u3 => ?_)
        refine ks_is rfl (fun w' hw => runs_move rfl) ?_
        refine ks_is rfl (fun w' hw => runs_move rfl) ?_
        refine ks_is rfl (fun w' hw => runs_cutS rfl rfl hk1) ?_
        refine ks_pr rfl (fun _ _ _ h hk => ⟨h.1, hk.2.1 _ _ _ (List.prefix_refl _) h.2⟩) (fun w' hw hq => (by have h := hq (3, _) List.mem_cons_self (by kernel_rfl); exact (runs_assign rfl).mono (by rintro v w5 ⟨rfl, rfl⟩; exact ⟨h, hw, KR.refl⟩))) (fun u7 => ?_)
        refine ks_is rfl (fun w' hw => runs_assign rfl) ?_
        refine (fun a11 w11 hS hK11 hq => ?_)


        obtain ⟨⟨g3, c3, rfl⟩, h41⟩ := (hq (7, _) List.mem_cons_self)
        clear hq
        refine wpAnyH_done (by kernel_rfl) ?_ _
        refine reg_seq ?_
        refine sI hS (runs_move rfl) fun _ hS => ?_
        refine sI hS (runs_add (r := ((i + 1 : Nat) : Int)) rfl rfl (by simp [IntKind.wrap, IntKind.bits, IntKind.signed]; omega)) fun _ hS => ?_
        refine sI hS (runs_assign rfl) fun _ hS => ?_
        exact nil_ok ⟨_, by omega, i + 1, ns ++ [(Wire.rd (bl cur)).1], cut cur (Wire.rd (bl cur)).2.1, _, by omega, rfl, hBb1.trans ((hB.mono hBb1.size).trans hK11.1), by simp [hlen], (fun n hn => by rcases List.mem_append.1 hn with h | h; exact hall n h; rw [List.mem_singleton] at h; rw [h]; exact hk2), by rw [cut, ByteArray.size_extract]; omega, by rw [bl_cut]; exact hrdI.step hlt1 hrd, by rw [rowF_snoc, hlen, Nat.zero_add, hF]; exact h41, (fun h => by omega), hS.only _ ⟨rfl, rfl, rfl, rfl, trivial⟩⟩
      · skip
        refine reg_seq ?_
        refine sI hS (runs_move rfl) fun _ hS => ?_
        refine sI hS (runs_move rfl) fun _ hS => ?_
        refine sI hS (runs_buildK (pv := [(0, .int .i64 1)]) (cells := (fi1 0).cells.toArray) rfl (by kernel_rfl)) fun _ hS => ?_
        refine seq_op hS (by decide) (runs_call (args := [.string cur, (fi1 0).val]) goes36 rfl (rget1_bad (by omega) hrd)) (fun v12 w12 a1 hp hS => ?_)
        obtain ⟨rfl, hB12⟩ := hp
        have hB := hB.trans (hB12.mono hB.size)
        have hM1 := hM1b1.below hB hM1b1.lt
        refine sI hS (runs_move rfl) fun _ hS => ?_
        refine sI hS (runs_extract rfl rfl) fun _ hS => ?_
        refine sI hS (runs_extract rfl rfl) fun _ hS => ?_
        refine sI hS (runs_extract rfl rfl) fun _ hS => ?_
        refine seq_op hS (by decide) (runs_allocB (cs := (fn0 0).cells) zo67 rfl) (fun v14 w14 a1 hp hS => ?_)
        obtain ⟨rfl, hM14, hB14⟩ := hp
        have hLhM14 : wl1.heap.size ≤ w12.heap.size := hB.size
        have hB := hB.trans (hB14.mono hB.size)
        have hM1 := hM1b1.below hB hM1b1.lt
        refine seq_none hS (runs_storeB (cs := (fn0 0).cells) rfl rfl hM14 rfl rfl sz67) (fun v16 w16 a1 hp hS => ?_)
        obtain ⟨hM14, hU16⟩ := hp
        have hB := But.new hB hU16 (fun i e => by rw [e]; exact hLhM14) (Nat.le_refl _)
        have hM1 := hM1b1.below hB hM1b1.lt
        refine sI hS (runs_assign rfl) fun _ hS => ?_
        refine sI hS (runs_assign rfl) fun _ hS => ?_
        refine nil_ok (qx_seq (qx_seq (reg_seq ?_)))
        refine sI hS (runs_move rfl) fun _ hS => ?_
        refine sI hS (runs_neq (r := true) rfl rfl (by simpa using hrd)) fun _ hS => ?_
        refine nil_ok (wp_cond_true (hS.eval rfl) (qx_seq (reg_seq ?_)))
        refine sI hS (runs_buildK (pv := []) (cells := #[.int .i64 0, .int .i64 0, .bool false, .bool false, .int .i64 0]) rfl (by kernel_rfl)) fun _ hS => ?_
        refine sI hS (runs_move rfl) fun _ hS => ?_
        refine seq_none hS (runs_storeB (cs := [.int .i64 0, .int .i64 0, .bool false, .bool false, .int .i64 0]) rfl rfl hM1 rfl rfl sz28) (fun v18 w18 a1 hp hS => ?_)
        obtain ⟨hM1, hU18⟩ := hp
        have hT := But.new (hBpre0.trans (((hBb1.trans ((hB).mono hBb1.size))).mono hBpre0.size)) hU18 (fun i e => by rw [e]; exact Nat.le_refl _) (Nat.le_refl _)
        refine sI hS (runs_assign rfl) fun _ hS => ?_
        have hfin := getX_err (hrdI.err hlt1 hrd) hrd
        exact nil_ok (qx_ret (retRow2 (p := 2) (t := 3) (ty := 23) (by kernel_rfl) hS rfl rfl hM1 Tryd.underlying23 rfl (by rw [sz28]; rfl) ⟨_, rfl, by rw [hfin]; rfl, hT⟩))
    refine sI hS (runs_eql (r := false) rfl rfl (by first | rfl | (simp; done) | (simp; omega))) fun _ hS => ?_
    refine sI hS (runs_move rfl) fun _ hS => ?_
    refine sY hS (runs_move rfl) fun _ hS => ?_
    by_cases k4 : i = 4
    · skip
      refine sY hS (runs_eql (r := true) rfl rfl (by first | rfl | (simp; done) | (simp; omega))) fun _ hS => ?_
      refine sI hS (runs_pick rfl rfl) fun _ hS => ?_
      refine nil_ok (wp_cond_true (hS.eval rfl) (reg_seq ?_))
      refine sI hS (runs_assign rfl) fun _ hS => ?_
      refine nil_ok (qx_seq (?_))
      have hF : ∀ n, fldAt i n = fi1 (Wire.unfold_ n) := fun n => if_pos (by omega)
      by_cases hrd : (Wire.rd (bl cur)).2.2 = 0
      · skip
        refine reg_seq ?_
        refine sI hS (runs_move rfl) fun _ hS => ?_
        refine sI hS (runs_move rfl) fun _ hS => ?_
        refine sI hS (runs_buildK (pv := [(0, .int .i64 1)]) (cells := (fi1 0).cells.toArray) rfl (by kernel_rfl)) fun _ hS => ?_
        refine seq_op hS (by decide) (runs_call (args := [.string cur, (fi1 0).val]) goes36 rfl (rget1_ok (by omega) hrd)) (fun v19 w19 a1 hp hS => ?_)
        obtain ⟨rfl, hB19⟩ := hp
        have hB := hB.trans (hB19.mono hB.size)
        have hM1 := hM1b1.below hB hM1b1.lt
        refine sI hS (runs_move rfl) fun _ hS => ?_
        refine sI hS (runs_extract rfl rfl) fun _ hS => ?_
        refine sI hS (runs_extract rfl rfl) fun _ hS => ?_
        refine sI hS (runs_extract rfl rfl) fun _ hS => ?_
        refine seq_op hS (by decide) (runs_allocB (cs := (fn0 0).cells) zo67 rfl) (fun v21 w21 a1 hp hS => ?_)
        obtain ⟨rfl, hM21, hB21⟩ := hp
        have hLhM21 : wl1.heap.size ≤ w19.heap.size := hB.size
        have hB := hB.trans (hB21.mono hB.size)
        have hM1 := hM1b1.below hB hM1b1.lt
        refine seq_none hS (runs_storeB (cs := (fi1 (Wire.unfold_ (Wire.rd (bl cur)).1)).cells) rfl rfl hM21 rfl rfl sz67) (fun v23 w23 a1 hp hS => ?_)
        obtain ⟨hM21, hU23⟩ := hp
        have hB := But.new hB hU23 (fun i e => by rw [e]; exact hLhM21) (Nat.le_refl _)
        have hM1 := hM1b1.below hB hM1b1.lt
        refine sI hS (runs_assign rfl) fun _ hS => ?_
        refine sI hS (runs_assign rfl) fun _ hS => ?_
        refine nil_ok (qx_seq (qx_seq (reg_seq ?_)))
        refine sI hS (runs_move rfl) fun _ hS => ?_
        refine sI hS (runs_neq (r := false) rfl rfl (by simp)) fun _ hS => ?_
        refine nil_ok (wp_cond_false (hS.eval rfl) (wp_skip (?_)))
        have hownW := owns_kept hown hB
        have hszW : w1.heap.size ≤ w23.heap.size := Nat.le_trans hBsz1 hB.size
        obtain ⟨hk1, _, hk3, hk2⟩ := Wire.rd_back (bl cur) (Wire.rd (bl cur)).1 (Wire.rd (bl cur)).2.1 (bl_bytes cur) (by rw [← hrd])
        rw [bl_length] at hk1
        have hcap : 0 < i ∨ ∀ g m c, ov = .slice (some g) m c → c = 0 := (Nat.eq_zero_or_pos i).elim (fun h => .inr (hz h)) .inl
        refine reg_x (KR 66 37 w1.heap.size (rowF 0 ns ++ (fi1 (Wire.unfold_ (Wire.rd (bl cur)).1)).cells)) (fun w' => KR 66 37 w1.heap.size (rowF 0 ns ++ (fi1 (Wire.unfold_ (Wire.rd (bl cur)).1)).cells) w23 w') [.inl (ov), .inl ((fi1 (Wire.unfold_ (Wire.rd (bl cur)).1)).val), .inr (fun v w' => ∃ g5, v = .slice (some ⟨g5, 0, none⟩) 1 1 ∧ Has w' g5 66 (fi1 (Wire.unfold_ (Wire.rd (bl cur)).1)).cells), .inr (fun v w' => (∃ g3 c3, v = .slice (some ⟨g3, 0, none⟩) (i + 1) c3) ∧ w'.ownsRow w1.heap.size 66 37 v (i + 1) (rowF 0 ns ++ (fi1 (Wire.unfold_ (Wire.rd (bl cur)).1)).cells)), .inl (.string cur), .inl (.int .i64 ((Wire.rd (bl cur)).2.1 : Int)), .inl (.string (cut cur (Wire.rd (bl cur)).2.1)), .inr (fun v w' => (∃ g3 c3, v = .slice (some ⟨g3, 0, none⟩) (i + 1) c3) ∧ w'.ownsRow w1.heap.size 66 37 v (i + 1) (rowF 0 ns ++ (fi1 (Wire.unfold_ (Wire.rd (bl cur)).1)).cells)), .inl (.string (cut cur (Wire.rd (bl cur)).2.1))] 9 0 mixed rfl (by kernel_rfl) hS KR.refl (fun _ h => h.drew) ?_
        refine ks_is rfl (fun w' hw => runs_move rfl) ?_
        refine ks_is rfl (fun w' hw => runs_loadRow rfl (hw.2.2.2 _ _ rfl hM21) Tryd.underlying66 rfl (by rw [sz67]; rfl)) ?_
        refine ks_pr rfl (fun _ _ _ h hk => by obtain ⟨g5, h1, h2⟩ := h; exact ⟨g5, h1, hk.2.2.2 _ _ rfl h2⟩) (fun w' hw hq => (runs_oneF1 rfl).mono (by rintro v w5 ⟨g5, h1, h2, hb⟩; exact ⟨⟨g5, h1, h2⟩, hw.trans (KR.of_below hb (Nat.le_trans hszW hw.1.size)), KR.of_below hb (Nat.le_trans hszW hw.1.size)⟩)) (fun u2 => ?_)
        refine ks_pr rfl (fun _ _ _ h hk => ⟨h.1, hk.2.1 _ _ _ (List.prefix_refl _) h.2⟩) (fun w' hw hq => (by obtain ⟨g5, rfl, hX⟩ := hq (2, _) List.mem_cons_self (by kernel_rfl); exact (push_ownF rfl (hw.2.1 _ _ _ (List.prefix_append _ _) hownW) rfl hX rfl (by omega) (Nat.le_trans hszW hw.1.size) hcap).mono (by rintro v w5 ⟨h1, h2, h3⟩; exact ⟨⟨h1, h2⟩, hw.trans h3, h3⟩))) (fun u3 => ?_)
        refine ks_is rfl (fun w' hw => runs_move rfl) ?_
        refine ks_is rfl (fun w' hw => runs_move rfl) ?_
        refine ks_is rfl (fun w' hw => runs_cutS rfl rfl hk1) ?_
        refine ks_pr rfl (fun _ _ _ h hk => ⟨h.1, hk.2.1 _ _ _ (List.prefix_refl _) h.2⟩) (fun w' hw hq => (by have h := hq (3, _) List.mem_cons_self (by kernel_rfl); exact (runs_assign rfl).mono (by rintro v w5 ⟨rfl, rfl⟩; exact ⟨h, hw, KR.refl⟩))) (fun u7 => ?_)
        refine ks_is rfl (fun w' hw => runs_assign rfl) ?_
        refine (fun a25 w25 hS hK25 hq => ?_)


        obtain ⟨⟨g3, c3, rfl⟩, h41⟩ := (hq (7, _) List.mem_cons_self)
        clear hq
        refine wpAnyH_done (by kernel_rfl) ?_ _
        refine reg_seq ?_
        refine sI hS (runs_move rfl) fun _ hS => ?_
        refine sI hS (runs_add (r := ((i + 1 : Nat) : Int)) rfl rfl (by simp [IntKind.wrap, IntKind.bits, IntKind.signed]; omega)) fun _ hS => ?_
        refine sI hS (runs_assign rfl) fun _ hS => ?_
        exact nil_ok ⟨_, by omega, i + 1, ns ++ [(Wire.rd (bl cur)).1], cut cur (Wire.rd (bl cur)).2.1, _, by omega, rfl, hBb1.trans ((hB.mono hBb1.size).trans hK25.1), by simp [hlen], (fun n hn => by rcases List.mem_append.1 hn with h | h; exact hall n h; rw [List.mem_singleton] at h; rw [h]; exact hk2), by rw [cut, ByteArray.size_extract]; omega, by rw [bl_cut]; exact hrdI.step hlt1 hrd, by rw [rowF_snoc, hlen, Nat.zero_add, hF]; exact h41, (fun h => by omega), hS.only _ ⟨rfl, rfl, rfl, rfl, trivial⟩⟩
      · skip
        refine reg_seq ?_
        refine sI hS (runs_move rfl) fun _ hS => ?_
        refine sI hS (runs_move rfl) fun _ hS => ?_
        refine sI hS (runs_buildK (pv := [(0, .int .i64 1)]) (cells := (fi1 0).cells.toArray) rfl (by kernel_rfl)) fun _ hS => ?_
        refine seq_op hS (by decide) (runs_call (args := [.string cur, (fi1 0).val]) goes36 rfl (rget1_bad (by omega) hrd)) (fun v26 w26 a1 hp hS => ?_)
        obtain ⟨rfl, hB26⟩ := hp
        have hB := hB.trans (hB26.mono hB.size)
        have hM1 := hM1b1.below hB hM1b1.lt
        refine sI hS (runs_move rfl) fun _ hS => ?_
        refine sI hS (runs_extract rfl rfl) fun _ hS => ?_
        refine sI hS (runs_extract rfl rfl) fun _ hS => ?_
        refine sI hS (runs_extract rfl rfl) fun _ hS => ?_
        refine seq_op hS (by decide) (runs_allocB (cs := (fn0 0).cells) zo67 rfl) (fun v28 w28 a1 hp hS => ?_)
        obtain ⟨rfl, hM28, hB28⟩ := hp
        have hLhM28 : wl1.heap.size ≤ w26.heap.size := hB.size
        have hB := hB.trans (hB28.mono hB.size)
        have hM1 := hM1b1.below hB hM1b1.lt
        refine seq_none hS (runs_storeB (cs := (fn0 0).cells) rfl rfl hM28 rfl rfl sz67) (fun v30 w30 a1 hp hS => ?_)
        obtain ⟨hM28, hU30⟩ := hp
        have hB := But.new hB hU30 (fun i e => by rw [e]; exact hLhM28) (Nat.le_refl _)
        have hM1 := hM1b1.below hB hM1b1.lt
        refine sI hS (runs_assign rfl) fun _ hS => ?_
        refine sI hS (runs_assign rfl) fun _ hS => ?_
        refine nil_ok (qx_seq (qx_seq (reg_seq ?_)))
        refine sI hS (runs_move rfl) fun _ hS => ?_
        refine sI hS (runs_neq (r := true) rfl rfl (by simpa using hrd)) fun _ hS => ?_
        refine nil_ok (wp_cond_true (hS.eval rfl) (qx_seq (reg_seq ?_)))
        refine sI hS (runs_buildK (pv := []) (cells := #[.int .i64 0, .int .i64 0, .bool false, .bool false, .int .i64 0]) rfl (by kernel_rfl)) fun _ hS => ?_
        refine sI hS (runs_move rfl) fun _ hS => ?_
        refine seq_none hS (runs_storeB (cs := [.int .i64 0, .int .i64 0, .bool false, .bool false, .int .i64 0]) rfl rfl hM1 rfl rfl sz28) (fun v32 w32 a1 hp hS => ?_)
        obtain ⟨hM1, hU32⟩ := hp
        have hT := But.new (hBpre0.trans (((hBb1.trans ((hB).mono hBb1.size))).mono hBpre0.size)) hU32 (fun i e => by rw [e]; exact Nat.le_refl _) (Nat.le_refl _)
        refine sI hS (runs_assign rfl) fun _ hS => ?_
        have hfin := getX_err (hrdI.err hlt1 hrd) hrd
        exact nil_ok (qx_ret (retRow2 (p := 2) (t := 3) (ty := 23) (by kernel_rfl) hS rfl rfl hM1 Tryd.underlying23 rfl (by rw [sz28]; rfl) ⟨_, rfl, by rw [hfin]; rfl, hT⟩))
    refine sY hS (runs_eql (r := false) rfl rfl (by first | rfl | (simp; done) | (simp; omega))) fun _ hS => ?_
    refine sI hS (runs_pick rfl rfl) fun _ hS => ?_
    refine nil_ok (wp_cond_false (hS.eval rfl) (wp_skip (qx_seq (?_))))
    have hF : ∀ n, fldAt i n = fn0 n := fun n => if_neg (by omega)
    by_cases hrd : (Wire.rd (bl cur)).2.2 = 0
    · skip
      refine reg_seq ?_
      refine sI hS (runs_move rfl) fun _ hS => ?_
      refine sI hS (runs_move rfl) fun _ hS => ?_
      refine sI hS (runs_buildK (pv := [(0, .int .i64 0)]) (cells := (fn0 0).cells.toArray) rfl (by kernel_rfl)) fun _ hS => ?_
      refine seq_op hS (by decide) (runs_call (args := [.string cur, (fn0 0).val]) goes36 rfl (rget0_ok (by omega) hrd)) (fun v33 w33 a1 hp hS => ?_)
      obtain ⟨rfl, hB33⟩ := hp
      have hB := hB.trans (hB33.mono hB.size)
      have hM1 := hM1b1.below hB hM1b1.lt
      refine sI hS (runs_move rfl) fun _ hS => ?_
      refine sI hS (runs_extract rfl rfl) fun _ hS => ?_
      refine sI hS (runs_extract rfl rfl) fun _ hS => ?_
      refine sI hS (runs_extract rfl rfl) fun _ hS => ?_
      refine seq_op hS (by decide) (runs_allocB (cs := (fn0 0).cells) zo67 rfl) (fun v35 w35 a1 hp hS => ?_)
      obtain ⟨rfl, hM35, hB35⟩ := hp
      have hLhM35 : wl1.heap.size ≤ w33.heap.size := hB.size
      have hB := hB.trans (hB35.mono hB.size)
      have hM1 := hM1b1.below hB hM1b1.lt
      refine seq_none hS (runs_storeB (cs := (fn0 (Wire.rd (bl cur)).1).cells) rfl rfl hM35 rfl rfl sz67) (fun v37 w37 a1 hp hS => ?_)
      obtain ⟨hM35, hU37⟩ := hp
      have hB := But.new hB hU37 (fun i e => by rw [e]; exact hLhM35) (Nat.le_refl _)
      have hM1 := hM1b1.below hB hM1b1.lt
      refine sI hS (runs_assign rfl) fun _ hS => ?_
      refine sI hS (runs_assign rfl) fun _ hS => ?_
      refine nil_ok (qx_seq (qx_seq (reg_seq ?_)))
      refine sI hS (runs_move rfl) fun _ hS => ?_
      refine sI hS (runs_neq (r := false) rfl rfl (by simp)) fun _ hS => ?_
      refine nil_ok (wp_cond_false (hS.eval rfl) (wp_skip (?_)))
      have hownW := owns_kept hown hB
      have hszW : w1.heap.size ≤ w37.heap.size := Nat.le_trans hBsz1 hB.size
      obtain ⟨hk1, _, hk3, hk2⟩ := Wire.rd_back (bl cur) (Wire.rd (bl cur)).1 (Wire.rd (bl cur)).2.1 (bl_bytes cur) (by rw [← hrd])
      rw [bl_length] at hk1
      have hcap : 0 < i ∨ ∀ g m c, ov = .slice (some g) m c → c = 0 := (Nat.eq_zero_or_pos i).elim (fun h => .inr (hz h)) .inl
      refine reg_x (KR 66 37 w1.heap.size (rowF 0 ns ++ (fn0 (Wire.rd (bl cur)).1).cells)) (fun w' => KR 66 37 w1.heap.size (rowF 0 ns ++ (fn0 (Wire.rd (bl cur)).1).cells) w37 w') [.inl (ov), .inl ((fn0 (Wire.rd (bl cur)).1).val), .inr (fun v w' => ∃ g5, v = .slice (some ⟨g5, 0, none⟩) 1 1 ∧ Has w' g5 66 (fn0 (Wire.rd (bl cur)).1).cells), .inr (fun v w' => (∃ g3 c3, v = .slice (some ⟨g3, 0, none⟩) (i + 1) c3) ∧ w'.ownsRow w1.heap.size 66 37 v (i + 1) (rowF 0 ns ++ (fn0 (Wire.rd (bl cur)).1).cells)), .inl (.string cur), .inl (.int .i64 ((Wire.rd (bl cur)).2.1 : Int)), .inl (.string (cut cur (Wire.rd (bl cur)).2.1)), .inr (fun v w' => (∃ g3 c3, v = .slice (some ⟨g3, 0, none⟩) (i + 1) c3) ∧ w'.ownsRow w1.heap.size 66 37 v (i + 1) (rowF 0 ns ++ (fn0 (Wire.rd (bl cur)).1).cells)), .inl (.string (cut cur (Wire.rd (bl cur)).2.1))] 9 0 mixed rfl (by kernel_rfl) hS KR.refl (fun _ h => h.drew) ?_
      refine ks_is rfl (fun w' hw => runs_move rfl) ?_
      refine ks_is rfl (fun w' hw => runs_loadRow rfl (hw.2.2.2 _ _ rfl hM35) Tryd.underlying66 rfl (by rw [sz67]; rfl)) ?_
      refine ks_pr rfl (fun _ _ _ h hk => by obtain ⟨g5, h1, h2⟩ := h; exact ⟨g5, h1, hk.2.2.2 _ _ rfl h2⟩) (fun w' hw hq => (runs_oneF0 rfl).mono (by rintro v w5 ⟨g5, h1, h2, hb⟩; exact ⟨⟨g5, h1, h2⟩, hw.trans (KR.of_below hb (Nat.le_trans hszW hw.1.size)), KR.of_below hb (Nat.le_trans hszW hw.1.size)⟩)) (fun u2 => ?_)
      refine ks_pr rfl (fun _ _ _ h hk => ⟨h.1, hk.2.1 _ _ _ (List.prefix_refl _) h.2⟩) (fun w' hw hq => (by obtain ⟨g5, rfl, hX⟩ := hq (2, _) List.mem_cons_self (by kernel_rfl); exact (push_ownF rfl (hw.2.1 _ _ _ (List.prefix_append _ _) hownW) rfl hX rfl (by omega) (Nat.le_trans hszW hw.1.size) hcap).mono (by rintro v w5 ⟨h1, h2, h3⟩; exact ⟨⟨h1, h2⟩, hw.trans h3, h3⟩))) (fun u3 => ?_)
      refine ks_is rfl (fun w' hw => runs_move rfl) ?_
      refine ks_is rfl (fun w' hw => runs_move rfl) ?_
      refine ks_is rfl (fun w' hw => runs_cutS rfl rfl hk1) ?_
      refine ks_pr rfl (fun _ _ _ h hk => ⟨h.1, hk.2.1 _ _ _ (List.prefix_refl _) h.2⟩) (fun w' hw hq => (by have h := hq (3, _) List.mem_cons_self (by kernel_rfl); exact (runs_assign rfl).mono (by rintro v w5 ⟨rfl, rfl⟩; exact ⟨h, hw, KR.refl⟩))) (fun u7 => ?_)
      refine ks_is rfl (fun w' hw => runs_assign rfl) ?_
      refine (fun a39 w39 hS hK39 hq => ?_)


      obtain ⟨⟨g3, c3, rfl⟩, h41⟩ := (hq (7, _) List.mem_cons_self)
      clear hq
      refine wpAnyH_done (by kernel_rfl) ?_ _
      refine reg_seq ?_
      refine sI hS (runs_move rfl) fun _ hS => ?_
      refine sI hS (runs_add (r := ((i + 1 : Nat) : Int)) rfl rfl (by simp [IntKind.wrap, IntKind.bits, IntKind.signed]; omega)) fun _ hS => ?_
      refine sI hS (runs_assign rfl) fun _ hS => ?_
      exact nil_ok ⟨_, by omega, i + 1, ns ++ [(Wire.rd (bl cur)).1], cut cur (Wire.rd (bl cur)).2.1, _, by omega, rfl, hBb1.trans ((hB.mono hBb1.size).trans hK39.1), by simp [hlen], (fun n hn => by rcases List.mem_append.1 hn with h | h; exact hall n h; rw [List.mem_singleton] at h; rw [h]; exact hk2), by rw [cut, ByteArray.size_extract]; omega, by rw [bl_cut]; exact hrdI.step hlt1 hrd, by rw [rowF_snoc, hlen, Nat.zero_add, hF]; exact h41, (fun h => by omega), hS.only _ ⟨rfl, rfl, rfl, rfl, trivial⟩⟩
    · skip
      refine reg_seq ?_
      refine sI hS (runs_move rfl) fun _ hS => ?_
      refine sI hS (runs_move rfl) fun _ hS => ?_
      refine sI hS (runs_buildK (pv := [(0, .int .i64 0)]) (cells := (fn0 0).cells.toArray) rfl (by kernel_rfl)) fun _ hS => ?_
      refine seq_op hS (by decide) (runs_call (args := [.string cur, (fn0 0).val]) goes36 rfl (rget0_bad (by omega) hrd)) (fun v40 w40 a1 hp hS => ?_)
      obtain ⟨rfl, hB40⟩ := hp
      have hB := hB.trans (hB40.mono hB.size)
      have hM1 := hM1b1.below hB hM1b1.lt
      refine sI hS (runs_move rfl) fun _ hS => ?_
      refine sI hS (runs_extract rfl rfl) fun _ hS => ?_
      refine sI hS (runs_extract rfl rfl) fun _ hS => ?_
      refine sI hS (runs_extract rfl rfl) fun _ hS => ?_
      refine seq_op hS (by decide) (runs_allocB (cs := (fn0 0).cells) zo67 rfl) (fun v42 w42 a1 hp hS => ?_)
      obtain ⟨rfl, hM42, hB42⟩ := hp
      have hLhM42 : wl1.heap.size ≤ w40.heap.size := hB.size
      have hB := hB.trans (hB42.mono hB.size)
      have hM1 := hM1b1.below hB hM1b1.lt
      refine seq_none hS (runs_storeB (cs := (fn0 0).cells) rfl rfl hM42 rfl rfl sz67) (fun v44 w44 a1 hp hS => ?_)
      obtain ⟨hM42, hU44⟩ := hp
      have hB := But.new hB hU44 (fun i e => by rw [e]; exact hLhM42) (Nat.le_refl _)
      have hM1 := hM1b1.below hB hM1b1.lt
      refine sI hS (runs_assign rfl) fun _ hS => ?_
      refine sI hS (runs_assign rfl) fun _ hS => ?_
      refine nil_ok (qx_seq (qx_seq (reg_seq ?_)))
      refine sI hS (runs_move rfl) fun _ hS => ?_
      refine sI hS (runs_neq (r := true) rfl rfl (by simpa using hrd)) fun _ hS => ?_
      refine nil_ok (wp_cond_true (hS.eval rfl) (qx_seq (reg_seq ?_)))
      refine sI hS (runs_buildK (pv := []) (cells := #[.int .i64 0, .int .i64 0, .bool false, .bool false, .int .i64 0]) rfl (by kernel_rfl)) fun _ hS => ?_
      refine sI hS (runs_move rfl) fun _ hS => ?_
      refine seq_none hS (runs_storeB (cs := [.int .i64 0, .int .i64 0, .bool false, .bool false, .int .i64 0]) rfl rfl hM1 rfl rfl sz28) (fun v46 w46 a1 hp hS => ?_)
      obtain ⟨hM1, hU46⟩ := hp
      have hT := But.new (hBpre0.trans (((hBb1.trans ((hB).mono hBb1.size))).mono hBpre0.size)) hU46 (fun i e => by rw [e]; exact Nat.le_refl _) (Nat.le_refl _)
      refine sI hS (runs_assign rfl) fun _ hS => ?_
      have hfin := getX_err (hrdI.err hlt1 hrd) hrd
      exact nil_ok (qx_ret (retRow2 (p := 2) (t := 3) (ty := 23) (by kernel_rfl) hS rfl rfl hM1 Tryd.underlying23 rfl (by rw [sz28]; rfl) ⟨_, rfl, by rw [hfin]; rfl, hT⟩))
  refine sI hS (lssF rfl rfl (by omega)) fun _ hS => ?_
  obtain rfl : i = 5 := by omega
  refine nil_ok ⟨_, hS.eval rfl, fun _ => ?_, fun h => by simp at h⟩
  have hB := hBb1
  obtain ⟨n0, n1, n2, n3, n4, rfl⟩ := five hlen
  have hall5 := hrdI.all
  obtain ⟨gr, cr, rfl, hgr, hgrl, hR⟩ := owns_rowK hown (by omega)
  have u0 : n0 < 18446744073709551616 := hall n0 (by simp)
  refine qx_seq (qx_seq (?_))
  by_cases hmore : bl cur = []
  · skip
    refine reg_seq ?_
    refine sI hS (runs_move rfl) fun _ hS => ?_
    refine sI hS (runs_neStr (r := false) rfl rfl (by rw [show bl (⟨#[]⟩ : ByteArray) = [] from rfl]; simp [hmore])) fun _ hS => ?_
    refine nil_ok (wp_cond_false (hS.eval rfl) (wp_skip (qx_seq (qx_seq (reg_seq ?_)))))
    refine sI hS (runs_move rfl) fun _ hS => ?_
    refine sI hS (runs_indexAddrG (j := 0) rfl rfl und65 sz67 rfl (by omega)) fun _ hS => ?_
    refine sI hS (runs_fieldK fo67_2 rfl) fun _ hS => ?_
    refine sI hS (runs_load rfl pl50 (hR 2 (.int .u64 (n0 : Int)) rfl)) fun _ hS => ?_
    by_cases b0 : 63 < n0
    · skip
      refine sI hS (gtrT rfl rfl (by omega)) fun _ hS => ?_
      refine sI hS (runs_move rfl) fun _ hS => ?_
      refine sN hS fun _ hS => ?_
      refine sN hS fun _ hS => ?_
      refine sN hS fun _ hS => ?_
      refine sN hS fun _ hS => ?_
      refine sN hS fun _ hS => ?_
      refine sI hS (runs_pick rfl rfl) fun _ hS => ?_
      refine sI hS (runs_move rfl) fun _ hS => ?_
      refine sN hS fun _ hS => ?_
      refine sN hS fun _ hS => ?_
      refine sN hS fun _ hS => ?_
      refine sN hS fun _ hS => ?_
      refine sN hS fun _ hS => ?_
      refine sI hS (runs_pick rfl rfl) fun _ hS => ?_
      refine nil_ok (wp_cond_true (hS.eval rfl) (qx_seq (reg_seq ?_)))
      refine sI hS (runs_buildK (pv := []) (cells := #[.int .i64 0, .int .i64 0, .bool false, .bool false, .int .i64 0]) rfl (by kernel_rfl)) fun _ hS => ?_
      refine seq_none hS (runs_storeB (cs := [.int .i64 0, .int .i64 0, .bool false, .bool false, .int .i64 0]) rfl rfl hM1 rfl rfl sz28) (fun v47 w47 a1 hp hS => ?_)
      obtain ⟨hM1, hU47⟩ := hp
      have hT := But.new (hBpre0.trans ((hB).mono hBpre0.size)) hU47 (fun i e => by rw [e]; exact Nat.le_refl _) (Nat.le_refl _)
      refine sI hS (runs_assign rfl) fun _ hS => ?_
      rw [hmore] at hall5
      have hfin := getX_form hall5 (by simp [formX]; omega)
      exact nil_ok (qx_ret (retRow2 (p := 2) (t := 3) (ty := 23) (by kernel_rfl) hS rfl rfl hM1 Tryd.underlying23 rfl (by rw [sz28]; rfl) ⟨_, rfl, by rw [hfin]; rfl, hT⟩))
    refine sI hS (gtrF rfl rfl (by omega)) fun _ hS => ?_
    refine sI hS (runs_move rfl) fun _ hS => ?_
    refine sY hS (runs_move rfl) fun _ hS => ?_
    refine sY hS (runs_indexAddrG (j := 2) rfl rfl und65 sz67 rfl (by omega)) fun _ hS => ?_
    refine sY hS (runs_fieldK fo67_2 rfl) fun _ hS => ?_
    refine sY hS (runs_load rfl pl50 (hR 76 (.int .u64 (n2 : Int)) rfl)) fun _ hS => ?_
    by_cases b2 : 1 < n2
    · skip
      refine sY hS (gtrT rfl rfl (by omega)) fun _ hS => ?_
      refine sI hS (runs_pick rfl rfl) fun _ hS => ?_
      refine sI hS (runs_move rfl) fun _ hS => ?_
      refine sN hS fun _ hS => ?_
      refine sN hS fun _ hS => ?_
      refine sN hS fun _ hS => ?_
      refine sN hS fun _ hS => ?_
      refine sN hS fun _ hS => ?_
      refine sI hS (runs_pick rfl rfl) fun _ hS => ?_
      refine nil_ok (wp_cond_true (hS.eval rfl) (qx_seq (reg_seq ?_)))
      refine sI hS (runs_buildK (pv := []) (cells := #[.int .i64 0, .int .i64 0, .bool false, .bool false, .int .i64 0]) rfl (by kernel_rfl)) fun _ hS => ?_
      refine seq_none hS (runs_storeB (cs := [.int .i64 0, .int .i64 0, .bool false, .bool false, .int .i64 0]) rfl rfl hM1 rfl rfl sz28) (fun v48 w48 a1 hp hS => ?_)
      obtain ⟨hM1, hU48⟩ := hp
      have hT := But.new (hBpre0.trans ((hB).mono hBpre0.size)) hU48 (fun i e => by rw [e]; exact Nat.le_refl _) (Nat.le_refl _)
      refine sI hS (runs_assign rfl) fun _ hS => ?_
      rw [hmore] at hall5
      have hfin := getX_form hall5 (by simp [formX]; omega)
      exact nil_ok (qx_ret (retRow2 (p := 2) (t := 3) (ty := 23) (by kernel_rfl) hS rfl rfl hM1 Tryd.underlying23 rfl (by rw [sz28]; rfl) ⟨_, rfl, by rw [hfin]; rfl, hT⟩))
    refine sY hS (gtrF rfl rfl (by omega)) fun _ hS => ?_
    refine sI hS (runs_pick rfl rfl) fun _ hS => ?_
    refine sI hS (runs_move rfl) fun _ hS => ?_
    refine sY hS (runs_move rfl) fun _ hS => ?_
    refine sY hS (runs_indexAddrG (j := 3) rfl rfl und65 sz67 rfl (by omega)) fun _ hS => ?_
    refine sY hS (runs_fieldK fo67_2 rfl) fun _ hS => ?_
    refine sY hS (runs_load rfl pl50 (hR 113 (.int .u64 (n3 : Int)) rfl)) fun _ hS => ?_
    by_cases b3 : 1 < n3
    · skip
      refine sY hS (gtrT rfl rfl (by omega)) fun _ hS => ?_
      refine sI hS (runs_pick rfl rfl) fun _ hS => ?_
      refine nil_ok (wp_cond_true (hS.eval rfl) (qx_seq (reg_seq ?_)))
      refine sI hS (runs_buildK (pv := []) (cells := #[.int .i64 0, .int .i64 0, .bool false, .bool false, .int .i64 0]) rfl (by kernel_rfl)) fun _ hS => ?_
      refine seq_none hS (runs_storeB (cs := [.int .i64 0, .int .i64 0, .bool false, .bool false, .int .i64 0]) rfl rfl hM1 rfl rfl sz28) (fun v49 w49 a1 hp hS => ?_)
      obtain ⟨hM1, hU49⟩ := hp
      have hT := But.new (hBpre0.trans ((hB).mono hBpre0.size)) hU49 (fun i e => by rw [e]; exact Nat.le_refl _) (Nat.le_refl _)
      refine sI hS (runs_assign rfl) fun _ hS => ?_
      rw [hmore] at hall5
      have hfin := getX_form hall5 (by simp [formX]; omega)
      exact nil_ok (qx_ret (retRow2 (p := 2) (t := 3) (ty := 23) (by kernel_rfl) hS rfl rfl hM1 Tryd.underlying23 rfl (by rw [sz28]; rfl) ⟨_, rfl, by rw [hfin]; rfl, hT⟩))
    refine sY hS (gtrF rfl rfl (by omega)) fun _ hS => ?_
    refine sI hS (runs_pick rfl rfl) fun _ hS => ?_
    refine nil_ok (wp_cond_false (hS.eval rfl) (wp_skip (qx_seq (?_))))
    have hBpre16 := hB
    refine reg_guard (fun w' => Below wl1.heap.size wl1 w') [.inl (.slice (some ⟨gr, 0, none⟩) 5 cr), .inl (.pointer (some ⟨gr, 0 + 0 * 37, none⟩)), .inl (.pointer (some ⟨gr, 0 + 0 * 37 + 2, none⟩)), .inl (.int .u64 (n0 : Int)), .inl (.int .i64 (n0 : Int)), .inl (.slice (some ⟨gr, 0, none⟩) 5 cr), .inl (.pointer (some ⟨gr, 0 + 1 * 37, none⟩)), .inl (.pointer (some ⟨gr, 0 + 1 * 37 + 3, none⟩)), .inl (.int .i64 (Wire.unfold_ n1)), .inl (.slice (some ⟨gr, 0, none⟩) 5 cr), .inl (.pointer (some ⟨gr, 0 + 2 * 37, none⟩)), .inl (.pointer (some ⟨gr, 0 + 2 * 37 + 2, none⟩)), .inl (.int .u64 (n2 : Int)), .inl (.bool (decide (n2 = 1))), .inl (.slice (some ⟨gr, 0, none⟩) 5 cr), .inl (.pointer (some ⟨gr, 0 + 3 * 37, none⟩)), .inl (.pointer (some ⟨gr, 0 + 3 * 37 + 2, none⟩)), .inl (.int .u64 (n3 : Int)), .inl (.bool (decide (n3 = 1))), .inl (.slice (some ⟨gr, 0, none⟩) 5 cr), .inl (.pointer (some ⟨gr, 0 + 4 * 37, none⟩)), .inl (.pointer (some ⟨gr, 0 + 4 * 37 + 3, none⟩)), .inl (.int .i64 (Wire.unfold_ n4)), .inl (.agg #[.int .i64 (n0 : Int), .int .i64 (Wire.unfold_ n1), .bool (decide (n2 = 1)), .bool (decide (n3 = 1)), .int .i64 (Wire.unfold_ n4)]), .inr (fun v w' => ∃ g, v = .pointer (some ⟨g, 0, none⟩) ∧ wl1.heap.size ≤ g ∧ Has w' g 23 [.int .i64 0, .int .i64 0, .bool false, .bool false, .int .i64 0])] 25 1 mixed rfl (by kernel_rfl) hS (Below.refl _ _) (fun _ h => h.drew) ?_
    refine hs_is rfl (fun w' hw => runs_move rfl) ?_
    refine hs_is rfl (fun w' hw => runs_indexAddrG (j := 0) rfl rfl und65 sz67 rfl (by omega)) ?_
    refine hs_is rfl (fun w' hw => runs_fieldK fo67_2 rfl) ?_
    refine hs_is rfl (fun w' hw => runs_load rfl pl50 ((range_below hR hw hgrl) 2 (.int .u64 (n0 : Int)) rfl)) ?_
    refine hs_is rfl (fun w' hw => runs_convInt rfl (by decide) und3 (by simp [IntKind.wrap, IntKind.bits, IntKind.signed]; omega)) ?_
    refine hs_is rfl (fun w' hw => runs_move rfl) ?_
    refine hs_is rfl (fun w' hw => runs_indexAddrG (j := 1) rfl rfl und65 sz67 rfl (by omega)) ?_
    refine hs_is rfl (fun w' hw => runs_fieldK fo67_3 rfl) ?_
    refine hs_is rfl (fun w' hw => runs_load rfl pl2 ((range_below hR hw hgrl) 40 (.int .i64 (Wire.unfold_ n1)) rfl)) ?_
    refine hs_is rfl (fun w' hw => runs_move rfl) ?_
    refine hs_is rfl (fun w' hw => runs_indexAddrG (j := 2) rfl rfl und65 sz67 rfl (by omega)) ?_
    refine hs_is rfl (fun w' hw => runs_fieldK fo67_2 rfl) ?_
    refine hs_is rfl (fun w' hw => runs_load rfl pl50 ((range_below hR hw hgrl) 76 (.int .u64 (n2 : Int)) rfl)) ?_
    refine hs_is rfl (fun w' hw => runs_eql rfl rfl (by by_cases h : n2 = 1 <;> simp [h]; try omega)) ?_
    refine hs_is rfl (fun w' hw => runs_move rfl) ?_
    refine hs_is rfl (fun w' hw => runs_indexAddrG (j := 3) rfl rfl und65 sz67 rfl (by omega)) ?_
    refine hs_is rfl (fun w' hw => runs_fieldK fo67_2 rfl) ?_
    refine hs_is rfl (fun w' hw => runs_load rfl pl50 ((range_below hR hw hgrl) 113 (.int .u64 (n3 : Int)) rfl)) ?_
    refine hs_is rfl (fun w' hw => runs_eql rfl rfl (by by_cases h : n3 = 1 <;> simp [h]; try omega)) ?_
    refine hs_is rfl (fun w' hw => runs_move rfl) ?_
    refine hs_is rfl (fun w' hw => runs_indexAddrG (j := 4) rfl rfl und65 sz67 rfl (by omega)) ?_
    refine hs_is rfl (fun w' hw => runs_fieldK fo67_3 rfl) ?_
    refine hs_is rfl (fun w' hw => runs_load rfl pl2 ((range_below hR hw hgrl) 151 (.int .i64 (Wire.unfold_ n4)) rfl)) ?_
    refine hs_is rfl (fun w' hw => runs_buildK (pv := [(0, .int .i64 (n0 : Int)), (1, .int .i64 (Wire.unfold_ n1)), (2, .bool (decide (n2 = 1))), (3, .bool (decide (n3 = 1))), (4, .int .i64 (Wire.unfold_ n4))]) (cells := #[.int .i64 (n0 : Int), .int .i64 (Wire.unfold_ n1), .bool (decide (n2 = 1)), .bool (decide (n3 = 1)), .int .i64 (Wire.unfold_ n4)]) rfl (by kernel_rfl)) ?_
    refine hs_pr rfl (fun _ _ _ h k => by obtain ⟨g, e, h1, h2⟩ := h; exact ⟨g, e, h1, h2.below k h2.lt⟩) (fun w' hw hq => (runs_allocB (cs := [.int .i64 0, .int .i64 0, .bool false, .bool false, .int .i64 0]) zo28 rfl).mono (by rintro v w5 ⟨rfl, h2, h3⟩; exact ⟨⟨_, rfl, hw.size, h2⟩, hw.trans (h3.mono hw.size), h3⟩)) (fun p24 => ?_)
    refine (fun a50 w50 hS hB50 hq => ?_)
    obtain ⟨g9, rfl, hL9, h9⟩ := (hq (24, _) List.mem_cons_self)
    have hM9 := h9
    clear hq
    have hB := hB.trans (hB50.mono hB.size)
    have hM1 := hM1b.below hB hM1b.lt
    have hgrl := Nat.lt_of_lt_of_le hgrl hB50.size
    have hL9b := Nat.le_trans hBpre16.size hL9
    refine tail_none 25 (by kernel_rfl) rfl hS (runs_storeB (cs := [.int .i64 (n0 : Int), .int .i64 (Wire.unfold_ n1), .bool (decide (n2 = 1)), .bool (decide (n3 = 1)), .int .i64 (Wire.unfold_ n4)]) rfl rfl hM9 rfl rfl sz28) (fun v52 w52 a52 hp hS => ⟨trivial, ?_⟩)
    obtain ⟨hM9, hU9⟩ := hp
    have hS9 := But.new hB hU9 (fun i e => by rw [e]; exact hL9b) (Nat.le_refl _)
    have hB := hS9
    have hM1 := hM1b.below hB hM1b.lt
    refine wpAnyH_done (by kernel_rfl) ?_ _
    refine qx_seq (qx_seq (reg_seq ?_))
    refine sI hS (runs_loadRow rfl hM9 Tryd.underlying23 rfl (by rw [sz28]; rfl)) fun _ hS => ?_
    refine seq_op hS (by decide) (runs_call (args := [.agg (vc (⟨(n0 : Int), Wire.unfold_ n1, decide (n2 = 1), decide (n3 = 1), Wire.unfold_ n4⟩ : Vx)).toArray]) goes12 rfl (rright_any (⟨(n0 : Int), Wire.unfold_ n1, decide (n2 = 1), decide (n3 = 1), Wire.unfold_ n4⟩ : Vx) w52)) (fun v53 w53 a1 hp hS => ?_)
    obtain ⟨rfl, hB53⟩ := hp
    have hB := hB.trans (hB53.mono hB.size)
    have hM1 := hM1b.below hB hM1b.lt
    have hM9 := hM9.below hB53 hM9.lt
    by_cases hr : rightX (⟨(n0 : Int), Wire.unfold_ n1, decide (n2 = 1), decide (n3 = 1), Wire.unfold_ n4⟩ : Vx) = true
    · skip
      rw [hr] at hS
      refine sI hS (runs_not (b := true) rfl) fun _ hS => ?_
      refine nil_ok (wp_cond_false (hS.eval rfl) (wp_skip (qx_seq (reg_seq ?_))))
      refine sI hS (runs_loadRow rfl hM9 Tryd.underlying23 rfl (by rw [sz28]; rfl)) fun _ hS => ?_
      refine seq_none hS (runs_storeB (cs := vc (⟨(n0 : Int), Wire.unfold_ n1, decide (n2 = 1), decide (n3 = 1), Wire.unfold_ n4⟩ : Vx)) rfl rfl hM1 rfl rfl sz28) (fun v55 w55 a1 hp hS => ?_)
      obtain ⟨hM1, hU55⟩ := hp
      have hT := But.new (hBpre0.trans ((hB).mono hBpre0.size)) hU55 (fun i e => by rw [e]; exact Nat.le_refl _) (Nat.le_refl _)
      refine sI hS (runs_assign rfl) fun _ hS => ?_
      rw [hmore] at hall5
      have hfin := getX_ok hall5 (by unfold formX; rw [show rightX (ofX [n0, n1, n2, n3, n4]) = true from hr]; simp; omega)
      exact nil_ok (qx_ret (retRow2 (p := 2) (t := 3) (ty := 23) (by kernel_rfl) hS rfl rfl hM1 Tryd.underlying23 rfl (by rw [sz28]; rfl) ⟨_, rfl, by rw [hfin]; rfl, hT⟩))
    · skip
      rw [Bool.eq_false_iff.2 hr] at hS
      refine sI hS (runs_not (b := false) rfl) fun _ hS => ?_
      refine nil_ok (wp_cond_true (hS.eval rfl) (qx_seq (reg_seq ?_)))
      refine sI hS (runs_buildK (pv := []) (cells := #[.int .i64 0, .int .i64 0, .bool false, .bool false, .int .i64 0]) rfl (by kernel_rfl)) fun _ hS => ?_
      refine seq_none hS (runs_storeB (cs := [.int .i64 0, .int .i64 0, .bool false, .bool false, .int .i64 0]) rfl rfl hM1 rfl rfl sz28) (fun v56 w56 a1 hp hS => ?_)
      obtain ⟨hM1, hU56⟩ := hp
      have hT := But.new (hBpre0.trans ((hB).mono hBpre0.size)) hU56 (fun i e => by rw [e]; exact Nat.le_refl _) (Nat.le_refl _)
      refine sI hS (runs_assign rfl) fun _ hS => ?_
      rw [hmore] at hall5
      have hfin := getX_form hall5 (by unfold formX; rw [Bool.eq_false_iff.2 (show ¬ rightX (ofX [n0, n1, n2, n3, n4]) = true from hr)]; simp)
      exact nil_ok (qx_ret (retRow2 (p := 2) (t := 3) (ty := 23) (by kernel_rfl) hS rfl rfl hM1 Tryd.underlying23 rfl (by rw [sz28]; rfl) ⟨_, rfl, by rw [hfin]; rfl, hT⟩))
  · skip
    refine reg_seq ?_
    refine sI hS (runs_move rfl) fun _ hS => ?_
    refine sI hS (runs_neStr (r := true) rfl rfl (by rw [show bl (⟨#[]⟩ : ByteArray) = [] from rfl]; simpa using hmore)) fun _ hS => ?_
    refine nil_ok (wp_cond_true (hS.eval rfl) (qx_seq (reg_seq ?_)))
    refine sI hS (runs_buildK (pv := []) (cells := #[.int .i64 0, .int .i64 0, .bool false, .bool false, .int .i64 0]) rfl (by kernel_rfl)) fun _ hS => ?_
    refine seq_none hS (runs_storeB (cs := [.int .i64 0, .int .i64 0, .bool false, .bool false, .int .i64 0]) rfl rfl hM1 rfl rfl sz28) (fun v57 w57 a1 hp hS => ?_)
    obtain ⟨hM1, hU57⟩ := hp
    have hT := But.new (hBpre0.trans ((hB).mono hBpre0.size)) hU57 (fun i e => by rw [e]; exact Nat.le_refl _) (Nat.le_refl _)
    refine sI hS (runs_assign rfl) fun _ hS => ?_
    have hfin := getX_more (by rw [hall5]) (by rw [hall5]; exact hmore)
    exact nil_ok (qx_ret (retRow2 (p := 2) (t := 3) (ty := 23) (by kernel_rfl) hS rfl rfl hM1 Tryd.underlying23 rfl (by rw [sz28]; rfl) ⟨_, rfl, by rw [hfin]; rfl, hT⟩))
end Go.Proofs.YtbcmglggplmkfaaDoor
