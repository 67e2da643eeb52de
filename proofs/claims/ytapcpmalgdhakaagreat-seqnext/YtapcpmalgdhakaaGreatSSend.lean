/- Layer 7: what goes along an edge, and the sending of it along all. Conditions: none of our own. -/
import Derived.Test.YtapcpmalgdhakaaGreatSVals
namespace Go.Proofs.YtapcpmalgdhakaaGreat
open Go.RowKit
set_option maxRecDepth 100000

set_option maxHeartbeats 1000000 in
theorem ident_any (x : Int) (w : World) : Ans 80 [.int .i64 x] w (Is (.int .i64 x) w) := by
  refine calls_qx (args := [.int .i64 x]) 4 Tryz.func80 rfl (by kernel_rfl) (by simp) (fun a hS => ?_)
  refine qx_seq (reg_seq ?_)
  refine sI hS (runs_assign rfl) fun _ hS => ?_
  refine nil_ok (qx_seq (reg_seq ?_))
  refine sI hS (runs_move rfl) fun _ hS => ?_
  refine sI hS (runs_assign rfl) fun _ hS => ?_
  exact nil_ok (qx_ret (ret1 (t := 2) (by kernel_rfl) hS rfl ⟨_, rfl, rfl, rfl⟩))
set_option maxHeartbeats 1000000 in
theorem same1_any (x n : Int) (g : Nat) (w : World) (hG : Has w g 2 [.int .i64 n]) : Ans 94 [.int .i64 x, .pointer (some ⟨g, 0, none⟩)] w (Is (.int .i64 n) w) := by
  refine calls_qx (args := [.int .i64 x, .pointer (some ⟨g, 0, none⟩)]) 5 Tryz.func94 rfl (by kernel_rfl) (by simp) (fun a hS => ?_)
  refine qx_seq (reg_seq ?_)
  refine sI hS (runs_assign rfl) fun _ hS => ?_
  refine nil_ok (qx_seq (reg_seq ?_))
  refine sI hS (runs_load rfl pl2 (hG.at rfl)) fun _ hS => ?_
  refine sI hS (runs_assign rfl) fun _ hS => ?_
  exact nil_ok (qx_ret (ret1 (t := 3) (by kernel_rfl) hS rfl ⟨_, rfl, rfl, rfl⟩))
set_option maxHeartbeats 1000000 in
theorem same_any (n : Int) (w : World) : Ans 82 [.int .i64 n] w (fun u w' => ∃ g, u = .func (.func 94) #[] #[.pointer (some ⟨g, 0, none⟩)] ∧ Has w' g 2 [.int .i64 n] ∧ Below w.heap.size w w') := by
  refine calls_qx (args := [.int .i64 n]) 4 Tryz.func82 rfl (by kernel_rfl) (by simp) (fun a hS => ?_)
  have hB := Below.refl w.heap.size w
  refine qx_seq (reg_seq ?_)
  refine seq_op hS (by decide) (runs_boxB (cs := [.int .i64 n]) rfl rfl) (fun v1 w1 a1 hp hS => ?_)
  obtain ⟨rfl, hM1, hB1⟩ := hp
  have hB := hB.trans (hB1.mono hB.size)
  refine sI hS (runs_assign rfl) fun _ hS => ?_
  refine nil_ok (qx_seq (reg_seq ?_))
  refine sI hS (runs_makeFunc (cs := [.pointer (some ⟨w.heap.size, 0, none⟩)]) rfl) fun _ hS => ?_
  refine sI hS (runs_assign rfl) fun _ hS => ?_
  exact nil_ok (qx_ret (ret1 (t := 2) (by kernel_rfl) hS rfl ⟨_, rfl, _, rfl, hM1, hB⟩))
set_option maxHeartbeats 1000000 in
theorem near1_any (x inn : Int) (len : Int → Int) (kf : FuncId) (cf : List Value) (hkf : Goes Tryz.prog kf) (ga gc gt : Nat) (c0 c1 c2 c3 c5 c6 c7 c8 : Value) (w : World) (hA : Has w ga 105 [.pointer (some ⟨gt, 0, none⟩)]) (hC : Has w gc 86 [.func (.func kf) #[] cf.toArray]) (hT : Has w gt 89 [c0, c1, c2, c3, .int .i64 inn, c5, c6, c7, c8])
    (hlen : ∀ w', Below w.heap.size w w' → Ans kf ([.int .i64 x] ++ cf) w' (fun u w2 => u = .int .i64 (len x) ∧ Below w'.heap.size w' w2)) (h1 : -2000000000000000 ≤ inn) (h2 : inn ≤ 2000000000000000) (h3 : -2000000000000000 ≤ len x) (h4 : len x ≤ 2000000000000000) : Ans 95 [.int .i64 x, .pointer (some ⟨ga, 0, none⟩), .pointer (some ⟨gc, 0, none⟩)] w (fun u w' => u = .int .i64 (inn + len x) ∧ Below w.heap.size w w') := by
  refine calls_qx (args := [.int .i64 x, .pointer (some ⟨ga, 0, none⟩), .pointer (some ⟨gc, 0, none⟩)]) 13 Tryz.func95 rfl (by kernel_rfl) (by simp) (fun a hS => ?_)
  have hB := Below.refl w.heap.size w
  refine qx_seq (reg_seq ?_)
  refine sI hS (runs_assign rfl) fun _ hS => ?_
  refine nil_ok (qx_seq (reg_guard (fun w' => Below w.heap.size w w') [.inl (.pointer (some ⟨gt, 0, none⟩)), .inl (.pointer (some ⟨gt, 0, none⟩)), .inl (.pointer (some ⟨gt, 0 + 4, none⟩)), .inl (.int .i64 inn), .inl (.func (.func kf) #[] cf.toArray), .inl (.int .i64 x), .inl (.int .i64 (len x)), .inl (.int .i64 (inn + len x)), .inl (.int .i64 (inn + len x))] 9 0 mixed rfl (by kernel_rfl) hS (Below.refl _ _) (fun _ h => h.drew) ?_))
  refine hs_is rfl (fun w' hw => runs_load rfl pl72 ((hA.below hw hA.lt).at rfl)) ?_
  refine hs_is rfl (fun w' hw => runs_nilCheck rfl) ?_
  refine hs_is rfl (fun w' hw => runs_fieldK fo63_4 rfl) ?_
  refine hs_is rfl (fun w' hw => runs_load rfl pl2 ((hT.below hw hT.lt).at rfl)) ?_
  refine hs_is rfl (fun w' hw => runs_load rfl pl60 ((hC.below hw hC.lt).at rfl)) ?_
  refine hs_is rfl (fun w' hw => runs_move rfl) ?_
  refine hs_val rfl (fun w' hw hq => (runs_callv (args := [.int .i64 x]) (caps := cf) hkf rfl rfl (hlen w' hw)).mono (by rintro v w2 ⟨rfl, h⟩; exact ⟨rfl, hw.trans (h.mono hw.size), h⟩)) ?_
  refine hs_is rfl (fun w' hw => runs_add rfl rfl (wrap64 (by omega) (by omega))) ?_
  refine hs_is rfl (fun w' hw => runs_assign rfl) ?_
  refine (fun a1 w1 hS hB1 hq => ?_)
  clear hq
  have hB := hB.trans (hB1.mono hB.size)
  refine wpAnyH_done (by kernel_rfl) ?_ _
  exact qx_ret (ret1 (t := 4) (by kernel_rfl) hS rfl ⟨_, rfl, rfl, hB⟩)
set_option maxHeartbeats 1000000 in
theorem send_any (es : List E) (hsm : es.length ≤ 600) (v : Value) (f : Int → Int) (kf : FuncId) (cf : List Value) (hkf : Goes Tryz.prog kf) (ge gs : Nat) (w : World) (hE0 : Edges w v es) (he : Has w ge 22 [v]) (hs : Has w gs 29 [.slice none 0 0])
    (hal : ∀ e ∈ es, ∀ w', But (fun k => k = gs) w w' → Ans kf ([.int .i64 e.2.2] ++ cf) w' (fun u w2 => u = .int .i64 (f e.2.2) ∧ Below w'.heap.size w' w2)) : Ans 63 [.func (.func kf) #[] cf.toArray, .pointer (some ⟨ge, 0, none⟩), .pointer (some ⟨gs, 0, none⟩)] w (fun u w' => u = .tuple #[] ∧ But (fun k => k = gs) w w' ∧ ∃ sv, Has w' gs 29 [sv] ∧ w'.ownsRow w.heap.size 61 3 sv (sendTo es f).length (cellsE (sendTo es f))) := by
  obtain ⟨A, c, rfl, h1, h2, hA⟩ := hE0
  unfold maxLen at h2
  have hE0 : Edges w (.slice A es.length c) es := ⟨A, c, rfl, h1, by unfold maxLen; exact h2, hA⟩
  refine calls_qx (args := [.func (.func kf) #[] cf.toArray, .pointer (some ⟨ge, 0, none⟩), .pointer (some ⟨gs, 0, none⟩)]) 25 Tryz.func63 rfl (by kernel_rfl) (by simp) (fun a hS => ?_)
  have hB := Below.refl w.heap.size w
  have heb := he
  refine qx_seq (reg_seq ?_)
  refine sI hS (runs_load rfl pl22 (he.at rfl)) fun _ hS => ?_
  refine sI hS (runs_len rfl und22) fun _ hS => ?_
  refine sI hS (runs_move rfl) fun _ hS => ?_
  refine nil_ok (?_)
  refine qx_range (fun m a w' => ∃ (i : Nat) (sv : Value), i ≤ es.length ∧ m = es.length - i ∧ But (fun k => k = gs) w w' ∧ Has w' gs 29 [sv] ∧ w'.ownsRow w.heap.size 61 3 sv (sendTo (es.take i) f).length (cellsE (sendTo (es.take i) f)) ∧ Sees 25 [(8, .int .i64 (i : Int)), (7, .int .i64 ((es.length : Nat) : Int)), (6, .slice A es.length c), (2, .pointer (some ⟨gs, 0, none⟩)), (1, .pointer (some ⟨ge, 0, none⟩)), (0, .func (.func kf) #[] cf.toArray)] a) es.length ⟨0, .slice none 0 0, by omega, by omega, But.refl _ _, hs, ⟨by simp [sendTo, cellsE], .inl ⟨rfl, by simp [sendTo]⟩⟩, hS.only _ ⟨rfl, rfl, rfl, rfl, rfl, rfl, trivial⟩⟩ ?_
  clear hS
  rintro m a wl ⟨i, sv, hi, rfl, hU, hs1, hown, hS⟩
  have hE := edges_but hE0 hU (by rintro i rfl; exact ⟨_, _, hs, by intro u hu x; simp at hu; subst hu; simp⟩)
  have hUs := hU.size
  refine reg_seq ?_
  by_cases hlt : i < es.length
  · skip
    refine seq_is hS (by decide) (lssT rfl rfl (by omega)) (fun a1 hS => ?_)
    refine nil_ok ⟨_, hS.eval rfl, fun h => by simp at h, fun _ => ?_⟩
    obtain ⟨e, hei⟩ : ∃ e, es[i]? = some e := ⟨es[i], by simp [hlt]⟩
    have hmem := List.mem_of_getElem? hei
    obtain ⟨A', c', hv, _, _, hr⟩ := hE
    simp only [Value.slice.injEq, true_and] at hv
    obtain ⟨rfl, rfl⟩ := hv
    obtain ⟨b, o, rfl, hbw, hr⟩ := hr (by omega)
    have hre := edges_at hr hei
    have hB := Below.refl wl.heap.size wl
    have hs1b := hs1
    have hownb := hown
    refine qx_seq (qx_block (qx_seq (reg_seq ?_)))
    refine sI hS (runs_indexAddrG (j := i) rfl rfl und22 siz45 rfl hlt) fun _ hS => ?_
    refine sI hS (runs_loadE rfl hre) fun _ hS => ?_
    refine seq_op hS (by decide) (runs_allocB (cs := [.int .i64 0, .int .i64 0, .int .i64 0]) zo46 rfl) (fun v1 w1 a1 hp hS => ?_)
    obtain ⟨rfl, hM1, hB1⟩ := hp
    have hLhM1 : wl.heap.size ≤ wl.heap.size := hB.size
    have hB := hB.trans (hB1.mono hB.size)
    have hs1 := hs1b.below hB hs1b.lt
    have hown := owns_kept hown hB1
    refine seq_none hS (runs_storeB (cs := encE e) rfl rfl hM1 rfl rfl sz46) (fun v3 w3 a1 hp hS => ?_)
    have hQ3 := hM1
    obtain ⟨hM1, hU3⟩ := hp
    have hB := But.new hB hU3 (fun i e => by rw [e]; exact hLhM1) (Nat.le_refl _)
    have hs1 := hs1b.below hB hs1b.lt
    have hown := owns_but hown hU3 (fun i old ho e => by subst e; exact has_ne ho hQ3 (by decide) rfl)
    refine nil_ok (?_)
    have hal1 := hal e hmem
    have hBB := hB
    refine reg_guard (fun w' => Below w3.heap.size w3 w') [.inl (sv), .inl (.pointer (some ⟨wl.heap.size, 0 + 0, none⟩)), .inl (.int .i64 e.1), .inl (.pointer (some ⟨wl.heap.size, 0 + 1, none⟩)), .inl (.int .i64 e.2.1), .inl (.func (.func kf) #[] cf.toArray), .inl (.pointer (some ⟨wl.heap.size, 0 + 2, none⟩)), .inl (.int .i64 e.2.2), .inl (.int .i64 (f e.2.2)), .inl (.agg #[.int .i64 e.1, .int .i64 e.2.1, .int .i64 (f e.2.2)]), .inr (fun v w' => ∃ g2, v = .slice (some ⟨g2, 0, none⟩) 1 1 ∧ Has w' g2 61 (encE (e.1, e.2.1, f e.2.2)))] 11 2 mixed rfl (by kernel_rfl) hS (Below.refl _ _) (fun _ h => h.drew) ?_
    refine hs_is rfl (fun w' hw => runs_load rfl pl32 ((hs1.below hw hs1.lt).at rfl)) ?_
    refine hs_is rfl (fun w' hw => runs_fieldK fo46_0 rfl) ?_
    refine hs_is rfl (fun w' hw => runs_load rfl pl3 ((hM1.below hw hM1.lt).at rfl)) ?_
    refine hs_is rfl (fun w' hw => runs_fieldK fo46_1 rfl) ?_
    refine hs_is rfl (fun w' hw => runs_load rfl pl3 ((hM1.below hw hM1.lt).at rfl)) ?_
    refine hs_is rfl (fun w' hw => runs_move rfl) ?_
    refine hs_is rfl (fun w' hw => runs_fieldK fo46_2 rfl) ?_
    refine hs_is rfl (fun w' hw => runs_load rfl pl2 ((hM1.below hw hM1.lt).at rfl)) ?_
    refine hs_val rfl (fun w' hw hq => (runs_callv (args := [.int .i64 e.2.2]) (caps := cf) hkf rfl rfl (hal1 w' (hU.trans (But.trans (Below.but hBB (fun k => k = gs)) (Below.but hw (fun k => k = gs)))))).mono (by rintro v w2 ⟨rfl, h⟩; exact ⟨rfl, hw.trans (h.mono hw.size), h⟩)) ?_
    refine hs_is rfl (fun w' hw => runs_buildK (pv := [(0, .int .i64 e.1), (1, .int .i64 e.2.1), (2, .int .i64 (f e.2.2))]) (cells := #[.int .i64 e.1, .int .i64 e.2.1, .int .i64 (f e.2.2)]) rfl (by kernel_rfl)) ?_
    refine hs_pr rfl (fun _ _ _ h hb => by obtain ⟨g2, h1, h2⟩ := h; exact ⟨g2, h1, h2.below hb h2.lt⟩) (fun w' hw hq => (runs_oneM rfl).mono (by rintro v w5 ⟨g2, h1, h2, h3⟩; exact ⟨⟨g2, h1, h2⟩, hw.trans (h3.mono hw.size), h3⟩)) (fun v54 => ?_)
    refine (fun a5 w5 hS hB5 hq => ?_)
    obtain ⟨g2, rfl, hX⟩ := (hq (10, _) List.mem_cons_self)
    clear hq
    have hB := hB.trans (hB5.mono hB.size)
    have hs1 := hs1b.below hB hs1b.lt
    have hown := owns_kept hown hB5
    refine tail_op 11 (by kernel_rfl) rfl hS (by decide) (push_ownM (acc := sendTo (es.take i) f) rfl hown rfl hX (by rw [sendTo_length, List.length_take]; omega) (Nat.le_trans hUs hB.size)) (fun v7 w7 a7 hp hS => ⟨trivial, ?_⟩)
    obtain ⟨⟨g3, c3, rfl⟩, hown3, hrow, hB7⟩ := hp
    have hs1 := hrow gs 29 _ (by decide) hs1
    have hBs := (hB.mono hUs).trans hB7
    refine tail_none 12 (by kernel_rfl) rfl hS (runs_storeC rfl rfl rfl s1_32 hs1 rfl) (fun v8 w8 a8 hp hS => ⟨trivial, ?_⟩)
    obtain ⟨hs2, hU8⟩ := hp
    refine wpAnyH_done (by kernel_rfl) ?_ _
    refine reg_seq ?_
    refine sI hS (runs_add (r := ((i + 1 : Nat) : Int)) rfl rfl (by simp [IntKind.wrap, IntKind.bits, IntKind.signed]; omega)) fun _ hS => ?_
    refine sI hS (runs_move rfl) fun _ hS => ?_
    exact nil_ok ⟨_, by omega, i + 1, _, by omega, rfl, hU.up (But.trans (But.mono (Below.upto hBs hUs) (fun k hk => .inr hk)) (hU8.mono (fun k hk => .inl hk))), hs2, by rw [sendTo_snoc hei, List.length_append]; exact owns_but hown3 hU8 (fun i2 old ho e2 => by subst e2; exact has_ne ho hs1 (by decide) rfl), hS.only _ ⟨rfl, rfl, rfl, rfl, rfl, rfl, trivial⟩⟩
  · skip
    refine seq_is hS (by decide) (lssF rfl rfl (by omega)) (fun a1 hS => ?_)
    obtain rfl : i = es.length := by omega
    refine nil_ok ⟨_, hS.eval rfl, fun _ => ?_, fun h => by simp at h⟩
    rw [List.take_length] at hown
    exact ret0 (by kernel_rfl) hS ⟨_, rfl, rfl, hU, sv, hs1, hown⟩
end Go.Proofs.YtapcpmalgdhakaaGreat
