/- modillionlaw09.SeqTurned, walked. Conditions: none of our own. -/
import Derived.Test.YtapcpmalgdhakaaVAwake
import Derived.Test.YtapcpmalgdhakaaNAll
import Derived.Test.YtapcpmalgdhakaaGApp
namespace Go.Proofs.Ytapcpmalgdhakaa
open Go.RowKit
set_option maxRecDepth 100000

theorem KA.refl {B N0 N1 : Nat} {Y : List Value} {a : World} (h : B ≤ a.heap.size) : KA B N0 N1 Y a a := KA.of_below (Below.refl _ _) h
theorem KA.trans {B N0 N1 : Nat} {Y : List Value} {a b c : World} (h : KA B N0 N1 Y a b) (k : KA B N0 N1 Y b c) : KA B N0 N1 Y a c :=
  ⟨h.1.trans k.1, fun v n xs hn ho => k.2.1 v n xs hn (h.2.1 v n xs hn ho), fun i t cs ht hi => k.2.2 i t cs ht (h.2.2 i t cs ht hi)⟩
theorem KA.drew {B N0 N1 : Nat} {Y : List Value} {a b : World} (h : KA B N0 N1 Y a b) : KA B N0 N1 Y a b.drew := ⟨h.1.drew, h.2.1, h.2.2⟩
theorem turn_perm (es : List E) (k : Nat) : (es.drop k ++ es.take k).Perm es := by
  have := List.perm_append_comm (l₁ := es.drop k) (l₂ := es.take k)
  rw [List.take_append_drop] at this
  exact this
set_option maxHeartbeats 2000000 in
theorem turned_any (n : Int) (es : List E) (v : Value) (tg : ByteArray) (src steps : Int) (at_ : Nat) (hat : at_ < 256) (w : World) (hE : Edges w v es) : Ans 4 [gv n v, jv tg src steps, .int .u8 (at_ : Int)] w (fun u w' => u = .bool true ∧ Below w.heap.size w w') := by
  obtain ⟨Ag, cg, rfl, hg1, hg2, hgA⟩ := hE
  have hE : Edges w (.slice Ag es.length cg) es := ⟨Ag, cg, rfl, hg1, hg2, hgA⟩
  refine calls_qx (args := [gv n (.slice Ag es.length cg), .agg (jc tg src steps).toArray, .int .u8 (at_ : Int)]) 83 Try.func4 rfl (by kernel_rfl) (by simp) (fun a hS => ?_)
  have hB := Below.refl w.heap.size w
  have hEb := hE
  refine qx_seq (reg_seq ?_)
  refine seq_op hS (by decide) (runs_boxB (cs := [.int .i64 n, .slice Ag es.length cg]) rfl rfl) (fun v1 w1 a1 hp hS => ?_)
  obtain ⟨rfl, hM1, hB1⟩ := hp
  have hB := hB.trans (hB1.mono hB.size)
  have hE := hEb.kept hB
  refine seq_op hS (by decide) (runs_boxB (cs := jc tg src steps) rfl rfl) (fun v3 w3 a1 hp hS => ?_)
  obtain ⟨rfl, hM3, hB3⟩ := hp
  have hB := hB.trans (hB3.mono hB.size)
  have hM1 := hM1.below hB3 hM1.lt
  have hE := hEb.kept hB
  refine sI hS (runs_assign rfl) fun _ hS => ?_
  refine nil_ok (qx_seq (qx_seq (reg_seq ?_)))
  refine seq_op hS (by decide) (runs_call (args := []) goes11 rfl (awake_any w3)) (fun v5 w5 a1 hp hS => ?_)
  obtain ⟨rfl, hB5⟩ := hp
  have hB := hB.trans (hB5.mono hB.size)
  have hM1 := hM1.below hB5 hM1.lt
  have hM3 := hM3.below hB5 hM3.lt
  have hE := hEb.kept hB
  refine sI hS (runs_not (b := true) rfl) fun _ hS => ?_
  refine sI hS (runs_move rfl) fun _ hS => ?_
  refine sY hS (runs_fieldK fo24_1 rfl) fun _ hS => ?_
  refine sY hS (runs_load rfl pl22 (hM1.at rfl)) fun _ hS => ?_
  refine sY hS (runs_len rfl und22) fun _ hS => ?_
  by_cases h60 : ((es.length : Nat) : Int) > 60
  · skip
    refine sY hS (gtrT rfl rfl (by omega)) fun _ hS => ?_
    refine sI hS (runs_pick rfl rfl) fun _ hS => ?_
    refine sI hS (runs_move rfl) fun _ hS => ?_
    refine sN hS fun _ hS => ?_
    refine sN hS fun _ hS => ?_
    refine sN hS fun _ hS => ?_
    refine sN hS fun _ hS => ?_
    refine sI hS (runs_pick rfl rfl) fun _ hS => ?_
    refine sI hS (runs_move rfl) fun _ hS => ?_
    refine sN hS fun _ hS => ?_
    refine sN hS fun _ hS => ?_
    refine sN hS fun _ hS => ?_
    refine sI hS (runs_pick rfl rfl) fun _ hS => ?_
    refine nil_ok (wp_cond_true (hS.eval rfl) (qx_seq (reg_seq ?_)))
    refine seq_op hS (by decide) (runs_call (args := []) goes11 rfl (awake_any w5)) (fun v7 w7 a1 hp hS => ?_)
    obtain ⟨rfl, hB7⟩ := hp
    have hB := hB.trans (hB7.mono hB.size)
    have hM1 := hM1.below hB7 hM1.lt
    have hM3 := hM3.below hB7 hM3.lt
    have hE := hEb.kept hB
    refine sI hS (runs_assign rfl) fun _ hS => ?_
    exact nil_ok (qx_ret (ret1 (t := 6) (by kernel_rfl) hS rfl ⟨_, rfl, rfl, hB⟩))
  refine sY hS (gtrF rfl rfl (by omega)) fun _ hS => ?_
  refine sI hS (runs_pick rfl rfl) fun _ hS => ?_
  refine sI hS (runs_move rfl) fun _ hS => ?_
  refine sY hS (runs_fieldK fo24_1 rfl) fun _ hS => ?_
  refine sY hS (runs_load rfl pl22 (hM1.at rfl)) fun _ hS => ?_
  refine sY hS (runs_len rfl und22) fun _ hS => ?_
  by_cases h0 : ((es.length : Nat) : Int) = 0
  · skip
    refine sY hS (runs_eql (r := true) rfl rfl (by simpa using h0)) fun _ hS => ?_
    refine sI hS (runs_pick rfl rfl) fun _ hS => ?_
    refine sI hS (runs_move rfl) fun _ hS => ?_
    refine sN hS fun _ hS => ?_
    refine sN hS fun _ hS => ?_
    refine sN hS fun _ hS => ?_
    refine sI hS (runs_pick rfl rfl) fun _ hS => ?_
    refine nil_ok (wp_cond_true (hS.eval rfl) (qx_seq (reg_seq ?_)))
    refine seq_op hS (by decide) (runs_call (args := []) goes11 rfl (awake_any w5)) (fun v9 w9 a1 hp hS => ?_)
    obtain ⟨rfl, hB9⟩ := hp
    have hB := hB.trans (hB9.mono hB.size)
    have hM1 := hM1.below hB9 hM1.lt
    have hM3 := hM3.below hB9 hM3.lt
    have hE := hEb.kept hB
    refine sI hS (runs_assign rfl) fun _ hS => ?_
    exact nil_ok (qx_ret (ret1 (t := 6) (by kernel_rfl) hS rfl ⟨_, rfl, rfl, hB⟩))
  refine sY hS (runs_eql (r := false) rfl rfl (by simpa using h0)) fun _ hS => ?_
  refine sI hS (runs_pick rfl rfl) fun _ hS => ?_
  refine sI hS (runs_move rfl) fun _ hS => ?_
  refine sY hS (runs_fieldK fo26_2 rfl) fun _ hS => ?_
  refine sY hS (runs_load rfl pl3 (hM3.at rfl)) fun _ hS => ?_
  by_cases h20 : steps > 20
  · skip
    refine sY hS (gtrT rfl rfl (by omega)) fun _ hS => ?_
    refine sI hS (runs_pick rfl rfl) fun _ hS => ?_
    refine nil_ok (wp_cond_true (hS.eval rfl) (qx_seq (reg_seq ?_)))
    refine seq_op hS (by decide) (runs_call (args := []) goes11 rfl (awake_any w5)) (fun v11 w11 a1 hp hS => ?_)
    obtain ⟨rfl, hB11⟩ := hp
    have hB := hB.trans (hB11.mono hB.size)
    have hM1 := hM1.below hB11 hM1.lt
    have hM3 := hM3.below hB11 hM3.lt
    have hE := hEb.kept hB
    refine sI hS (runs_assign rfl) fun _ hS => ?_
    exact nil_ok (qx_ret (ret1 (t := 6) (by kernel_rfl) hS rfl ⟨_, rfl, rfl, hB⟩))
  refine sY hS (gtrF rfl rfl (by omega)) fun _ hS => ?_
  refine sI hS (runs_pick rfl rfl) fun _ hS => ?_
  refine nil_ok (wp_cond_false (hS.eval rfl) (wp_skip (qx_seq (?_))))
  obtain ⟨kk, hkk⟩ : ∃ kk, kk = at_ % es.length := ⟨_, rfl⟩
  have hkl : kk < es.length := by rw [hkk]; exact Nat.mod_lt _ (by omega)
  obtain ⟨b, o, rfl, hbw, hr⟩ := hgA (by omega)
  refine reg_seq ?_
  refine sI hS (runs_move rfl) fun _ hS => ?_
  refine sI hS (runs_convInt (k' := .i64) (r := (at_ : Int)) rfl (by rw [Try.underlying5]; rfl) und3 (by simp [IntKind.wrap, IntKind.bits, IntKind.signed]; omega)) fun _ hS => ?_
  refine sI hS (runs_fieldK fo24_1 rfl) fun _ hS => ?_
  refine sI hS (runs_load rfl pl22 (hM1.at rfl)) fun _ hS => ?_
  refine sI hS (runs_len rfl und22) fun _ hS => ?_
  refine sI hS (runs_rem (r := (kk : Int)) rfl rfl (by omega) (by rw [hkk]; rfl)) fun _ hS => ?_
  refine sI hS (runs_assign rfl) fun _ hS => ?_
  refine nil_ok (qx_seq (?_))
  have hl4 : (es.take kk).length = kk := by simp; omega
  have hl5 : (es.drop kk).length = es.length - kk := by simp
  have hll : (es.drop kk ++ es.take kk).length = es.length := (turn_perm es kk).length_eq
  have hEt : ∀ wz, Below w5.heap.size w5 wz → Edges wz (.slice (some ⟨b, o, none⟩) kk cg) (es.take kk) := fun wz h5 => edges_take (hE.kept h5) kk (by omega)
  have hEd : ∀ wz, Below w5.heap.size w5 wz → Edges wz (.slice (if cg = kk then some ⟨b, o, none⟩ else (some ⟨b, o, none⟩ : Option Addr).map (·.add (kk * 3))) (es.length - kk) (cg - kk)) (es.drop kk) := fun wz h5 => edges_drop (hE.kept h5) kk (by omega)
  have hltM := hM1.lt
  have hBz := hB.size
  refine reg_k (KA w5.heap.size (es.length - kk) es.length (cellsE (es.drop kk ++ es.take kk))) (fun w' => KA w5.heap.size (es.length - kk) es.length (cellsE (es.drop kk ++ es.take kk)) w5 w') [.inl (.pointer (some ⟨w.heap.size, 0 + 0, none⟩)), .inl (.int .i64 n), .inr (fun v w' => ∃ g1, v = .slice (some ⟨g1, 0, none⟩) 0 0 ∧ w'.ownsRow w5.heap.size 45 3 v 0 []), .inl (.pointer (some ⟨w.heap.size, 0 + 1, none⟩)), .inl (.slice (some ⟨b, o, none⟩) es.length cg), .inl (.int .i64 (kk : Int)), .inl (.slice (if cg = kk then some ⟨b, o, none⟩ else (some ⟨b, o, none⟩ : Option Addr).map (·.add (kk * 3))) (es.length - kk) (cg - kk)), .inr (fun v w' => ∃ g1 c1, v = .slice (some ⟨g1, 0, none⟩) (es.length - kk) c1 ∧ w'.ownsRow w5.heap.size 45 3 v (es.length - kk) (cellsE (es.drop kk))), .inl (.pointer (some ⟨w.heap.size, 0 + 1, none⟩)), .inl (.slice (some ⟨b, o, none⟩) es.length cg), .inl (.int .i64 (kk : Int)), .inl (.slice (some ⟨b, o, none⟩) kk cg), .inr (fun v w' => (∃ A2 c2, v = .slice A2 es.length c2) ∧ w'.ownsRow w5.heap.size 45 3 v es.length (cellsE (es.drop kk ++ es.take kk))), .inr (fun v w' => ∃ A2 c2, v = gv n (.slice A2 es.length c2) ∧ w'.ownsRow w5.heap.size 45 3 (.slice A2 es.length c2) es.length (cellsE (es.drop kk ++ es.take kk))), .inr (fun v w' => ∃ g6, v = .pointer (some ⟨g6, 0, none⟩) ∧ w5.heap.size ≤ g6 ∧ Has w' g6 24 [.int .i64 0, .slice none 0 0])] 15 1 mixed rfl (by kernel_rfl) hS (KA.refl (Nat.le_refl _)) (fun _ h => h.drew) ?_
  refine ks_is rfl (fun w' hw => runs_fieldK fo24_0 rfl) ?_
  refine ks_is rfl (fun w' hw => runs_load rfl pl3 ((hM1.below hw.1 hM1.lt).at rfl)) ?_
  refine ks_pr rfl (fun v a b h hK => by obtain ⟨g1, h1, h2⟩ := h; exact ⟨g1, h1, hK.2.1 _ _ _ (.inl (by omega)) h2⟩) (fun w' hw hq => (none_own hw.1.size).mono (by rintro v w5 ⟨h1, h2⟩; exact ⟨h1, hw.trans (KA.of_below h2 hw.1.size), KA.of_below h2 hw.1.size⟩)) (fun v38 => ?_)
  refine ks_is rfl (fun w' hw => runs_fieldK fo24_1 rfl) ?_
  refine ks_is rfl (fun w' hw => runs_load rfl pl22 ((hM1.below hw.1 hM1.lt).at rfl)) ?_
  refine ks_is rfl (fun w' hw => runs_move rfl) ?_
  refine ks_is rfl (fun w' hw => runs_sliceFromG (l := kk) rfl rfl rfl und22 siz45 (by omega)) ?_
  refine ks_pr rfl (fun v a b h hK => by obtain ⟨g1, c1, h1, h2⟩ := h; exact ⟨g1, c1, h1, hK.2.1 _ _ _ (.inl (by omega)) h2⟩) (fun w' hw hq => (by obtain ⟨g1, rfl, h1⟩ := hq (2, _) List.mem_cons_self (by kernel_rfl); exact (copy_own (hEd w' hw.1) (by omega) hw.1.size rfl h1 rfl).mono (by rintro u w5 ⟨⟨g2, c2, hu⟩, h3, h4⟩; rw [hl5] at hu h3; exact ⟨⟨g2, c2, hu, h3⟩, hw.trans (KA.of_below h4 hw.1.size), KA.of_below h4 hw.1.size⟩))) (fun v43 => ?_)
  refine ks_is rfl (fun w' hw => runs_fieldK fo24_1 rfl) ?_
  refine ks_is rfl (fun w' hw => runs_load rfl pl22 ((hM1.below hw.1 hM1.lt).at rfl)) ?_
  refine ks_is rfl (fun w' hw => runs_move rfl) ?_
  refine ks_is rfl (fun w' hw => runs_sliceToG (k := kk) rfl rfl rfl und22 (by kernel_rfl) (by omega)) ?_
  refine ks_pr rfl (fun v a b h hK => ⟨h.1, hK.2.1 _ _ _ (.inr ⟨rfl, rfl⟩) h.2⟩) (fun w' hw hq => (by obtain ⟨g1, c1, rfl, h1⟩ := hq (7, _) List.mem_cons_self (by kernel_rfl); exact (app_own (n := es.length) (xs := es.drop kk) (c := c1) (g := g1) (hEt w' hw.1) (by omega) hw.1.size (by rw [hl5]; rfl) (by rw [hl5]; exact h1) rfl (by intro c5 h5; cases h5) (by omega)).mono (by rintro u w5 ⟨h3, h4⟩; rw [hl5] at h4; exact ⟨h3, hw.trans h4, h4⟩))) (fun v48 => ?_)
  refine ks_pr rfl (fun v a b h hK => by obtain ⟨A2, c2, h1, h2⟩ := h; exact ⟨A2, c2, h1, hK.2.1 _ _ _ (.inr ⟨rfl, rfl⟩) h2⟩) (fun w' hw hq => (by obtain ⟨⟨A2, c2, rfl⟩, h8⟩ := hq (12, _) List.mem_cons_self (by kernel_rfl); exact (runs_buildK (pv := [(0, .int .i64 n), (1, .slice A2 es.length c2)]) (cells := #[.int .i64 n, .slice A2 es.length c2]) rfl (by kernel_rfl)).mono (by rintro u w5 ⟨rfl, rfl⟩; exact ⟨⟨A2, c2, rfl, h8⟩, hw, KA.refl hw.1.size⟩))) (fun v49 => ?_)
  refine ks_pr rfl (fun v a b h hK => by obtain ⟨g6, h1, h2, h3⟩ := h; exact ⟨g6, h1, h2, hK.2.2 _ _ _ (by decide) h3⟩) (fun w' hw hq => (runs_allocB (cs := [.int .i64 0, .slice none 0 0]) zo24 rfl).mono (by rintro v w5 ⟨rfl, h2, h3⟩; exact ⟨⟨_, rfl, hw.1.size, h2⟩, hw.trans (KA.of_below h3 hw.1.size), KA.of_below h3 hw.1.size⟩)) (fun v6 => ?_)
  refine (fun a13 w13 hS hK13 hq => ?_)
  have hB13 := hK13.1



  obtain ⟨A6, c6, rfl, hown6⟩ := (hq (13, _) (List.mem_cons_of_mem _ List.mem_cons_self))
  obtain ⟨g6, rfl, hg6, hG8⟩ := (hq (14, _) List.mem_cons_self)
  clear hq
  have hB := hB.trans (hB13.mono hB.size)
  have hM1 := hM1.below hB13 hM1.lt
  have hM3 := hM3.below hB13 hM3.lt
  have hE := hEb.kept hB
  have hLhG8 : w.heap.size ≤ g6 := Nat.le_trans hBz hg6
  have hNhM1hG8 : w.heap.size ≠ g6 := by omega
  refine tail_none 15 (by kernel_rfl) rfl hS (runs_storeB (cs := [.int .i64 n, .slice A6 es.length c6]) rfl rfl hG8 rfl rfl sz24) (fun v15 w15 a15 hp hS => ⟨trivial, ?_⟩)
  have hQ15 := hG8
  obtain ⟨hG8, hU15⟩ := hp
  have hB := But.new hB hU15 (fun i e => by rw [e]; exact hLhG8) (Nat.le_refl _)
  have hM1 := hM1.but hU15 (hNhM1hG8)
  have hM3 := hM3.but hU15 (has_ne hM3 hQ15 (by decide))
  have hE := hEb.kept hB
  have hown6 := owns_but hown6 hU15 (fun i old ho e => by subst e; exact has_ne ho hQ15 (by decide) rfl)
  refine wpAnyH_done (by kernel_rfl) ?_ _
  refine qx_seq (?_)
  have hE6 := edges_own hown6 hll
  have hperm := wholeL_perm (n := n) (k := (kindL tg.data.toList)) (src := src) (steps := steps) (turn_perm es kk)
  obtain ⟨XL, XN, XE, hW⟩ : ∃ a b c, wholeL n es (kindL tg.data.toList) src steps = (a, b, c) := ⟨_, _, _, rfl⟩
  rw [hW] at hperm
  clear hEt hEd
  refine reg_guard (fun w' => Below w15.heap.size w15 w') [.inl (gv n (.slice (some ⟨b, o, none⟩) es.length cg)), .inr (fun v w' => ∃ y, v = gv n y ∧ Edges w' y es), .inl (.agg (jc tg src steps).toArray), .inr (fun v w' => ∃ (x0 : Value), v = .tuple #[x0, .int .i64 ((XN : Nat) : Int), .int .i64 XE] ∧ Nums w' x0 XL), .inr (fun v w' => ∃ (x0 : Value), v = .tuple #[x0, .int .i64 ((XN : Nat) : Int), .int .i64 XE] ∧ Nums w' x0 XL), .inr (fun v w' => Nums w' v XL), .inl (.int .i64 ((XN : Nat) : Int)), .inl (.int .i64 XE), .inr (fun v w' => Nums w' v XL), .inl (.int .i64 ((XN : Nat) : Int)), .inl (.int .i64 XE)] 11 0 mixed rfl (by kernel_rfl) hS (Below.refl _ _) (fun _ h => h.drew) ?_
  refine hs_is rfl (fun w' hw => runs_loadRow rfl (hM1.below hw hM1.lt) Try.underlying24 rfl (by rw [sz24]; rfl)) ?_
  refine hs_pr rfl (fun _ _ _ h hb => by obtain ⟨y, h1, h2⟩ := h; exact ⟨y, h1, h2.kept hb⟩) (fun w' hw hq => (runs_call (args := [gv n (.slice (some ⟨b, o, none⟩) es.length cg)]) goes13 rfl (own_any n es (by omega) _ w' (hE.kept hw))).mono (by rintro u w3 ⟨hb, y, h1, h2⟩; exact ⟨⟨y, h1, h2.edges⟩, hw.trans (hb.mono hw.size), hb⟩)) (fun u1 => ?_)
  refine hs_is rfl (fun w' hw => runs_loadRow rfl (hM3.below hw hM3.lt) Try.underlying26 rfl (by rw [sz26]; rfl)) ?_
  refine hs_pr rfl (fun _ _ _ h hb => by obtain ⟨x0, he, h0⟩ := h; exact ⟨x0, he, h0.kept hb⟩) (fun w' hw hq => (by obtain ⟨y, rfl, hy⟩ := hq (1, _) List.mem_cons_self (by kernel_rfl); exact (runs_call (args := [gv n y, .agg (jc tg src steps).toArray]) goes14 rfl (whole_is (by omega) w' hy rfl hW)).mono (by rintro v w5 ⟨x0, rfl, h0, hb⟩; exact ⟨⟨x0, rfl, h0⟩, hw.trans (hb.mono hw.size), hb⟩))) (fun vc1 => ?_)
  refine hs_pr rfl (fun _ _ _ h hb => by obtain ⟨x0, he, h0⟩ := h; exact ⟨x0, he, h0.kept hb⟩) (fun w' hw hq => (by have h := hq (3, _) List.mem_cons_self (by kernel_rfl); exact (runs_move rfl).mono (by rintro v w5 ⟨rfl, rfl⟩; exact ⟨h, hw, Below.refl _ _⟩))) (fun vc2 => ?_)
  refine hs_pr rfl (fun _ _ _ h hb => h.kept hb) (fun w' hw hq => (by obtain ⟨x0, rfl, h0⟩ := hq (4, _) List.mem_cons_self (by kernel_rfl); exact (runs_extract rfl rfl).mono (by rintro v w5 ⟨rfl, rfl⟩; exact ⟨h0, hw, Below.refl _ _⟩))) (fun ve0 => ?_)
  refine hs_val rfl (fun w' hw hq => (by obtain ⟨x0, rfl, h0⟩ := hq (4, _) (List.mem_cons_of_mem _ List.mem_cons_self) (by kernel_rfl); exact (runs_extract rfl rfl).mono (by rintro v w5 ⟨rfl, rfl⟩; exact ⟨rfl, hw, Below.refl _ _⟩))) ?_
  refine hs_val rfl (fun w' hw hq => (by obtain ⟨x0, rfl, h0⟩ := hq (4, _) (List.mem_cons_of_mem _ List.mem_cons_self) (by kernel_rfl); exact (runs_extract rfl rfl).mono (by rintro v w5 ⟨rfl, rfl⟩; exact ⟨rfl, hw, Below.refl _ _⟩))) ?_
  refine hs_pr rfl (fun _ _ _ h hb => h.kept hb) (fun w' hw hq => (by have h := hq (5, _) List.mem_cons_self (by kernel_rfl); exact (runs_assign rfl).mono (by rintro v w5 ⟨rfl, rfl⟩; exact ⟨h, hw, Below.refl _ _⟩))) (fun va0 => ?_)
  refine hs_is rfl (fun w' hw => runs_assign rfl) ?_
  refine hs_is rfl (fun w' hw => runs_assign rfl) ?_
  refine (fun a17 w17 hS hB17 hq => ?_)




  have hX := (hq (8, _) List.mem_cons_self)
  obtain ⟨AX, cX, hsX, _, hcX, _⟩ := id hX
  subst hsX
  clear hq
  have hB := hB.trans (hB17.mono hB.size)
  have hM3 := hM3.below hB17 hM3.lt
  have hG8 := hG8.below hB17 hG8.lt
  have hE6 := hE6.kept hB17
  refine wpAnyH_done (by kernel_rfl) ?_ _
  refine qx_seq (reg_seq ?_)
  refine sI hS (runs_loadRow rfl hG8 Try.underlying24 rfl (by rw [sz24]; rfl)) fun _ hS => ?_
  refine sI hS (runs_loadRow rfl hM3 Try.underlying26 rfl (by rw [sz26]; rfl)) fun _ hS => ?_
  refine seq_op hS (by decide) (runs_call (args := [gv n (.slice A6 es.length c6), .agg (jc tg src steps).toArray]) goes14 rfl (whole_is (by omega) w17 hE6 rfl hperm)) (fun v19 w19 a1 hp hS => ?_)
  obtain ⟨y6, rfl, hY, hB19⟩ := hp
  have hB := hB.trans (hB19.mono hB.size)
  have hX := hX.kept hB19
  refine sI hS (runs_move rfl) fun _ hS => ?_
  refine sI hS (runs_extract rfl rfl) fun _ hS => ?_
  refine sI hS (runs_extract rfl rfl) fun _ hS => ?_
  refine sI hS (runs_extract rfl rfl) fun _ hS => ?_
  refine sI hS (runs_assign rfl) fun _ hS => ?_
  refine sI hS (runs_assign rfl) fun _ hS => ?_
  refine sI hS (runs_assign rfl) fun _ hS => ?_
  refine nil_ok (qx_seq (reg_seq ?_))
  refine sI hS (runs_move rfl) fun _ hS => ?_
  refine sI hS (runs_move rfl) fun _ hS => ?_
  refine seq_op hS (by decide) (runs_call (args := [.slice AX XL.length cX, y6]) goes17 rfl (row_any XL XL _ _ w19 hX hY)) (fun v21 w21 a1 hp hS => ?_)
  obtain ⟨rfl, hB21⟩ := hp
  have hB := hB.trans (hB21.mono hB.size)
  rw [show decide (XL = XL) = true by simp] at hS
  refine sI hS (runs_move rfl) fun _ hS => ?_
  refine sY hS (runs_move rfl) fun _ hS => ?_
  refine sY hS (runs_move rfl) fun _ hS => ?_
  refine sY hS (runs_eql (r := true) rfl rfl (by first | rfl | simp)) fun _ hS => ?_
  refine sI hS (runs_pick rfl rfl) fun _ hS => ?_
  refine sI hS (runs_move rfl) fun _ hS => ?_
  refine sY hS (runs_move rfl) fun _ hS => ?_
  refine sY hS (runs_move rfl) fun _ hS => ?_
  refine sY hS (runs_eql (r := true) rfl rfl (by first | rfl | simp)) fun _ hS => ?_
  refine sI hS (runs_pick rfl rfl) fun _ hS => ?_
  refine sI hS (runs_assign rfl) fun _ hS => ?_
  exact nil_ok (qx_ret (ret1 (t := 6) (by kernel_rfl) hS rfl ⟨_, rfl, rfl, hB⟩))
end Go.Proofs.Ytapcpmalgdhakaa
