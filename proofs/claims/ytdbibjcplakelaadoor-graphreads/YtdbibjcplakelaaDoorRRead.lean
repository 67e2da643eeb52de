/- The document's Read, walked. Conditions: none of our own. -/
import Derived.Test.YtdbibjcplakelaaDoorRReadA
namespace Go.Proofs.YtdbibjcplakelaaDoor
open Go.RowKit
set_option maxRecDepth 100000

set_option maxHeartbeats 4000000 in
theorem rread_any (l : Bs) (hl : l.length ≤ 1000000) (w : World) : Ans 25 [.string ⟨l.toArray⟩] w (fun u w' => Below w.heap.size w w' ∧ ∃ k x l' at_ e, u = .tuple #[gv k x, .int .i64 at_, .int .i64 e] ∧ Edges w' x l' ∧ ReadIs l k l' at_ e) := by
  refine calls_qx (args := [.string ⟨l.toArray⟩]) 126 Tryd.func25 rfl (by kernel_rfl) (by simp) (fun a hS => ?_)
  refine qx_seq (reg_seq ?_)
  refine seq_op hS (by decide) (runs_alloc24) (fun v1 w1 a1 hp1 hS => ?_)
  obtain ⟨rfl, hw1⟩ := hp1
  obtain ⟨hR, hB1⟩ : Has w1 w.heap.size 24 [.int .i64 0, .slice none 0 0] ∧ Below w.heap.size w w1 := by rw [hw1]; exact new_box w 24 _
  clear hw1
  refine seq_is hS (by decide) (runs_assign rfl) (fun a1 hS => ?_)
  refine seq_is hS (by decide) (runs_assign rfl) (fun a1 hS => ?_)
  refine nil_ok (qx_seq (reg_seq ?_))
  refine seq_is hS (by decide) (runs_build24n) (fun a1 hS => ?_)
  refine seq_op hS (by decide) (runs_alloc24) (fun v2 wa2 a1 hp1 hS => ?_)
  obtain ⟨rfl, hwa2⟩ := hp1
  refine seq_none hS (runs_store24 rfl rfl (by rw [hwa2]; exact Has.new w1 24 [.int .i64 0, .slice none 0 0]) rfl) (fun v2 w2 a1 hp1 hS => ?_)
  obtain ⟨rfl, hwb2⟩ := hp1
  obtain ⟨hG, hB2⟩ : Has w2 w1.heap.size 24 [.int .i64 0, .slice none 0 0] ∧ Below w1.heap.size w1 w2 := by rw [hwb2, hwa2]; exact new_row w1 24 [.int .i64 0, .slice none 0 0] [.int .i64 0, .slice none 0 0]
  clear hwb2 hwa2
  have hne : w.heap.size ≠ w1.heap.size := by have := hR.lt; omega
  have hBg : w.heap.size ≤ w1.heap.size := hB1.size
  have hR := hR.below hB2 hR.lt
  have hB := hB1.trans (hB2.mono hB1.size)
  generalize hgr : w.heap.size = gr at *
  generalize w1.heap.size = g at *
  refine nil_ok (qx_seq (reg_seq ?_))
  refine seq_is hS (by decide) (runs_assign rfl) (fun a1 hS => ?_)
  refine nil_ok (qx_seq (qx_seq (reg_seq ?_)))
  refine seq_is hS (by decide) (runs_assign rfl) (fun a1 hS => ?_)
  refine nil_ok (qx_for (fun m a w' => ∃ (at_ b : Nat) (n : Int) (es : List E) (sv : Value), 1 ≤ at_ ∧ b ≤ l.length ∧ m = l.length - b ∧ at_ ≤ b + 1 ∧ es.length ≤ at_ ∧ Below gr w w' ∧ Has w' gr 24 [.int .i64 0, .slice none 0 0] ∧ Has w' g 24 [.int .i64 n, sv] ∧ w'.ownsRow gr 45 3 sv es.length (cellsE es) ∧ At l at_ (l.drop b) n es ∧ Sees 126 [(0, .string ⟨l.toArray⟩), (6, .int .i64 (b : Int)), (7, .int .i64 (at_ : Int)), (2, .pointer (some ⟨gr, 0, none⟩)), (5, .pointer (some ⟨g, 0, none⟩))] a) l.length ⟨1, 0, 0, [], .slice none 0 0, by omega, by omega, by omega, by omega, by simp, hB, hR, hG, ⟨rfl, .inl ⟨rfl, rfl⟩⟩, .inl ⟨rfl, rfl, rfl, rfl⟩, hS.only _ ⟨rfl, rfl, rfl, rfl, rfl, trivial⟩⟩ ?_)
  clear hS hR hG hB hB1 hB2
  rintro m a w' ⟨at_, b, n, es, sv, hat, hb, rfl, hab, hel, hB, hR, hG, hown, hAt, hS⟩
  refine reg_seq ?_
  have body : (at_ = 1 ∨ l.drop b ≠ []) → ∀ (L : List (Nat × Value)) (a9 : Act), Sees 126 L a9 → (look L 0 = some (.string ⟨l.toArray⟩) ∧ look L 6 = some (.int .i64 (b : Int)) ∧ look L 7 = some (.int .i64 (at_ : Int)) ∧ look L 2 = some (.pointer (some ⟨gr, 0, none⟩)) ∧ look L 5 = some (.pointer (some ⟨g, 0, none⟩))) → ∀ NN : Act → World → Prop, ((Tryd.f25.body.bind loopRest).getD .skip).wp Tryd.prog (Qx (fun a2 w2 => ∃ m', m' < l.length - b ∧ (fun m a w' => ∃ (at_ b : Nat) (n : Int) (es : List E) (sv : Value), 1 ≤ at_ ∧ b ≤ l.length ∧ m = l.length - b ∧ at_ ≤ b + 1 ∧ es.length ≤ at_ ∧ Below gr w w' ∧ Has w' gr 24 [.int .i64 0, .slice none 0 0] ∧ Has w' g 24 [.int .i64 n, sv] ∧ w'.ownsRow gr 45 3 sv es.length (cellsE es) ∧ At l at_ (l.drop b) n es ∧ Sees 126 [(0, .string ⟨l.toArray⟩), (6, .int .i64 (b : Int)), (7, .int .i64 (at_ : Int)), (2, .pointer (some ⟨gr, 0, none⟩)), (5, .pointer (some ⟨g, 0, none⟩))] a) m' a2 w2) (fun i a2 w2 => (i = 0 ∧ NN a2 w2) ∨ (i ≠ 0 ∧ False)) (Rets Tryd.prog Tryd.f25 (fun e w' => ∃ v, e = .returned v ∧ (Below gr w w' ∧ ∃ k x l' at_ e, v = .tuple #[gv k x, .int .i64 at_, .int .i64 e] ∧ Edges w' x l' ∧ ReadIs l k l' at_ e)))) a9 w' := fun hgo L a9 hS hz NN => by
    have hS := hS.only [(0, .string ⟨l.toArray⟩), (6, .int .i64 (b : Int)), (7, .int .i64 (at_ : Int)), (2, .pointer (some ⟨gr, 0, none⟩)), (5, .pointer (some ⟨g, 0, none⟩))] ⟨hz.1, hz.2.1, hz.2.2.1, hz.2.2.2.1, hz.2.2.2.2, trivial⟩
    refine qx_seq (qx_block (qx_seq (reg_seq ?_)))
    refine seq_is hS (by decide) (runs_move rfl) (fun a1 hS => ?_)
    refine seq_is hS (by decide) (runs_assign rfl) (fun a1 hS => ?_)
    refine nil_ok (qx_seq (scan_loop _ _ _ l hl b hb (.int .i64 (at_ : Int)) (.pointer (some ⟨gr, 0, none⟩)) (.pointer (some ⟨g, 0, none⟩)) w' _ (hS.only _ ⟨rfl, rfl, rfl, rfl, rfl, rfl, trivial⟩) (fun a4 t hbt htl hno hend hS => ?_)))
    refine qx_seq (qx_seq (reg_seq ?_))
    refine seq_is hS (by decide) (runs_move rfl) (fun a1 hS => ?_)
    refine seq_is hS (by decide) (runs_move rfl) (fun a1 hS => ?_)
    refine seq_is hS (by decide) (runs_lenL rfl) (fun a1 hS => ?_)
    by_cases hte : t = l.length
    · skip
      have hcut : cutAt 10 (l.drop b) = none := cutAt_out (by
        rw [List.take_of_length_le (by rw [List.length_drop]; omega)] at hno; exact hno)
      have hres := hAt.none hcut hgo
      refine seq_is hS (by decide) (runs_eql (r := true) rfl rfl (by simp [hte])) (fun a1 hS => ?_)
      refine nil_ok (wp_cond_true (hS.eval rfl) (qx_seq (reg_seq ?_)))
      refine seq_is hS (by decide) (runs_build24n) (fun a1 hS => ?_)
      refine seq_is hS (by decide) (runs_move rfl) (fun a1 hS => ?_)
      refine seq_none hS (runs_store24 rfl rfl hR rfl) (fun v8 w8 a8 hp8 hS => ?_)
      obtain ⟨rfl, hw8⟩ := hp8
      have hR8 : Has w8 gr 24 [.int .i64 0, .slice none 0 0] := by rw [hw8]; exact has_setRow hR
      have hB8 : Below gr w w8 := by rw [hw8]; exact below_rowB hB (Nat.le_refl _) _
      refine seq_is hS (by decide) (runs_assign rfl) (fun a1 hS => ?_)
      refine seq_is hS (by decide) (runs_assign rfl) (fun a1 hS => ?_)
      exact nil_ok (qx_ret (retG3 (p := 2) (t := 3) (r := 4) (by kernel_rfl) hS rfl rfl rfl hR8 ⟨_, rfl, hB8, _, _, [], _, _, rfl, edges_nil _, by rw [ReadIs, hres]; exact ⟨rfl, rfl, rfl, rfl⟩⟩))
    · skip
      refine seq_is hS (by decide) (runs_eql (r := false) rfl rfl (by simp; omega)) (fun a1 hS => ?_)
      have htt := hend.resolve_left hte
      have hlt : t < l.length := by omega
      have hcut := split_at htt hbt
      have hcut2 := cutAt_mk (c := 10) (l.drop (t + 1)) hno
      rw [← hcut] at hcut2
      clear hcut
      have hcut := hcut2
      clear hcut2
      obtain ⟨line, hline⟩ : ∃ line, line = (l.drop b).take (t - b) := ⟨_, rfl⟩
      rw [← hline] at hcut
      have hll : line.length ≤ 1000000 := by rw [hline, List.length_take]; rw [List.length_drop]; omega
      refine nil_ok (wp_cond_false (hS.eval rfl) (wp_skip (qx_seq (reg_seq ?_))))
      refine seq_is hS (by decide) (runs_move rfl) (fun a1 hS => ?_)
      refine seq_is hS (by decide) (runs_move rfl) (fun a1 hS => ?_)
      refine seq_is hS (by decide) (runs_move rfl) (fun a1 hS => ?_)
      refine seq_is hS (by decide) ((runs_cutL (l := l) (i := b) (j := t) rfl rfl rfl hbt htl).mono (by rintro v w2 ⟨rfl, rfl⟩; exact ⟨by rw [← hline], rfl⟩)) (fun a1 hS => ?_)
      refine seq_op hS (by decide) (runs_call (args := [.string ⟨line.toArray⟩]) goes36 rfl (rwords_any line hll w')) (fun v2 w2 a2 hp2 hS => ?_)
      obtain ⟨hB2, hownW⟩ := hp2
      have hwn := splitC_ne 32 line
      have hwl := split_len 32 line
      obtain ⟨w0, ps, hws⟩ : ∃ w0 ps, splitC 32 line = w0 :: ps := by
        cases h : splitC 32 line with
        | nil => exact absurd h hwn
        | cons a c => exact ⟨a, c, rfl⟩
      generalize hwsg : splitC 32 line = ws at *
      obtain ⟨gs, cs, rfl, _, hgs, hrW⟩ := owns_at hownW (by rw [hws]; simp)
      have hB0 := hB.size
      have hBs2 := hB2.size
      have hBw2 : Below gr w w2 := hB.trans (hB2.mono (by omega))
      have hR2 := hR.below hB2 hR.lt
      have hG2 := hG.below hB2 hG.lt
      have hown2 := owns_kept hown hB2
      refine seq_is hS (by decide) (runs_assign rfl) (fun a1 hS => ?_)
      refine nil_ok (qx_seq (reg_seq ?_))
      refine seq_is hS (by decide) (runs_move rfl) (fun a1 hS => ?_)
      refine seq_is hS (by decide) (runs_add (r := ((t + 1 : Nat) : Int)) rfl rfl (by simp [IntKind.wrap, IntKind.bits, IntKind.signed]; omega)) (fun a1 hS => ?_)
      refine seq_is hS (by decide) (runs_assign rfl) (fun a1 hS => ?_)
      obtain ⟨i3, hi3, hz3, hs3, hb3⟩ := info_parts inf3
      refine nil_ok (qx_seq (reg_seq ?_))
      refine seq_op hS (by decide) (none_ownT (sz := 1) und60 hi3 (Nat.le_refl _)) (fun v3 w3 a3 hp3 hS => ?_)
      obtain ⟨g3, rfl, hown3, hB3⟩ := hp3
      refine seq_is hS (by decide) (runs_assign rfl) (fun a1 hS => ?_)
      refine nil_ok (qx_seq (qx_seq (reg_seq ?_)))
      refine seq_is hS (by decide) (runs_assign rfl) (fun a1 hS => ?_)
      refine nil_ok (nums_loop _ _ _ ws (by rw [hws]; simp) (by omega) gs cs gr at_ (.string ⟨l.toArray⟩) (.int .i64 ((t + 1 : Nat) : Int)) (.pointer (some ⟨g, 0, none⟩)) _ w2 w3 _ hgs hR2.lt hrW hB3 hown3 (fun w5 h5 => hR2.below h5 hR2.lt) (hS.only _ ⟨rfl, rfl, rfl, rfl, rfl, rfl, rfl, rfl, trivial⟩) (fun a5 w5 iv ls hmm hB5 hown5 hS => ?_) (fun a5 w5 hmm hB5 hR5 hS => ?_))
      rotate_left
      · rw [hws, List.drop_one, List.tail_cons] at hmm
        have hres := hAt.wrong hcut (fun _ => verts_no (hwsg.trans hws) (.inl hmm)) (fun _ => edge_no (hwsg.trans hws) (.inl hmm))
        exact retG3 (p := 2) (t := 3) (r := 4) (by kernel_rfl) hS rfl rfl rfl hR5 ⟨_, rfl, hBw2.trans hB5, _, _, [], _, _, rfl, edges_nil _, by rw [ReadIs, hres]; exact ⟨rfl, rfl, rfl, rfl⟩⟩
      have hmm2 := hmm
      rw [hws, List.drop_one, List.tail_cons] at hmm
      have hpl : ls.length = ps.length := (mapM_some hmm).2.1
      have hR5 := hR2.below hB5 hR2.lt
      have hG5 := hG2.below hB5 hG2.lt
      have hown45 := owns_kept hown2 hB5
      have hBw5 : Below gr w w5 := hBw2.trans (hB5.mono (by omega))
      have hB5s := hB5.size
      have hrW5 := range_below hrW hB5 hgs
      have hw0c : w5.cell? ⟨gs, 0 + 0, none⟩ = some (.string ⟨w0.toArray⟩) := hrW5 0 _ (by rw [hws]; rfl)
      have hwp : 0 < ws.length := by rw [hws]; simp
      obtain ⟨IA, ic, rfl⟩ := owns_form hown5
      refine qx_seq (reg_seq ?_)
      refine seq_is hS (by decide) (runs_move rfl) (fun a1 hS => ?_)
      by_cases c1 : at_ = 1
      · skip
        refine seq_is hS (by decide) (runs_eql (r := true) rfl rfl (by simp [c1])) (fun a1 hS => ?_)
        refine seq_is hS (by decide) (runs_move rfl) (fun a1 hS => ?_)
        refine seq_yis hS (by decide) rfl (by decide) rfl (runs_move rfl) (fun a1 hS => ?_)
        refine seq_yis hS (by decide) rfl (by decide) rfl (runs_indexAddr (j := 0) rfl rfl und58 siz9 rfl hwp) (fun a1 hS => ?_)
        refine seq_yis hS (by decide) rfl (by decide) rfl (runs_load rfl und_plain9 hw0c) (fun a1 hS => ?_)
        by_cases c2 : w0 = graphW
        · skip
          refine seq_yis hS (by decide) rfl (by decide) rfl (runs_eqStr (r := true) rfl rfl (by rw [c2]; rfl)) (fun a1 hS => ?_)
          refine seq_is hS (by decide) (runs_pick rfl rfl) (fun a1 hS => ?_)
          refine seq_is hS (by decide) (runs_move rfl) (fun a1 hS => ?_)
          refine seq_yis hS (by decide) rfl (by decide) rfl (runs_move rfl) (fun a1 hS => ?_)
          refine seq_yis hS (by decide) rfl (by decide) rfl (runs_len rfl und60) (fun a1 hS => ?_)
          by_cases c3 : ls.length = 1
          · skip
            refine seq_yis hS (by decide) rfl (by decide) rfl (runs_eql (r := true) rfl rfl (by simp [c3])) (fun a1 hS => ?_)
            refine seq_is hS (by decide) (runs_pick rfl rfl) (fun a1 hS => ?_)
            obtain ⟨x, rfl⟩ : ∃ x, ls = [x] := by
              match ls, c3 with
              | [x], _ => exact ⟨x, rfl⟩
            obtain rfl : at_ = 1 := by omega
            rw [c2] at hws
            have hv : vertsOf line = some (x : Int) := by unfold vertsOf; rw [line_yes (hwsg.trans hws) hmm (by rw [← hpl]; rfl)]
            obtain ⟨gi, ci, e5, _, _, hri⟩ := owns_at hown5 (by simp)
            simp only [Value.slice.injEq, true_and] at e5
            obtain ⟨rfl, rfl⟩ := e5
            refine nil_ok (wp_cond_true (hS.eval rfl) (reg_seq ?_))
            refine seq_is hS (by decide) (runs_move rfl) (fun a1 hS => ?_)
            refine seq_is hS (by decide) (runs_indexAddr (j := 0) rfl rfl und60 siz3 rfl (by simp)) (fun a1 hS => ?_)
            refine seq_is hS (by decide) (runs_load rfl und_plain3 (ints_get hri rfl)) (fun a1 hS => ?_)
            refine seq_is hS (by decide) (runs_f24 (by decide) rfl) (fun a1 hS => ?_)
            refine seq_none hS (runs_store rfl rfl rfl siz3 (by rw [hG5.cell]; rfl) (hG5.open_ _)) (fun v6 w6 a6 hp6 hS => ?_)
            obtain ⟨rfl, hw6⟩ := hp6
            have hG6 : Has w6 g 24 [.int .i64 (x : Int), sv] := by rw [hw6]; exact hG5.set_ 0 _
            have hR6 := hR5.far (p := ⟨g, 0 + 0, none⟩) (show gr ≠ g from hne) (.int .i64 (x : Int))
            have hB6 : Below gr w w6 := by rw [hw6]; exact hBw5.setCell (p := ⟨g, 0 + 0, none⟩) hBg _
            have hown6 := owns_setCell hown45 hG5 (by decide) (0 + 0) (.int .i64 (x : Int))
            rw [← hw6] at hR6 hown6
            refine nil_ok (reg_seq ?_)
            refine seq_is hS (by decide) (runs_move rfl) (fun a1 hS => ?_)
            refine seq_is hS (by decide) (runs_add (r := ((1 + 1 : Nat) : Int)) rfl rfl rfl) (fun a1 hS => ?_)
            refine seq_is hS (by decide) (runs_assign rfl) (fun a1 hS => ?_)
            exact nil_ok ⟨_, by omega, 1 + 1, t + 1, x, es, sv, by omega, by omega, rfl, by omega, by omega, hB6, hR6, hG6, hown6, hAt.first hcut hv, hS.only _ ⟨rfl, rfl, rfl, rfl, rfl, trivial⟩⟩
          · skip
            refine seq_yis hS (by decide) rfl (by decide) rfl (runs_eql (r := false) rfl rfl (by simp; omega)) (fun a1 hS => ?_)
            refine seq_is hS (by decide) (runs_pick rfl rfl) (fun a1 hS => ?_)
            refine nil_ok (wp_cond_false (hS.eval rfl) (qx_seq (reg_seq ?_)))
            refine seq_is hS (by decide) (runs_move rfl) (fun a1 hS => ?_)
            refine seq_is hS (by decide) (runs_gtr (r := false) rfl rfl (by rw [decide_eq_false_iff_not]; omega)) (fun a1 hS => ?_)
            refine seq_is hS (by decide) (runs_move rfl) (fun a1 hS => ?_)
            refine seq_no hS (by decide) rfl (by decide) rfl rfl (fun a1 hS => ?_)
            refine seq_no hS (by decide) rfl (by decide) rfl rfl (fun a1 hS => ?_)
            refine seq_no hS (by decide) rfl (by decide) rfl rfl (fun a1 hS => ?_)
            refine seq_no hS (by decide) rfl (by decide) rfl rfl (fun a1 hS => ?_)
            refine seq_is hS (by decide) (runs_pick rfl rfl) (fun a1 hS => ?_)
            refine seq_is hS (by decide) (runs_move rfl) (fun a1 hS => ?_)
            refine seq_no hS (by decide) rfl (by decide) rfl rfl (fun a1 hS => ?_)
            refine seq_no hS (by decide) rfl (by decide) rfl rfl (fun a1 hS => ?_)
            refine seq_no hS (by decide) rfl (by decide) rfl rfl (fun a1 hS => ?_)
            refine seq_is hS (by decide) (runs_pick rfl rfl) (fun a1 hS => ?_)
            have hres := hAt.wrong hcut (fun _ => verts_no (hwsg.trans hws) (.inr (by first | exact fun h => c2 h.1 | exact fun h => c3 (by omega)))) (fun h => by omega)
            refine nil_ok (wp_cond_false (hS.eval rfl) (qx_seq (reg_seq ?_)))
            refine seq_is hS (by decide) (runs_build24n) (fun a1 hS => ?_)
            refine seq_is hS (by decide) (runs_move rfl) (fun a1 hS => ?_)
            refine seq_none hS (runs_store24 rfl rfl hR5 rfl) (fun v8 w8 a8 hp8 hS => ?_)
            obtain ⟨rfl, hw8⟩ := hp8
            have hR8 : Has w8 gr 24 [.int .i64 0, .slice none 0 0] := by rw [hw8]; exact has_setRow hR5
            have hB8 : Below gr w w8 := by rw [hw8]; exact below_rowB hBw5 (Nat.le_refl _) _
            refine seq_is hS (by decide) (runs_assign rfl) (fun a1 hS => ?_)
            refine seq_is hS (by decide) (runs_assign rfl) (fun a1 hS => ?_)
            exact nil_ok (qx_ret (retG3 (p := 2) (t := 3) (r := 4) (by kernel_rfl) hS rfl rfl rfl hR8 ⟨_, rfl, hB8, _, _, [], _, _, rfl, edges_nil _, by rw [ReadIs, hres]; exact ⟨rfl, rfl, rfl, rfl⟩⟩))
        · skip
          refine seq_yis hS (by decide) rfl (by decide) rfl (runs_eqStr (r := false) rfl rfl (by rw [beq_eq_false_iff_ne]; exact c2)) (fun a1 hS => ?_)
          refine seq_is hS (by decide) (runs_pick rfl rfl) (fun a1 hS => ?_)
          refine seq_is hS (by decide) (runs_move rfl) (fun a1 hS => ?_)
          refine seq_no hS (by decide) rfl (by decide) rfl rfl (fun a1 hS => ?_)
          refine seq_no hS (by decide) rfl (by decide) rfl rfl (fun a1 hS => ?_)
          refine seq_no hS (by decide) rfl (by decide) rfl rfl (fun a1 hS => ?_)
          refine seq_is hS (by decide) (runs_pick rfl rfl) (fun a1 hS => ?_)
          refine nil_ok (wp_cond_false (hS.eval rfl) (qx_seq (reg_seq ?_)))
          refine seq_is hS (by decide) (runs_move rfl) (fun a1 hS => ?_)
          refine seq_is hS (by decide) (runs_gtr (r := false) rfl rfl (by rw [decide_eq_false_iff_not]; omega)) (fun a1 hS => ?_)
          refine seq_is hS (by decide) (runs_move rfl) (fun a1 hS => ?_)
          refine seq_no hS (by decide) rfl (by decide) rfl rfl (fun a1 hS => ?_)
          refine seq_no hS (by decide) rfl (by decide) rfl rfl (fun a1 hS => ?_)
          refine seq_no hS (by decide) rfl (by decide) rfl rfl (fun a1 hS => ?_)
          refine seq_no hS (by decide) rfl (by decide) rfl rfl (fun a1 hS => ?_)
          refine seq_is hS (by decide) (runs_pick rfl rfl) (fun a1 hS => ?_)
          refine seq_is hS (by decide) (runs_move rfl) (fun a1 hS => ?_)
          refine seq_no hS (by decide) rfl (by decide) rfl rfl (fun a1 hS => ?_)
          refine seq_no hS (by decide) rfl (by decide) rfl rfl (fun a1 hS => ?_)
          refine seq_no hS (by decide) rfl (by decide) rfl rfl (fun a1 hS => ?_)
          refine seq_is hS (by decide) (runs_pick rfl rfl) (fun a1 hS => ?_)
          have hres := hAt.wrong hcut (fun _ => verts_no (hwsg.trans hws) (.inr (by first | exact fun h => c2 h.1 | exact fun h => c3 (by omega)))) (fun h => by omega)
          refine nil_ok (wp_cond_false (hS.eval rfl) (qx_seq (reg_seq ?_)))
          refine seq_is hS (by decide) (runs_build24n) (fun a1 hS => ?_)
          refine seq_is hS (by decide) (runs_move rfl) (fun a1 hS => ?_)
          refine seq_none hS (runs_store24 rfl rfl hR5 rfl) (fun v8 w8 a8 hp8 hS => ?_)
          obtain ⟨rfl, hw8⟩ := hp8
          have hR8 : Has w8 gr 24 [.int .i64 0, .slice none 0 0] := by rw [hw8]; exact has_setRow hR5
          have hB8 : Below gr w w8 := by rw [hw8]; exact below_rowB hBw5 (Nat.le_refl _) _
          refine seq_is hS (by decide) (runs_assign rfl) (fun a1 hS => ?_)
          refine seq_is hS (by decide) (runs_assign rfl) (fun a1 hS => ?_)
          exact nil_ok (qx_ret (retG3 (p := 2) (t := 3) (r := 4) (by kernel_rfl) hS rfl rfl rfl hR8 ⟨_, rfl, hB8, _, _, [], _, _, rfl, edges_nil _, by rw [ReadIs, hres]; exact ⟨rfl, rfl, rfl, rfl⟩⟩))
      · skip
        refine seq_is hS (by decide) (runs_eql (r := false) rfl rfl (by simp; omega)) (fun a1 hS => ?_)
        refine seq_is hS (by decide) (runs_move rfl) (fun a1 hS => ?_)
        refine seq_no hS (by decide) rfl (by decide) rfl rfl (fun a1 hS => ?_)
        refine seq_no hS (by decide) rfl (by decide) rfl rfl (fun a1 hS => ?_)
        refine seq_no hS (by decide) rfl (by decide) rfl rfl (fun a1 hS => ?_)
        refine seq_no hS (by decide) rfl (by decide) rfl rfl (fun a1 hS => ?_)
        refine seq_is hS (by decide) (runs_pick rfl rfl) (fun a1 hS => ?_)
        refine seq_is hS (by decide) (runs_move rfl) (fun a1 hS => ?_)
        refine seq_no hS (by decide) rfl (by decide) rfl rfl (fun a1 hS => ?_)
        refine seq_no hS (by decide) rfl (by decide) rfl rfl (fun a1 hS => ?_)
        refine seq_no hS (by decide) rfl (by decide) rfl rfl (fun a1 hS => ?_)
        refine seq_is hS (by decide) (runs_pick rfl rfl) (fun a1 hS => ?_)
        refine nil_ok (wp_cond_false (hS.eval rfl) (qx_seq (reg_seq ?_)))
        refine seq_is hS (by decide) (runs_move rfl) (fun a1 hS => ?_)
        refine seq_is hS (by decide) (runs_gtr (r := true) rfl rfl (by rw [decide_eq_true_eq]; omega)) (fun a1 hS => ?_)
        refine seq_is hS (by decide) (runs_move rfl) (fun a1 hS => ?_)
        refine seq_yis hS (by decide) rfl (by decide) rfl (runs_move rfl) (fun a1 hS => ?_)
        refine seq_yis hS (by decide) rfl (by decide) rfl (runs_indexAddr (j := 0) rfl rfl und58 siz9 rfl hwp) (fun a1 hS => ?_)
        refine seq_yis hS (by decide) rfl (by decide) rfl (runs_load rfl und_plain9 hw0c) (fun a1 hS => ?_)
        by_cases d2 : w0 = edgeW
        · skip
          refine seq_yis hS (by decide) rfl (by decide) rfl (runs_eqStr (r := true) rfl rfl (by rw [d2]; rfl)) (fun a1 hS => ?_)
          refine seq_is hS (by decide) (runs_pick rfl rfl) (fun a1 hS => ?_)
          refine seq_is hS (by decide) (runs_move rfl) (fun a1 hS => ?_)
          refine seq_yis hS (by decide) rfl (by decide) rfl (runs_move rfl) (fun a1 hS => ?_)
          refine seq_yis hS (by decide) rfl (by decide) rfl (runs_len rfl und60) (fun a1 hS => ?_)
          by_cases d3 : ls.length = 3
          · skip
            refine seq_yis hS (by decide) rfl (by decide) rfl (runs_eql (r := true) rfl rfl (by simp [d3])) (fun a1 hS => ?_)
            refine seq_is hS (by decide) (runs_pick rfl rfl) (fun a1 hS => ?_)
            obtain ⟨x, y, z, rfl⟩ : ∃ x y z, ls = [x, y, z] := by
              match ls, d3 with
              | [x, y, z], _ => exact ⟨x, y, z, rfl⟩
            rw [d2] at hws
            have hv : edgeOf line = some ((x : Int), (y : Int), (z : Int)) := by unfold edgeOf; rw [line_yes (hwsg.trans hws) hmm (by rw [← hpl]; rfl)]
            obtain ⟨e, hee⟩ : ∃ e : E, e = ((x : Int), (y : Int), (z : Int)) := ⟨_, rfl⟩
            have hec : encE e = [.int .i64 (x : Int), .int .i64 (y : Int), .int .i64 (z : Int)] := by rw [hee]; rfl
            rw [← hee] at hv
            obtain ⟨gi, ci, e5, _, hgi, hri⟩ := owns_at hown5 (by simp)
            simp only [Value.slice.injEq, true_and] at e5
            obtain ⟨rfl, rfl⟩ := e5
            have hgl := hG5.lt
            have hrl := hR5.lt
            refine nil_ok (wp_cond_true (hS.eval rfl) ?_)
            refine reg_guard (fun w6 => Below w5.heap.size w5 w6) [.inl (.pointer (some ⟨g, 0 + 1, none⟩)), .inl (sv), .inl (.slice (some ⟨gi, 0, none⟩) [x, y, z].length ic), .inl (.pointer (some ⟨gi, 0 + 0, none⟩)), .inl (.int .i64 (x : Int)), .inl (.slice (some ⟨gi, 0, none⟩) [x, y, z].length ic), .inl (.pointer (some ⟨gi, 0 + 1, none⟩)), .inl (.int .i64 (y : Int)), .inl (.slice (some ⟨gi, 0, none⟩) [x, y, z].length ic), .inl (.pointer (some ⟨gi, 0 + 2, none⟩)), .inl (.int .i64 (z : Int)), .inl (.agg (encE e).toArray), .inr (fun v w4 => ∃ g2, v = .slice (some ⟨g2, 0, none⟩) 1 1 ∧ Has w4 g2 45 (encE e))] 13 3 mixed rfl (by kernel_rfl) hS (Below.refl _ _) (fun _ h => h.drew) ?_
            refine hs_is rfl (fun w' hw => runs_f24 (by decide) rfl) ?_
            refine hs_is rfl (fun w' hw => runs_loadV rfl (hG5.below hw hgl)) ?_
            refine hs_is rfl (fun w' hw => runs_move rfl) ?_
            refine hs_is rfl (fun w' hw => runs_indexAddr (j := 0) rfl rfl und60 siz3 rfl (by simp)) ?_
            refine hs_is rfl (fun w' hw => runs_load rfl und_plain3 (ints_get (range_below hri hw hgi) rfl)) ?_
            refine hs_is rfl (fun w' hw => runs_move rfl) ?_
            refine hs_is rfl (fun w' hw => runs_indexAddr (j := 1) rfl rfl und60 siz3 rfl (by simp)) ?_
            refine hs_is rfl (fun w' hw => runs_load rfl und_plain3 (ints_get (range_below hri hw hgi) rfl)) ?_
            refine hs_is rfl (fun w' hw => runs_move rfl) ?_
            refine hs_is rfl (fun w' hw => runs_indexAddr (j := 2) rfl rfl und60 siz3 rfl (by simp)) ?_
            refine hs_is rfl (fun w' hw => runs_load rfl und_plain3 (ints_get (range_below hri hw hgi) rfl)) ?_
            refine hs_is rfl (fun w' hw => (runs_build45 rfl rfl rfl).mono (by rintro v w2 ⟨rfl, rfl⟩; exact ⟨by rw [hec], rfl⟩)) ?_
            refine hs_pr rfl (fun _ _ _ h hb => by obtain ⟨g2, h1, h2⟩ := h; exact ⟨g2, h1, h2.below hb h2.lt⟩) (fun w' hw hq => (runs_oneE rfl).mono (by rintro v w7 ⟨g2, h1, h2, h3⟩; exact ⟨⟨g2, h1, h2⟩, hw.trans (h3.mono hw.size), h3⟩)) (fun v113 => ?_)
            refine (fun a6 w6 hS6 hB6 hq => ?_)
            obtain ⟨g2, rfl, hX⟩ := hq (12, _) List.mem_cons_self
            clear hq
            have hG := hG5.below hB6 hgl
            have hR := hR5.below hB6 hrl
            have hown := owns_kept hown45 hB6
            have hB6s := hB6.size
            have hBw := hBw5.trans (hB6.mono (by omega))
            refine tail_op 13 (by kernel_rfl) rfl hS6 (by decide) (push_own rfl hown rfl hX (by omega) (by omega)) (fun v7 w7 a7 hp7 hS7 => ⟨trivial, ?_⟩)
            obtain ⟨⟨g8, c8, rfl⟩, hown7, hrow, hB7⟩ := hp7
            have hG := hrow g 24 _ (by decide) hG
            have hR := hrow gr 24 _ (by decide) hR
            have hBw := hBw.trans hB7
            refine tail_op 14 (by kernel_rfl) rfl hS7 (by decide) (runs_f24 (by decide) rfl) (fun v8 w8 a8 hp8 hS8 => ⟨trivial, ?_⟩)
            obtain ⟨rfl, rfl⟩ := hp8
            refine tail_none 15 (by kernel_rfl) rfl hS8 (runs_store rfl rfl rfl siz22 (by rw [hG.cell]; rfl) (hG.open_ _)) (fun v9 w9 a9 hp9 hS9 => ⟨trivial, ?_⟩)
            obtain ⟨rfl, hw9⟩ := hp9
            refine wpAnyH_done (by kernel_rfl) ?_ _
            have hG9 : Has w9 g 24 [.int .i64 n, .slice (some ⟨g8, 0, none⟩) (es.length + 1) c8] := by rw [hw9]; exact hG.set_ 1 _
            have hR9 := hR.far (p := ⟨g, 0 + 1, none⟩) (show gr ≠ g from hne) (.slice (some ⟨g8, 0, none⟩) (es.length + 1) c8)
            have hB9 : Below gr w w9 := by rw [hw9]; exact hBw.setCell (p := ⟨g, 0 + 1, none⟩) hBg _
            have hown9 := owns_setCell hown7 hG (by decide) (0 + 1) (.slice (some ⟨g8, 0, none⟩) (es.length + 1) c8)
            rw [← hw9] at hR9 hown9
            have hS := hS9
            refine reg_seq ?_
            refine seq_is hS (by decide) (runs_move rfl) (fun a1 hS => ?_)
            refine seq_is hS (by decide) (runs_add (r := ((at_ + 1 : Nat) : Int)) rfl rfl (by simp [IntKind.wrap, IntKind.bits, IntKind.signed]; omega)) (fun a1 hS => ?_)
            refine seq_is hS (by decide) (runs_assign rfl) (fun a1 hS => ?_)
            exact nil_ok ⟨_, by omega, at_ + 1, t + 1, n, es ++ [e], _, by omega, by omega, rfl, by omega, by simp; omega, hB9, hR9, hG9, by rw [List.length_append]; exact hown9, hAt.next (by omega) hcut hv, hS.only _ ⟨rfl, rfl, rfl, rfl, rfl, trivial⟩⟩
          · skip
            refine seq_yis hS (by decide) rfl (by decide) rfl (runs_eql (r := false) rfl rfl (by simp; omega)) (fun a1 hS => ?_)
            refine seq_is hS (by decide) (runs_pick rfl rfl) (fun a1 hS => ?_)
            have hres := hAt.wrong hcut (fun h => by omega) (fun _ => edge_no (hwsg.trans hws) (.inr (by first | exact fun h => d2 h.1 | exact fun h => d3 (by omega))))
            refine nil_ok (wp_cond_false (hS.eval rfl) (qx_seq (reg_seq ?_)))
            refine seq_is hS (by decide) (runs_build24n) (fun a1 hS => ?_)
            refine seq_is hS (by decide) (runs_move rfl) (fun a1 hS => ?_)
            refine seq_none hS (runs_store24 rfl rfl hR5 rfl) (fun v8 w8 a8 hp8 hS => ?_)
            obtain ⟨rfl, hw8⟩ := hp8
            have hR8 : Has w8 gr 24 [.int .i64 0, .slice none 0 0] := by rw [hw8]; exact has_setRow hR5
            have hB8 : Below gr w w8 := by rw [hw8]; exact below_rowB hBw5 (Nat.le_refl _) _
            refine seq_is hS (by decide) (runs_assign rfl) (fun a1 hS => ?_)
            refine seq_is hS (by decide) (runs_assign rfl) (fun a1 hS => ?_)
            exact nil_ok (qx_ret (retG3 (p := 2) (t := 3) (r := 4) (by kernel_rfl) hS rfl rfl rfl hR8 ⟨_, rfl, hB8, _, _, [], _, _, rfl, edges_nil _, by rw [ReadIs, hres]; exact ⟨rfl, rfl, rfl, rfl⟩⟩))
        · skip
          refine seq_yis hS (by decide) rfl (by decide) rfl (runs_eqStr (r := false) rfl rfl (by rw [beq_eq_false_iff_ne]; exact d2)) (fun a1 hS => ?_)
          refine seq_is hS (by decide) (runs_pick rfl rfl) (fun a1 hS => ?_)
          refine seq_is hS (by decide) (runs_move rfl) (fun a1 hS => ?_)
          refine seq_no hS (by decide) rfl (by decide) rfl rfl (fun a1 hS => ?_)
          refine seq_no hS (by decide) rfl (by decide) rfl rfl (fun a1 hS => ?_)
          refine seq_no hS (by decide) rfl (by decide) rfl rfl (fun a1 hS => ?_)
          refine seq_is hS (by decide) (runs_pick rfl rfl) (fun a1 hS => ?_)
          have hres := hAt.wrong hcut (fun h => by omega) (fun _ => edge_no (hwsg.trans hws) (.inr (by first | exact fun h => d2 h.1 | exact fun h => d3 (by omega))))
          refine nil_ok (wp_cond_false (hS.eval rfl) (qx_seq (reg_seq ?_)))
          refine seq_is hS (by decide) (runs_build24n) (fun a1 hS => ?_)
          refine seq_is hS (by decide) (runs_move rfl) (fun a1 hS => ?_)
          refine seq_none hS (runs_store24 rfl rfl hR5 rfl) (fun v8 w8 a8 hp8 hS => ?_)
          obtain ⟨rfl, hw8⟩ := hp8
          have hR8 : Has w8 gr 24 [.int .i64 0, .slice none 0 0] := by rw [hw8]; exact has_setRow hR5
          have hB8 : Below gr w w8 := by rw [hw8]; exact below_rowB hBw5 (Nat.le_refl _) _
          refine seq_is hS (by decide) (runs_assign rfl) (fun a1 hS => ?_)
          refine seq_is hS (by decide) (runs_assign rfl) (fun a1 hS => ?_)
          exact nil_ok (qx_ret (retG3 (p := 2) (t := 3) (r := 4) (by kernel_rfl) hS rfl rfl rfl hR8 ⟨_, rfl, hB8, _, _, [], _, _, rfl, edges_nil _, by rw [ReadIs, hres]; exact ⟨rfl, rfl, rfl, rfl⟩⟩))
  refine seq_is hS (by decide) (runs_move rfl) (fun a1 hS => ?_)
  by_cases h1 : (at_ : Int) = 1
  · skip
    refine seq_is hS (by decide) (runs_eql (r := true) rfl rfl (by simp [h1])) (fun a1 hS => ?_)
    refine seq_is hS (by decide) (runs_move rfl) (fun a1 hS => ?_)
    refine seq_no hS (by decide) rfl (by decide) rfl rfl (fun a1 hS => ?_)
    refine seq_no hS (by decide) rfl (by decide) rfl rfl (fun a1 hS => ?_)
    refine seq_no hS (by decide) rfl (by decide) rfl rfl (fun a1 hS => ?_)
    refine seq_no hS (by decide) rfl (by decide) rfl rfl (fun a1 hS => ?_)
    refine seq_is hS (by decide) (runs_pick rfl rfl) (fun a1 hS => ?_)
    refine nil_ok ⟨_, hS.eval rfl, fun h => by simp at h, fun _ => ?_⟩
    exact body (.inl (by omega)) _ _ hS ⟨rfl, rfl, rfl, rfl, rfl⟩ _
  · skip
    refine seq_is hS (by decide) (runs_eql (r := false) rfl rfl (by simp [h1])) (fun a1 hS => ?_)
    refine seq_is hS (by decide) (runs_move rfl) (fun a1 hS => ?_)
    refine seq_yis hS (by decide) rfl (by decide) rfl (runs_move rfl) (fun a1 hS => ?_)
    refine seq_yis hS (by decide) rfl (by decide) rfl (runs_move rfl) (fun a1 hS => ?_)
    refine seq_yis hS (by decide) rfl (by decide) rfl (runs_lenL rfl) (fun a1 hS => ?_)
    by_cases h2 : b < l.length
    · skip
      refine seq_yis hS (by decide) rfl (by decide) rfl (runs_lss (r := true) rfl rfl (by rw [decide_eq_true_eq]; omega)) (fun a1 hS => ?_)
      refine seq_is hS (by decide) (runs_pick rfl rfl) (fun a1 hS => ?_)
      refine nil_ok ⟨_, hS.eval rfl, fun h => by simp at h, fun _ => ?_⟩
      exact body (.inr (fun h => by have := congrArg List.length h; rw [List.length_drop] at this; simp at this; omega)) _ _ hS ⟨rfl, rfl, rfl, rfl, rfl⟩ _
    · skip
      refine seq_yis hS (by decide) rfl (by decide) rfl (runs_lss (r := false) rfl rfl (by rw [decide_eq_false_iff_not]; omega)) (fun a1 hS => ?_)
      refine seq_is hS (by decide) (runs_pick rfl rfl) (fun a1 hS => ?_)
      rw [List.drop_eq_nil_of_le (by omega)] at hAt
      have hres := hAt.end_ (by omega)
      obtain ⟨A5, c5, rfl⟩ := owns_form hown
      have hE := edges_own hown rfl
      have hB0 := hB.size
      refine nil_ok ⟨_, hS.eval rfl, fun _ => ?_, fun h => by simp at h⟩
      refine qx_seq (qx_seq (reg_seq ?_))
      refine seq_is hS (by decide) (runs_loadG rfl hG) (fun a1 hS => ?_)
      refine seq_op hS (by decide) (runs_call (args := [gv n (.slice A5 es.length c5)]) goes11 rfl (rcheck_any n es _ w' hE)) (fun v3 w3 a3 hp3 hS => ?_)
      obtain ⟨rfl, hB3⟩ := hp3
      have hG := hG.below hB3 hG.lt
      have hR := hR.below hB3 hR.lt
      have hE := hE.kept hB3
      have hB := hB.trans (hB3.mono (by omega))
      refine seq_is hS (by decide) (runs_assign rfl) (fun a1 hS => ?_)
      refine nil_ok (qx_seq (reg_seq ?_))
      refine seq_is hS (by decide) (runs_move rfl) (fun a1 hS => ?_)
      by_cases hc : checkZ n es = 0
      · skip
        refine seq_is hS (by decide) (runs_neq (r := false) rfl rfl (by simp [hc])) (fun a1 hS => ?_)
        refine nil_ok (wp_cond_false (hS.eval rfl) (wp_skip (qx_seq (reg_seq ?_))))
        refine seq_is hS (by decide) (runs_loadG rfl hG) (fun a1 hS => ?_)
        refine seq_op hS (by decide) (runs_call (args := [gv n (.slice A5 es.length c5)]) goes18 rfl (rnorm_any n es _ w3 hE hc)) (fun v4 w4 a4 hp4 hS => ?_)
        obtain ⟨hB4, x4, rfl, hE4⟩ := hp4
        obtain ⟨A6, c6, rfl, _, _, _⟩ := id hE4
        have hR4 := hR.below hB4 hR.lt
        have hB3s := hB.size
        have hrl := hR.lt
        have hB4 := hB.trans (hB4.mono (by omega))
        refine seq_none hS (runs_store24 rfl rfl hR4 rfl) (fun v8 w8 a8 hp8 hS => ?_)
        obtain ⟨rfl, hw8⟩ := hp8
        have hR8 : Has w8 gr 24 [.int .i64 n, .slice A6 (normL n.toNat es).length c6] := by rw [hw8]; exact has_setRow hR4
        have hB8 : Below gr w w8 := by rw [hw8]; exact below_rowB hB4 (Nat.le_refl _) _
        have hE8 : EdgesB w3.heap.size w8 (.slice A6 (normL n.toNat es).length c6) (normL n.toNat es) := by rw [hw8]; exact hE4.setRow hrl _
        refine seq_is hS (by decide) (runs_assign rfl) (fun a1 hS => ?_)
        refine seq_is hS (by decide) (runs_assign rfl) (fun a1 hS => ?_)
        exact nil_ok (qx_ret (retG3 (p := 2) (t := 3) (r := 4) (by kernel_rfl) hS rfl rfl rfl hR8 ⟨_, rfl, hB8, _, _, _, _, _, rfl, hE8.edges, by rw [ReadIs, hres]; exact ⟨rfl, hc.symm, fun _ => ⟨rfl, rfl⟩, fun h => absurd hc h⟩⟩))
      · skip
        refine seq_is hS (by decide) (runs_neq (r := true) rfl rfl (by simp [hc])) (fun a1 hS => ?_)
        refine nil_ok (wp_cond_true (hS.eval rfl) (qx_seq (reg_seq ?_)))
        refine seq_is hS (by decide) (runs_build24n) (fun a1 hS => ?_)
        refine seq_is hS (by decide) (runs_move rfl) (fun a1 hS => ?_)
        refine seq_none hS (runs_store24 rfl rfl hR rfl) (fun v8 w8 a8 hp8 hS => ?_)
        obtain ⟨rfl, hw8⟩ := hp8
        have hR8 : Has w8 gr 24 [.int .i64 0, .slice none 0 0] := by rw [hw8]; exact has_setRow hR
        have hB8 : Below gr w w8 := by rw [hw8]; exact below_rowB hB (Nat.le_refl _) _
        refine seq_is hS (by decide) (runs_assign rfl) (fun a1 hS => ?_)
        refine seq_is hS (by decide) (runs_assign rfl) (fun a1 hS => ?_)
        exact nil_ok (qx_ret (retG3 (p := 2) (t := 3) (r := 4) (by kernel_rfl) hS rfl rfl rfl hR8 ⟨_, rfl, hB8, _, _, [], _, _, rfl, edges_nil _, by rw [ReadIs, hres]; exact ⟨rfl, rfl, fun h => absurd h hc, fun _ => ⟨rfl, rfl⟩⟩⟩))
end Go.Proofs.YtdbibjcplakelaaDoor
