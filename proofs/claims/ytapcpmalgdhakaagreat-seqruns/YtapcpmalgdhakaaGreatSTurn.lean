/- Layer 7: what a vertex does by each program. Conditions: none of our own. -/
import Derived.Test.YtapcpmalgdhakaaGreatSSend
namespace Go.Proofs.YtapcpmalgdhakaaGreat
open Go.RowKit
set_option maxRecDepth 100000

/-- Edges in a row of which S isn't said. -/
def EdgesOff (S : Nat → Prop) (w : World) (v : Value) (es : List E) : Prop :=
  ∃ (A : Option Addr) (c : Nat), v = .slice A es.length c ∧ es.length ≤ c ∧ c ≤ maxLen ∧ (0 < es.length → ∃ b o, A = some ⟨b, o, none⟩ ∧ b < w.heap.size ∧ w.rangeAt b o (cellsE es) ∧ ¬ S b)
section
variable {S : Nat → Prop} {w w' w1 w2 w3 : World} {v : Value} {es : List E}
theorem EdgesOff.edges (h : EdgesOff S w v es) : Edges w v es := by
  obtain ⟨A, c, rfl, h1, h2, h3⟩ := h
  exact ⟨A, c, rfl, h1, h2, fun h0 => by obtain ⟨b, o, rfl, hb, hr, _⟩ := h3 h0; exact ⟨b, o, rfl, hb, hr⟩⟩
theorem EdgesOff.kept (h : EdgesOff S w v es) (k : Below w.heap.size w w') : EdgesOff S w' v es := by
  obtain ⟨A, c, rfl, h1, h2, h3⟩ := h
  exact ⟨A, c, rfl, h1, h2, fun h0 => by obtain ⟨b, o, rfl, hb, hr, hn⟩ := h3 h0; exact ⟨b, o, rfl, Nat.lt_of_lt_of_le hb k.size, range_below hr k hb, hn⟩⟩
theorem EdgesOff.but (h : EdgesOff S w v es) (k : But S w w') : EdgesOff S w' v es := by
  obtain ⟨A, c, rfl, h1, h2, h3⟩ := h
  refine ⟨A, c, rfl, h1, h2, fun h0 => ?_⟩
  obtain ⟨b, o, rfl, hb, hr, hn⟩ := h3 h0
  refine ⟨b, o, rfl, Nat.lt_of_lt_of_le hb k.size, fun j u hj => ?_, hn⟩
  have h5 := hr j u hj
  simp only [World.cell?] at h5 ⊢
  rw [k.block b hb hn]; exact h5
abbrev fSend (ge gs : Nat) : Value := .func (.func 63) #[] #[.pointer (some ⟨ge, 0, none⟩), .pointer (some ⟨gs, 0, none⟩)]
abbrev tc (fi la so ca : Bool) (inn nb val : Int) (act : Bool) (ge gs : Nat) : List Value := [.bool fi, .bool la, .bool so, .bool ca, .int .i64 inn, .int .i64 nb, .int .i64 val, .bool act, fSend ge gs]
abbrev Two (gt gs : Nat) : Nat → Prop := fun k => k = gt ∨ k = gs
/-- The turn was done: its cells, and what was sent. -/
def Turned (w : World) (gt gs : Nat) (cs : List Value) (l : List E) (w' : World) : Prop :=
  But (Two gt gs) w w' ∧ Has w' gt 89 cs ∧ ∃ sv, Has w' gs 29 [sv] ∧ w'.ownsRow w.heap.size 61 3 sv l.length (cellsE l)
theorem turned_no {gt gs : Nat} {cs : List Value} (hK : But (Two gt gs) w w1) (hB : Below w1.heap.size w1 w2) (hT : Has w2 gt 89 cs) (hs : Has w2 gs 29 [.slice none 0 0]) : Turned w gt gs cs [] w2 :=
  ⟨hK.trans (Below.but hB _), hT, _, hs, ⟨rfl, .inl ⟨rfl, rfl⟩⟩⟩
theorem turned_sent {gt gs : Nat} {cs : List Value} {sv : Value} {l : List E} (hK : But (Two gt gs) w w1) (hB : Below w1.heap.size w1 w2) (hT : Has w2 gt 89 cs) (hs0 : Has w2 gs 29 [.slice none 0 0]) (hU : But (fun k => k = gs) w2 w3) (hs : Has w3 gs 29 [sv]) (hown : w3.ownsRow w2.heap.size 61 3 sv l.length (cellsE l)) : Turned w gt gs cs l w3 :=
  ⟨(hK.trans (Below.but hB _)).trans (hU.mono fun _ h => .inr h), hT.but hU (has_ne hT hs0 (by decide)), sv, hs, owns_mono hown (Nat.le_trans hK.size hB.size)⟩
theorem along_same (x n : Int) (g : Nat) (w : World) (hG : Has w g 2 [.int .i64 n]) : Ans 94 ([.int .i64 x] ++ [.pointer (some ⟨g, 0, none⟩)]) w (fun u w2 => u = .int .i64 n ∧ Below w.heap.size w w2) :=
  (same1_any x n g w hG).mono (by rintro e w2 ⟨u, rfl, rfl, rfl⟩; exact ⟨_, rfl, rfl, Below.refl _ _⟩)
theorem along_ident (x : Int) (w : World) : Ans 80 ([.int .i64 x] ++ []) w (fun u w2 => u = .int .i64 x ∧ Below w.heap.size w w2) :=
  (ident_any x w).mono (by rintro e w2 ⟨u, rfl, rfl, rfl⟩; exact ⟨_, rfl, rfl, Below.refl _ _⟩)
end
set_option maxHeartbeats 1000000 in
theorem best_any (es : List E) (hsm : es.length ≤ 600) (v : Value) (gt ge gs : Nat) (fi la so ca act : Bool) (inn nb val : Int) (w : World) (hT : Has w gt 89 (tc fi la so ca inn nb val act ge gs)) (he : Has w ge 22 [v]) (hs : Has w gs 29 [.slice none 0 0]) (hE : EdgesOff (Two gt gs) w v es) (better : Bool) : Ans 81 [.pointer (some ⟨gt, 0, none⟩), .bool better] w (fun u w' => u = .tuple #[] ∧ Turned w gt gs (tc fi la so ca inn nb (bestL fi ca better inn val es).1 act ge gs) (bestL fi ca better inn val es).2 w') := by
  have hK := But.refl (Two gt gs) w
  cases fi
  · skip
    cases ca
    · skip
      refine calls_qx (args := [.pointer (some ⟨gt, 0, none⟩), .bool better]) 35 Tryz.func81 rfl (by kernel_rfl) (by simp) (fun a hS => ?_)
      have hB := Below.refl w.heap.size w
      have hTb := hT
      have heb := he
      have hsb := hs
      have hEb := hE
      refine qx_seq (qx_seq (reg_seq ?_))
      refine sI hS (runs_move rfl) fun _ hS => ?_
      refine sI hS (runs_nilCheck rfl) fun _ hS => ?_
      refine sI hS (runs_fieldK fo63_0 rfl) fun _ hS => ?_
      refine sI hS (runs_load rfl pl4 (hT.at rfl)) fun _ hS => ?_
      refine sI hS (runs_not (b := false) rfl) fun _ hS => ?_
      refine nil_ok (wp_cond_true (hS.eval rfl) (qx_seq (qx_seq (reg_seq ?_))))
      refine sI hS (runs_move rfl) fun _ hS => ?_
      refine sI hS (runs_nilCheck rfl) fun _ hS => ?_
      refine sI hS (runs_fieldK fo63_3 rfl) fun _ hS => ?_
      refine sI hS (runs_load rfl pl4 (hT.at rfl)) fun _ hS => ?_
      refine sI hS (runs_not (b := false) rfl) fun _ hS => ?_
      refine sI hS (runs_move rfl) fun _ hS => ?_
      refine sN hS fun _ hS => ?_
      refine sN hS fun _ hS => ?_
      refine sI hS (runs_pick rfl rfl) fun _ hS => ?_
      exact nil_ok (wp_cond_true (hS.eval rfl) (qx_ret (ret0 (by kernel_rfl) hS ⟨_, rfl, rfl, by simpa [bestL] using turned_no hK hB hT hs⟩)))
    · skip
      cases better
      · skip
        refine calls_qx (args := [.pointer (some ⟨gt, 0, none⟩), .bool false]) 35 Tryz.func81 rfl (by kernel_rfl) (by simp) (fun a hS => ?_)
        have hB := Below.refl w.heap.size w
        have hTb := hT
        have heb := he
        have hsb := hs
        have hEb := hE
        refine qx_seq (qx_seq (reg_seq ?_))
        refine sI hS (runs_move rfl) fun _ hS => ?_
        refine sI hS (runs_nilCheck rfl) fun _ hS => ?_
        refine sI hS (runs_fieldK fo63_0 rfl) fun _ hS => ?_
        refine sI hS (runs_load rfl pl4 (hT.at rfl)) fun _ hS => ?_
        refine sI hS (runs_not (b := false) rfl) fun _ hS => ?_
        refine nil_ok (wp_cond_true (hS.eval rfl) (qx_seq (qx_seq (reg_seq ?_))))
        refine sI hS (runs_move rfl) fun _ hS => ?_
        refine sI hS (runs_nilCheck rfl) fun _ hS => ?_
        refine sI hS (runs_fieldK fo63_3 rfl) fun _ hS => ?_
        refine sI hS (runs_load rfl pl4 (hT.at rfl)) fun _ hS => ?_
        refine sI hS (runs_not (b := true) rfl) fun _ hS => ?_
        refine sI hS (runs_move rfl) fun _ hS => ?_
        refine sY hS (runs_move rfl) fun _ hS => ?_
        refine sY hS (runs_not (b := false) rfl) fun _ hS => ?_
        refine sI hS (runs_pick rfl rfl) fun _ hS => ?_
        exact nil_ok (wp_cond_true (hS.eval rfl) (qx_ret (ret0 (by kernel_rfl) hS ⟨_, rfl, rfl, by simpa [bestL] using turned_no hK hB hT hs⟩)))
      · skip
        refine calls_qx (args := [.pointer (some ⟨gt, 0, none⟩), .bool true]) 35 Tryz.func81 rfl (by kernel_rfl) (by simp) (fun a hS => ?_)
        have hB := Below.refl w.heap.size w
        have hTb := hT
        have heb := he
        have hsb := hs
        have hEb := hE
        refine qx_seq (qx_seq (reg_seq ?_))
        refine sI hS (runs_move rfl) fun _ hS => ?_
        refine sI hS (runs_nilCheck rfl) fun _ hS => ?_
        refine sI hS (runs_fieldK fo63_0 rfl) fun _ hS => ?_
        refine sI hS (runs_load rfl pl4 (hT.at rfl)) fun _ hS => ?_
        refine sI hS (runs_not (b := false) rfl) fun _ hS => ?_
        refine nil_ok (wp_cond_true (hS.eval rfl) (qx_seq (qx_seq (reg_seq ?_))))
        refine sI hS (runs_move rfl) fun _ hS => ?_
        refine sI hS (runs_nilCheck rfl) fun _ hS => ?_
        refine sI hS (runs_fieldK fo63_3 rfl) fun _ hS => ?_
        refine sI hS (runs_load rfl pl4 (hT.at rfl)) fun _ hS => ?_
        refine sI hS (runs_not (b := true) rfl) fun _ hS => ?_
        refine sI hS (runs_move rfl) fun _ hS => ?_
        refine sY hS (runs_move rfl) fun _ hS => ?_
        refine sY hS (runs_not (b := true) rfl) fun _ hS => ?_
        refine sI hS (runs_pick rfl rfl) fun _ hS => ?_
        refine nil_ok (wp_cond_false (hS.eval rfl) (wp_skip (reg_seq ?_)))
        refine sI hS (runs_move rfl) fun _ hS => ?_
        refine sI hS (runs_move rfl) fun _ hS => ?_
        refine sI hS (runs_nilCheck rfl) fun _ hS => ?_
        refine sI hS (runs_fieldK fo63_4 rfl) fun _ hS => ?_
        refine sI hS (runs_load rfl pl2 (hT.at rfl)) fun _ hS => ?_
        refine sI hS (runs_nilCheck rfl) fun _ hS => ?_
        refine sI hS (runs_fieldK fo63_6 rfl) fun _ hS => ?_
        refine seq_none hS (runs_storeC rfl rfl rfl s1_2 hT rfl) (fun v1 w1 a1 hp hS => ?_)
        have hQ1 := hT
        obtain ⟨hT, hU1⟩ := hp
        have he := he.but hU1 (has_ne he hQ1 (by decide))
        have hs := hs.but hU1 (has_ne hs hQ1 (by decide))
        have hE := hE.but (hU1.mono fun _ h => .inl h)
        have hK := hK.trans ((Below.but hB _).trans (hU1.mono fun _ h => .inl h))
        have hB := Below.refl w1.heap.size w1
        have hTb := hT
        have heb := he
        have hsb := hs
        have hEb := hE
        refine nil_ok (reg_guard (fun w' => Below w1.heap.size w1 w') [.inl (.pointer (some ⟨gt, 0, none⟩)), .inl (.pointer (some ⟨gt, 0, none⟩)), .inl (.pointer (some ⟨gt, 0 + 8, none⟩)), .inl (.func (.func 63) #[] #[.pointer (some ⟨ge, 0, none⟩), .pointer (some ⟨gs, 0, none⟩)]), .inl (.pointer (some ⟨gt, 0, none⟩)), .inl (.pointer (some ⟨gt, 0, none⟩)), .inl (.pointer (some ⟨gt, 0 + 6, none⟩)), .inl (.int .i64 inn), .inr (fun v w' => ∃ g2, v = .func (.func 94) #[] #[.pointer (some ⟨g2, 0, none⟩)] ∧ Has w' g2 2 [.int .i64 inn])] 9 1 mixed rfl (by kernel_rfl) hS (Below.refl _ _) (fun _ h => h.drew) ?_)
        refine hs_is rfl (fun w' hw => runs_move rfl) ?_
        refine hs_is rfl (fun w' hw => runs_nilCheck rfl) ?_
        refine hs_is rfl (fun w' hw => runs_fieldK fo63_8 rfl) ?_
        refine hs_is rfl (fun w' hw => runs_load rfl pl61 ((hT.below hw hT.lt).at rfl)) ?_
        refine hs_is rfl (fun w' hw => runs_move rfl) ?_
        refine hs_is rfl (fun w' hw => runs_nilCheck rfl) ?_
        refine hs_is rfl (fun w' hw => runs_fieldK fo63_6 rfl) ?_
        refine hs_is rfl (fun w' hw => runs_load rfl pl2 ((hT.below hw hT.lt).at rfl)) ?_
        refine hs_pr rfl (fun _ _ _ h hb => by obtain ⟨g2, h1, h2⟩ := h; exact ⟨g2, h1, h2.below hb h2.lt⟩) (fun w' hw hq => (runs_call (args := [.int .i64 inn]) goes82 rfl (same_any inn w')).mono (by rintro v w5 ⟨g2, h1, h2, h3⟩; exact ⟨⟨g2, h1, h2⟩, hw.trans (h3.mono hw.size), h3⟩)) (fun v54 => ?_)
        refine (fun a2 w2 hS hB2 hq => ?_)
        obtain ⟨g2, rfl, hX⟩ := (hq (8, _) List.mem_cons_self)
        clear hq
        have hB := hB.trans (hB2.mono hB.size)
        have hT := hTb.below hB hTb.lt
        have he := heb.below hB heb.lt
        have hs := hsb.below hB hsb.lt
        have hE := hEb.kept hB
        refine tail_op 9 (by kernel_rfl) rfl hS (by decide) (runs_callv (args := [.func (.func 94) #[] #[.pointer (some ⟨g2, 0, none⟩)]]) (caps := [.pointer (some ⟨ge, 0, none⟩), .pointer (some ⟨gs, 0, none⟩)]) goes63 rfl rfl (send_any es hsm v (fun _ => inn) 94 [.pointer (some ⟨g2, 0, none⟩)] goes94 ge gs w2 hE.edges he hs (fun e _ w' hU => along_same _ _ g2 w' (hX.but hU (has_ne hX hs (by decide)))))) (fun v4 w4 a4 hp hS => ⟨trivial, ?_⟩)
        obtain ⟨rfl, hU4, sv, hs4, hown⟩ := hp
        refine wpAnyH_done (by kernel_rfl) ?_ _
        exact qx_end (ret0 (by kernel_rfl) hS ⟨_, rfl, rfl, by simpa [bestL] using turned_sent hK hB hT hs hU4 hs4 hown⟩)
  · skip
    refine calls_qx (args := [.pointer (some ⟨gt, 0, none⟩), .bool better]) 35 Tryz.func81 rfl (by kernel_rfl) (by simp) (fun a hS => ?_)
    have hB := Below.refl w.heap.size w
    have hTb := hT
    have heb := he
    have hsb := hs
    have hEb := hE
    refine qx_seq (qx_seq (reg_seq ?_))
    refine sI hS (runs_move rfl) fun _ hS => ?_
    refine sI hS (runs_nilCheck rfl) fun _ hS => ?_
    refine sI hS (runs_fieldK fo63_0 rfl) fun _ hS => ?_
    refine sI hS (runs_load rfl pl4 (hT.at rfl)) fun _ hS => ?_
    refine sI hS (runs_not (b := true) rfl) fun _ hS => ?_
    refine nil_ok (wp_cond_false (hS.eval rfl) (wp_skip (reg_guard (fun w' => Below w.heap.size w w') [.inl (.pointer (some ⟨gt, 0, none⟩)), .inl (.pointer (some ⟨gt, 0, none⟩)), .inl (.pointer (some ⟨gt, 0 + 8, none⟩)), .inl (.func (.func 63) #[] #[.pointer (some ⟨ge, 0, none⟩), .pointer (some ⟨gs, 0, none⟩)]), .inl (.pointer (some ⟨gt, 0, none⟩)), .inl (.pointer (some ⟨gt, 0, none⟩)), .inl (.pointer (some ⟨gt, 0 + 6, none⟩)), .inl (.int .i64 val), .inr (fun v w' => ∃ g2, v = .func (.func 94) #[] #[.pointer (some ⟨g2, 0, none⟩)] ∧ Has w' g2 2 [.int .i64 val])] 9 1 mixed rfl (by kernel_rfl) hS (Below.refl _ _) (fun _ h => h.drew) ?_)))
    refine hs_is rfl (fun w' hw => runs_move rfl) ?_
    refine hs_is rfl (fun w' hw => runs_nilCheck rfl) ?_
    refine hs_is rfl (fun w' hw => runs_fieldK fo63_8 rfl) ?_
    refine hs_is rfl (fun w' hw => runs_load rfl pl61 ((hT.below hw hT.lt).at rfl)) ?_
    refine hs_is rfl (fun w' hw => runs_move rfl) ?_
    refine hs_is rfl (fun w' hw => runs_nilCheck rfl) ?_
    refine hs_is rfl (fun w' hw => runs_fieldK fo63_6 rfl) ?_
    refine hs_is rfl (fun w' hw => runs_load rfl pl2 ((hT.below hw hT.lt).at rfl)) ?_
    refine hs_pr rfl (fun _ _ _ h hb => by obtain ⟨g2, h1, h2⟩ := h; exact ⟨g2, h1, h2.below hb h2.lt⟩) (fun w' hw hq => (runs_call (args := [.int .i64 val]) goes82 rfl (same_any val w')).mono (by rintro v w5 ⟨g2, h1, h2, h3⟩; exact ⟨⟨g2, h1, h2⟩, hw.trans (h3.mono hw.size), h3⟩)) (fun v54 => ?_)
    refine (fun a1 w1 hS hB1 hq => ?_)
    obtain ⟨g2, rfl, hX⟩ := (hq (8, _) List.mem_cons_self)
    clear hq
    have hB := hB.trans (hB1.mono hB.size)
    have hT := hTb.below hB hTb.lt
    have he := heb.below hB heb.lt
    have hs := hsb.below hB hsb.lt
    have hE := hEb.kept hB
    refine tail_op 9 (by kernel_rfl) rfl hS (by decide) (runs_callv (args := [.func (.func 94) #[] #[.pointer (some ⟨g2, 0, none⟩)]]) (caps := [.pointer (some ⟨ge, 0, none⟩), .pointer (some ⟨gs, 0, none⟩)]) goes63 rfl rfl (send_any es hsm v (fun _ => val) 94 [.pointer (some ⟨g2, 0, none⟩)] goes94 ge gs w1 hE.edges he hs (fun e _ w' hU => along_same _ _ g2 w' (hX.but hU (has_ne hX hs (by decide)))))) (fun v3 w3 a3 hp hS => ⟨trivial, ?_⟩)
    obtain ⟨rfl, hU3, sv, hs3, hown⟩ := hp
    refine wpAnyH_done (by kernel_rfl) ?_ _
    exact qx_end (ret0 (by kernel_rfl) hS ⟨_, rfl, rfl, by simpa [bestL] using turned_sent hK hB hT hs hU3 hs3 hown⟩)
set_option maxHeartbeats 1000000 in
theorem degree_any (es : List E) (hsm : es.length ≤ 600) (v : Value) (gt ge gs : Nat) (fi la so ca act : Bool) (inn nb val : Int) (w : World) (hT : Has w gt 89 (tc fi la so ca inn nb val act ge gs)) (he : Has w ge 22 [v]) (hs : Has w gs 29 [.slice none 0 0]) (hE : EdgesOff (Two gt gs) w v es)  : Ans 84 [.pointer (some ⟨gt, 0, none⟩)] w (fun u w' => u = .tuple #[] ∧ Turned w gt gs (tc fi la so ca inn nb (degL fi ca inn val es).1 act ge gs) (degL fi ca inn val es).2 w') := by
  have hK := But.refl (Two gt gs) w
  cases fi
  · skip
    cases ca
    · skip
      refine calls_qx (args := [.pointer (some ⟨gt, 0, none⟩)]) 25 Tryz.func84 rfl (by kernel_rfl) (by simp) (fun a hS => ?_)
      have hB := Below.refl w.heap.size w
      have hTb := hT
      have heb := he
      have hsb := hs
      have hEb := hE
      refine qx_block (qx_seq (reg_seq ?_))
      refine sI hS (runs_move rfl) fun _ hS => ?_
      refine sI hS (runs_nilCheck rfl) fun _ hS => ?_
      refine sI hS (runs_fieldK fo63_0 rfl) fun _ hS => ?_
      refine sI hS (runs_load rfl pl4 (hT.at rfl)) fun _ hS => ?_
      refine sI hS (runs_assign rfl) fun _ hS => ?_
      refine nil_ok (wp_cond_false (hS.eval rfl) (qx_seq (reg_seq ?_)))
      refine sI hS (runs_move rfl) fun _ hS => ?_
      refine sI hS (runs_nilCheck rfl) fun _ hS => ?_
      refine sI hS (runs_fieldK fo63_3 rfl) fun _ hS => ?_
      refine sI hS (runs_load rfl pl4 (hT.at rfl)) fun _ hS => ?_
      refine sI hS (runs_assign rfl) fun _ hS => ?_
      exact nil_ok (wp_cond_false (hS.eval rfl) (wp_skip (qx_end (ret0 (by kernel_rfl) hS ⟨_, rfl, rfl, by simpa [degL] using turned_no hK hB hT hs⟩))))
    · skip
      refine calls_qx (args := [.pointer (some ⟨gt, 0, none⟩)]) 25 Tryz.func84 rfl (by kernel_rfl) (by simp) (fun a hS => ?_)
      have hB := Below.refl w.heap.size w
      have hTb := hT
      have heb := he
      have hsb := hs
      have hEb := hE
      refine qx_block (qx_seq (reg_seq ?_))
      refine sI hS (runs_move rfl) fun _ hS => ?_
      refine sI hS (runs_nilCheck rfl) fun _ hS => ?_
      refine sI hS (runs_fieldK fo63_0 rfl) fun _ hS => ?_
      refine sI hS (runs_load rfl pl4 (hT.at rfl)) fun _ hS => ?_
      refine sI hS (runs_assign rfl) fun _ hS => ?_
      refine nil_ok (wp_cond_false (hS.eval rfl) (qx_seq (reg_seq ?_)))
      refine sI hS (runs_move rfl) fun _ hS => ?_
      refine sI hS (runs_nilCheck rfl) fun _ hS => ?_
      refine sI hS (runs_fieldK fo63_3 rfl) fun _ hS => ?_
      refine sI hS (runs_load rfl pl4 (hT.at rfl)) fun _ hS => ?_
      refine sI hS (runs_assign rfl) fun _ hS => ?_
      refine nil_ok (wp_cond_true (hS.eval rfl) (reg_seq ?_))
      refine sI hS (runs_move rfl) fun _ hS => ?_
      refine sI hS (runs_move rfl) fun _ hS => ?_
      refine sI hS (runs_nilCheck rfl) fun _ hS => ?_
      refine sI hS (runs_fieldK fo63_4 rfl) fun _ hS => ?_
      refine sI hS (runs_load rfl pl2 (hT.at rfl)) fun _ hS => ?_
      refine sI hS (runs_nilCheck rfl) fun _ hS => ?_
      refine sI hS (runs_fieldK fo63_6 rfl) fun _ hS => ?_
      refine seq_none hS (runs_storeC rfl rfl rfl s1_2 hT rfl) (fun v1 w1 a1 hp hS => ?_)
      have hQ1 := hT
      obtain ⟨hT, hU1⟩ := hp
      have he := he.but hU1 (has_ne he hQ1 (by decide))
      have hs := hs.but hU1 (has_ne hs hQ1 (by decide))
      have hE := hE.but (hU1.mono fun _ h => .inl h)
      have hK := hK.trans ((Below.but hB _).trans (hU1.mono fun _ h => .inl h))
      have hB := Below.refl w1.heap.size w1
      have hTb := hT
      have heb := he
      have hsb := hs
      have hEb := hE
      exact nil_ok (ret0 (by kernel_rfl) hS ⟨_, rfl, rfl, by simpa [degL] using turned_no hK hB hT hs⟩)
  · skip
    refine calls_qx (args := [.pointer (some ⟨gt, 0, none⟩)]) 25 Tryz.func84 rfl (by kernel_rfl) (by simp) (fun a hS => ?_)
    have hB := Below.refl w.heap.size w
    have hTb := hT
    have heb := he
    have hsb := hs
    have hEb := hE
    refine qx_block (qx_seq (reg_seq ?_))
    refine sI hS (runs_move rfl) fun _ hS => ?_
    refine sI hS (runs_nilCheck rfl) fun _ hS => ?_
    refine sI hS (runs_fieldK fo63_0 rfl) fun _ hS => ?_
    refine sI hS (runs_load rfl pl4 (hT.at rfl)) fun _ hS => ?_
    refine sI hS (runs_assign rfl) fun _ hS => ?_
    refine nil_ok (wp_cond_true (hS.eval rfl) (reg_guard (fun w' => Below w.heap.size w w') [.inl (.pointer (some ⟨gt, 0, none⟩)), .inl (.pointer (some ⟨gt, 0, none⟩)), .inl (.pointer (some ⟨gt, 0 + 8, none⟩)), .inl (.func (.func 63) #[] #[.pointer (some ⟨ge, 0, none⟩), .pointer (some ⟨gs, 0, none⟩)]), .inr (fun v w' => ∃ g2, v = .func (.func 94) #[] #[.pointer (some ⟨g2, 0, none⟩)] ∧ Has w' g2 2 [.int .i64 1])] 5 1 mixed rfl (by kernel_rfl) hS (Below.refl _ _) (fun _ h => h.drew) ?_))
    refine hs_is rfl (fun w' hw => runs_move rfl) ?_
    refine hs_is rfl (fun w' hw => runs_nilCheck rfl) ?_
    refine hs_is rfl (fun w' hw => runs_fieldK fo63_8 rfl) ?_
    refine hs_is rfl (fun w' hw => runs_load rfl pl61 ((hT.below hw hT.lt).at rfl)) ?_
    refine hs_pr rfl (fun _ _ _ h hb => by obtain ⟨g2, h1, h2⟩ := h; exact ⟨g2, h1, h2.below hb h2.lt⟩) (fun w' hw hq => (runs_call (args := [.int .i64 1]) goes82 rfl (same_any 1 w')).mono (by rintro v w5 ⟨g2, h1, h2, h3⟩; exact ⟨⟨g2, h1, h2⟩, hw.trans (h3.mono hw.size), h3⟩)) (fun v54 => ?_)
    refine (fun a1 w1 hS hB1 hq => ?_)
    obtain ⟨g2, rfl, hX⟩ := (hq (4, _) List.mem_cons_self)
    clear hq
    have hB := hB.trans (hB1.mono hB.size)
    have hT := hTb.below hB hTb.lt
    have he := heb.below hB heb.lt
    have hs := hsb.below hB hsb.lt
    have hE := hEb.kept hB
    refine tail_op 5 (by kernel_rfl) rfl hS (by decide) (runs_callv (args := [.func (.func 94) #[] #[.pointer (some ⟨g2, 0, none⟩)]]) (caps := [.pointer (some ⟨ge, 0, none⟩), .pointer (some ⟨gs, 0, none⟩)]) goes63 rfl rfl (send_any es hsm v (fun _ => 1) 94 [.pointer (some ⟨g2, 0, none⟩)] goes94 ge gs w1 hE.edges he hs (fun e _ w' hU => along_same _ _ g2 w' (hX.but hU (has_ne hX hs (by decide)))))) (fun v3 w3 a3 hp hS => ⟨trivial, ?_⟩)
    obtain ⟨rfl, hU3, sv, hs3, hown⟩ := hp
    refine wpAnyH_done (by kernel_rfl) ?_ _
    exact qx_end (ret0 (by kernel_rfl) hS ⟨_, rfl, rfl, by simpa [degL] using turned_sent hK hB hT hs hU3 hs3 hown⟩)
set_option maxHeartbeats 1000000 in
theorem walks_any (es : List E) (hsm : es.length ≤ 600) (v : Value) (gt ge gs : Nat) (fi la so ca act : Bool) (inn nb val : Int) (w : World) (hT : Has w gt 89 (tc fi la so ca inn nb val act ge gs)) (he : Has w ge 22 [v]) (hs : Has w gs 29 [.slice none 0 0]) (hE : EdgesOff (Two gt gs) w v es) (hv : great val = false) (hi : great inn = false) : Ans 86 [.pointer (some ⟨gt, 0, none⟩)] w (fun u w' => u = .tuple #[] ∧ Turned w gt gs (tc fi la so ca inn nb (walkL fi ca inn val es).1 act ge gs) (walkL fi ca inn val es).2 w') := by
  have hK := But.refl (Two gt gs) w
  cases fi
  · skip
    cases ca
    · skip
      obtain ⟨hv1, hv2⟩ := great_no hv
      obtain ⟨hi1, hi2⟩ := great_no hi
      refine calls_qx (args := [.pointer (some ⟨gt, 0, none⟩)]) 39 Tryz.func86 rfl (by kernel_rfl) (by simp) (fun a hS => ?_)
      have hB := Below.refl w.heap.size w
      have hTb := hT
      have heb := he
      have hsb := hs
      have hEb := hE
      refine qx_block (qx_seq (reg_seq ?_))
      refine sI hS (runs_move rfl) fun _ hS => ?_
      refine sI hS (runs_nilCheck rfl) fun _ hS => ?_
      refine sI hS (runs_fieldK fo63_0 rfl) fun _ hS => ?_
      refine sI hS (runs_load rfl pl4 (hT.at rfl)) fun _ hS => ?_
      refine sI hS (runs_assign rfl) fun _ hS => ?_
      refine nil_ok (wp_cond_false (hS.eval rfl) (qx_seq (reg_seq ?_)))
      refine sI hS (runs_move rfl) fun _ hS => ?_
      refine sI hS (runs_nilCheck rfl) fun _ hS => ?_
      refine sI hS (runs_fieldK fo63_3 rfl) fun _ hS => ?_
      refine sI hS (runs_load rfl pl4 (hT.at rfl)) fun _ hS => ?_
      refine sI hS (runs_assign rfl) fun _ hS => ?_
      exact nil_ok (wp_cond_false (hS.eval rfl) (wp_skip (qx_end (ret0 (by kernel_rfl) hS ⟨_, rfl, rfl, by simpa [walkL] using turned_no hK hB hT hs⟩))))
    · skip
      obtain ⟨hv1, hv2⟩ := great_no hv
      obtain ⟨hi1, hi2⟩ := great_no hi
      refine calls_qx (args := [.pointer (some ⟨gt, 0, none⟩)]) 39 Tryz.func86 rfl (by kernel_rfl) (by simp) (fun a hS => ?_)
      have hB := Below.refl w.heap.size w
      have hTb := hT
      have heb := he
      have hsb := hs
      have hEb := hE
      refine qx_block (qx_seq (reg_seq ?_))
      refine sI hS (runs_move rfl) fun _ hS => ?_
      refine sI hS (runs_nilCheck rfl) fun _ hS => ?_
      refine sI hS (runs_fieldK fo63_0 rfl) fun _ hS => ?_
      refine sI hS (runs_load rfl pl4 (hT.at rfl)) fun _ hS => ?_
      refine sI hS (runs_assign rfl) fun _ hS => ?_
      refine nil_ok (wp_cond_false (hS.eval rfl) (qx_seq (reg_seq ?_)))
      refine sI hS (runs_move rfl) fun _ hS => ?_
      refine sI hS (runs_nilCheck rfl) fun _ hS => ?_
      refine sI hS (runs_fieldK fo63_3 rfl) fun _ hS => ?_
      refine sI hS (runs_load rfl pl4 (hT.at rfl)) fun _ hS => ?_
      refine sI hS (runs_assign rfl) fun _ hS => ?_
      refine nil_ok (wp_cond_true (hS.eval rfl) (qx_seq (reg_guard (fun w' => Below w.heap.size w w') [.inl (.pointer (some ⟨gt, 0, none⟩)), .inl (.pointer (some ⟨gt, 0, none⟩)), .inl (.pointer (some ⟨gt, 0 + 6, none⟩)), .inl (.int .i64 val), .inl (.pointer (some ⟨gt, 0, none⟩)), .inl (.pointer (some ⟨gt, 0, none⟩)), .inl (.pointer (some ⟨gt, 0 + 4, none⟩)), .inl (.int .i64 inn), .inl (.int .i64 (val + inn))] 9 3 mixed rfl (by kernel_rfl) hS (Below.refl _ _) (fun _ h => h.drew) ?_)))
      refine hs_is rfl (fun w' hw => runs_move rfl) ?_
      refine hs_is rfl (fun w' hw => runs_nilCheck rfl) ?_
      refine hs_is rfl (fun w' hw => runs_fieldK fo63_6 rfl) ?_
      refine hs_is rfl (fun w' hw => runs_load rfl pl2 ((hT.below hw hT.lt).at rfl)) ?_
      refine hs_is rfl (fun w' hw => runs_move rfl) ?_
      refine hs_is rfl (fun w' hw => runs_nilCheck rfl) ?_
      refine hs_is rfl (fun w' hw => runs_fieldK fo63_4 rfl) ?_
      refine hs_is rfl (fun w' hw => runs_load rfl pl2 ((hT.below hw hT.lt).at rfl)) ?_
      refine hs_is rfl (fun w' hw => runs_add rfl rfl (wrap64 (by omega) (by omega))) ?_
      refine (fun a1 w1 hS hB1 hq => ?_)
      clear hq
      have hB := hB.trans (hB1.mono hB.size)
      have hT := hTb.below hB hTb.lt
      have he := heb.below hB heb.lt
      have hs := hsb.below hB hsb.lt
      have hE := hEb.kept hB
      refine tail_op 9 (by kernel_rfl) rfl hS (by decide) (runs_nilCheck rfl) (fun v3 w3 a3 hp hS => ⟨trivial, ?_⟩)
      obtain ⟨rfl, rfl⟩ := hp
      refine tail_op 10 (by kernel_rfl) rfl hS (by decide) (runs_fieldK fo63_6 rfl) (fun v4 w4 a4 hp hS => ⟨trivial, ?_⟩)
      obtain ⟨rfl, rfl⟩ := hp
      refine tail_none 11 (by kernel_rfl) rfl hS (runs_storeC rfl rfl rfl s1_2 hT rfl) (fun v5 w5 a5 hp hS => ⟨trivial, ?_⟩)
      have hQ5 := hT
      obtain ⟨hT, hU5⟩ := hp
      have he := he.but hU5 (has_ne he hQ5 (by decide))
      have hs := hs.but hU5 (has_ne hs hQ5 (by decide))
      have hE := hE.but (hU5.mono fun _ h => .inl h)
      have hK := hK.trans ((Below.but hB _).trans (hU5.mono fun _ h => .inl h))
      have hB := Below.refl w5.heap.size w5
      have hTb := hT
      have heb := he
      have hsb := hs
      have hEb := hE
      refine wpAnyH_done (by kernel_rfl) ?_ _
      refine reg_guard (fun w' => Below w5.heap.size w5 w') [.inl (.pointer (some ⟨gt, 0, none⟩)), .inl (.pointer (some ⟨gt, 0, none⟩)), .inl (.pointer (some ⟨gt, 0 + 8, none⟩)), .inl (.func (.func 63) #[] #[.pointer (some ⟨ge, 0, none⟩), .pointer (some ⟨gs, 0, none⟩)]), .inl (.pointer (some ⟨gt, 0, none⟩)), .inl (.pointer (some ⟨gt, 0, none⟩)), .inl (.pointer (some ⟨gt, 0 + 4, none⟩)), .inl (.int .i64 inn), .inr (fun v w' => ∃ g2, v = .func (.func 94) #[] #[.pointer (some ⟨g2, 0, none⟩)] ∧ Has w' g2 2 [.int .i64 inn])] 9 1 mixed rfl (by kernel_rfl) hS (Below.refl _ _) (fun _ h => h.drew) ?_
      refine hs_is rfl (fun w' hw => runs_move rfl) ?_
      refine hs_is rfl (fun w' hw => runs_nilCheck rfl) ?_
      refine hs_is rfl (fun w' hw => runs_fieldK fo63_8 rfl) ?_
      refine hs_is rfl (fun w' hw => runs_load rfl pl61 ((hT.below hw hT.lt).at rfl)) ?_
      refine hs_is rfl (fun w' hw => runs_move rfl) ?_
      refine hs_is rfl (fun w' hw => runs_nilCheck rfl) ?_
      refine hs_is rfl (fun w' hw => runs_fieldK fo63_4 rfl) ?_
      refine hs_is rfl (fun w' hw => runs_load rfl pl2 ((hT.below hw hT.lt).at rfl)) ?_
      refine hs_pr rfl (fun _ _ _ h hb => by obtain ⟨g2, h1, h2⟩ := h; exact ⟨g2, h1, h2.below hb h2.lt⟩) (fun w' hw hq => (runs_call (args := [.int .i64 inn]) goes82 rfl (same_any inn w')).mono (by rintro v w5 ⟨g2, h1, h2, h3⟩; exact ⟨⟨g2, h1, h2⟩, hw.trans (h3.mono hw.size), h3⟩)) (fun v54 => ?_)
      refine (fun a6 w6 hS hB6 hq => ?_)
      obtain ⟨g2, rfl, hX⟩ := (hq (8, _) List.mem_cons_self)
      clear hq
      have hB := hB.trans (hB6.mono hB.size)
      have hT := hTb.below hB hTb.lt
      have he := heb.below hB heb.lt
      have hs := hsb.below hB hsb.lt
      have hE := hEb.kept hB
      refine tail_op 9 (by kernel_rfl) rfl hS (by decide) (runs_callv (args := [.func (.func 94) #[] #[.pointer (some ⟨g2, 0, none⟩)]]) (caps := [.pointer (some ⟨ge, 0, none⟩), .pointer (some ⟨gs, 0, none⟩)]) goes63 rfl rfl (send_any es hsm v (fun _ => inn) 94 [.pointer (some ⟨g2, 0, none⟩)] goes94 ge gs w6 hE.edges he hs (fun e _ w' hU => along_same _ _ g2 w' (hX.but hU (has_ne hX hs (by decide)))))) (fun v8 w8 a8 hp hS => ⟨trivial, ?_⟩)
      obtain ⟨rfl, hU8, sv, hs8, hown⟩ := hp
      refine wpAnyH_done (by kernel_rfl) ?_ _
      exact qx_end (ret0 (by kernel_rfl) hS ⟨_, rfl, rfl, by simpa [walkL] using turned_sent hK hB hT hs hU8 hs8 hown⟩)
  · skip
    obtain ⟨hv1, hv2⟩ := great_no hv
    obtain ⟨hi1, hi2⟩ := great_no hi
    refine calls_qx (args := [.pointer (some ⟨gt, 0, none⟩)]) 39 Tryz.func86 rfl (by kernel_rfl) (by simp) (fun a hS => ?_)
    have hB := Below.refl w.heap.size w
    have hTb := hT
    have heb := he
    have hsb := hs
    have hEb := hE
    refine qx_block (qx_seq (reg_seq ?_))
    refine sI hS (runs_move rfl) fun _ hS => ?_
    refine sI hS (runs_nilCheck rfl) fun _ hS => ?_
    refine sI hS (runs_fieldK fo63_0 rfl) fun _ hS => ?_
    refine sI hS (runs_load rfl pl4 (hT.at rfl)) fun _ hS => ?_
    refine sI hS (runs_assign rfl) fun _ hS => ?_
    refine nil_ok (wp_cond_true (hS.eval rfl) (reg_guard (fun w' => Below w.heap.size w w') [.inl (.pointer (some ⟨gt, 0, none⟩)), .inl (.pointer (some ⟨gt, 0, none⟩)), .inl (.pointer (some ⟨gt, 0 + 8, none⟩)), .inl (.func (.func 63) #[] #[.pointer (some ⟨ge, 0, none⟩), .pointer (some ⟨gs, 0, none⟩)]), .inr (fun v w' => ∃ g2, v = .func (.func 94) #[] #[.pointer (some ⟨g2, 0, none⟩)] ∧ Has w' g2 2 [.int .i64 1])] 5 1 mixed rfl (by kernel_rfl) hS (Below.refl _ _) (fun _ h => h.drew) ?_))
    refine hs_is rfl (fun w' hw => runs_move rfl) ?_
    refine hs_is rfl (fun w' hw => runs_nilCheck rfl) ?_
    refine hs_is rfl (fun w' hw => runs_fieldK fo63_8 rfl) ?_
    refine hs_is rfl (fun w' hw => runs_load rfl pl61 ((hT.below hw hT.lt).at rfl)) ?_
    refine hs_pr rfl (fun _ _ _ h hb => by obtain ⟨g2, h1, h2⟩ := h; exact ⟨g2, h1, h2.below hb h2.lt⟩) (fun w' hw hq => (runs_call (args := [.int .i64 1]) goes82 rfl (same_any 1 w')).mono (by rintro v w5 ⟨g2, h1, h2, h3⟩; exact ⟨⟨g2, h1, h2⟩, hw.trans (h3.mono hw.size), h3⟩)) (fun v54 => ?_)
    refine (fun a1 w1 hS hB1 hq => ?_)
    obtain ⟨g2, rfl, hX⟩ := (hq (4, _) List.mem_cons_self)
    clear hq
    have hB := hB.trans (hB1.mono hB.size)
    have hT := hTb.below hB hTb.lt
    have he := heb.below hB heb.lt
    have hs := hsb.below hB hsb.lt
    have hE := hEb.kept hB
    refine tail_op 5 (by kernel_rfl) rfl hS (by decide) (runs_callv (args := [.func (.func 94) #[] #[.pointer (some ⟨g2, 0, none⟩)]]) (caps := [.pointer (some ⟨ge, 0, none⟩), .pointer (some ⟨gs, 0, none⟩)]) goes63 rfl rfl (send_any es hsm v (fun _ => 1) 94 [.pointer (some ⟨g2, 0, none⟩)] goes94 ge gs w1 hE.edges he hs (fun e _ w' hU => along_same _ _ g2 w' (hX.but hU (has_ne hX hs (by decide)))))) (fun v3 w3 a3 hp hS => ⟨trivial, ?_⟩)
    obtain ⟨rfl, hU3, sv, hs3, hown⟩ := hp
    refine wpAnyH_done (by kernel_rfl) ?_ _
    exact qx_end (ret0 (by kernel_rfl) hS ⟨_, rfl, rfl, by simpa [walkL] using turned_sent hK hB hT hs hU3 hs3 hown⟩)
end Go.Proofs.YtapcpmalgdhakaaGreat
