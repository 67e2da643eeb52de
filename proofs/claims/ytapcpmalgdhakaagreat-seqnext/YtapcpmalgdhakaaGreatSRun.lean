/- Layer 7: nearest, rank, and the program of any name. Conditions: none of our own. -/
import Derived.Test.YtapcpmalgdhakaaGreatSTurn
namespace Go.Proofs.YtapcpmalgdhakaaGreat
open Go.RowKit
set_option maxRecDepth 100000

theorem turned_from {w w1 w2 : World} {gt gs : Nat} {cs : List Value} {l : List E} (hB : Below w.heap.size w w1) (h : Turned w1 gt gs cs l w2) : Turned w gt gs cs l w2 := by
  obtain ⟨h1, h2, sv, h3, h4⟩ := h
  exact ⟨(Below.but hB _).trans h1, h2, sv, h3, owns_mono h4 hB.size⟩
set_option maxHeartbeats 1000000 in
theorem nearest_any (es : List E) (hsm : es.length ≤ 600) (v : Value) (gt ge gs : Nat) (fi la so ca act : Bool) (inn nb val : Int) (w : World) (hT : Has w gt 89 (tc fi la so ca inn nb val act ge gs)) (he : Has w ge 22 [v]) (hs : Has w gs 29 [.slice none 0 0]) (hE : EdgesOff (Two gt gs) w v es) (len : Int → Int) (kf : FuncId) (cf : List Value) (hkf : Goes Tryz.prog kf) (hi : great inn = false) (hl : ∀ e ∈ es, -2000000000000000 ≤ len e.2.2 ∧ len e.2.2 ≤ 2000000000000000)
    (hlen : ∀ e ∈ es, ∀ w', But (Two gt gs) w w' → Ans kf ([.int .i64 e.2.2] ++ cf) w' (fun u w2 => u = .int .i64 (len e.2.2) ∧ Below w'.heap.size w' w2)) : Ans 83 [.pointer (some ⟨gt, 0, none⟩), .func (.func kf) #[] cf.toArray] w (fun u w' => u = .tuple #[] ∧ Turned w gt gs (tc fi la so ca inn nb (nearL fi so ca inn val len es).1 act ge gs) (nearL fi so ca inn val len es).2 w') := by
  obtain ⟨hi1, hi2⟩ := great_no hi
  have hK := But.refl (Two gt gs) w
  cases fi
  · skip
    cases ca
    · skip
      refine calls_qx (args := [.pointer (some ⟨gt, 0, none⟩), .func (.func kf) #[] cf.toArray]) 55 Tryz.func83 rfl (by kernel_rfl) (by simp) (fun a hS => ?_)
      have hB := Below.refl w.heap.size w
      have hTb := hT
      have heb := he
      have hsb := hs
      have hEb := hE
      refine qx_seq (reg_seq ?_)
      refine seq_op hS (by decide) (runs_boxB (cs := [.pointer (some ⟨gt, 0, none⟩)]) rfl rfl) (fun v1 w1 a1 hp hS => ?_)
      obtain ⟨rfl, hM1, hB1⟩ := hp
      have hB := hB.trans (hB1.mono hB.size)
      have hT := hTb.below hB hTb.lt
      have he := heb.below hB heb.lt
      have hs := hsb.below hB hsb.lt
      have hE := hEb.kept hB
      refine seq_op hS (by decide) (runs_boxB (cs := [.func (.func kf) #[] cf.toArray]) rfl rfl) (fun v3 w3 a1 hp hS => ?_)
      obtain ⟨rfl, hM3, hB3⟩ := hp
      have hB := hB.trans (hB3.mono hB.size)
      have hT := hTb.below hB hTb.lt
      have he := heb.below hB heb.lt
      have hs := hsb.below hB hsb.lt
      have hM1 := hM1.below hB3 hM1.lt
      have hE := hEb.kept hB
      refine nil_ok (qx_block (qx_seq (reg_seq ?_)))
      refine sI hS (runs_load rfl pl72 (hM1.at rfl)) fun _ hS => ?_
      refine sI hS (runs_nilCheck rfl) fun _ hS => ?_
      refine sI hS (runs_fieldK fo63_0 rfl) fun _ hS => ?_
      refine sI hS (runs_load rfl pl4 (hT.at rfl)) fun _ hS => ?_
      refine sI hS (runs_assign rfl) fun _ hS => ?_
      refine nil_ok (wp_cond_false (hS.eval rfl) (qx_seq (?_)))
      refine reg_u (fun a b => Below a.heap.size a b) (fun w' => Below w3.heap.size w3 w') [.inl (.pointer (some ⟨gt, 0, none⟩)), .inl (.pointer (some ⟨gt, 0, none⟩)), .inl (.pointer (some ⟨gt, 0 + 3, none⟩)), .inl (.bool false), .inl (.bool false), .inl undef, .inl undef, .inl undef, .inl undef, .inl undef, .inl undef, .inl undef, .inl undef, .inl undef, .inl undef, .inl undef, .inl undef, .inl undef, .inl undef, .inl undef, .inl undef, .inl (.bool false), .inl (.bool false)] 23 0 mixed rfl (by kernel_rfl) hS (Below.refl _ _) (fun _ h => h.drew) ?_
      refine us_is rfl (fun w' hw => runs_load rfl pl72 ((hM1.below hw hM1.lt).at rfl)) ?_
      refine us_is rfl (fun w' hw => runs_nilCheck rfl) ?_
      refine us_is rfl (fun w' hw => runs_fieldK fo63_3 rfl) ?_
      refine us_is rfl (fun w' hw => runs_load rfl pl4 ((hT.below hw hT.lt).at rfl)) ?_
      refine us_is rfl (fun w' hw => runs_move rfl) ?_
      refine us_no rfl rfl rfl ?_
      refine us_no rfl rfl rfl ?_
      refine us_no rfl rfl rfl ?_
      refine us_no rfl rfl rfl ?_
      refine us_no rfl rfl rfl ?_
      refine us_no rfl rfl rfl ?_
      refine us_un rfl rfl ?_
      refine us_un rfl rfl ?_
      refine us_un rfl rfl ?_
      refine us_un rfl rfl ?_
      refine us_un rfl rfl ?_
      refine us_un rfl rfl ?_
      refine us_un rfl rfl ?_
      refine us_un rfl rfl ?_
      refine us_un rfl rfl ?_
      refine us_no rfl rfl rfl ?_
      refine us_is rfl (fun w' hw => runs_pick rfl rfl) ?_
      refine us_is rfl (fun w' hw => runs_assign rfl) ?_
      refine (fun a5 w5 hS hB5 hq => ?_)
      clear hq
      have hB := hB.trans (hB5.mono hB.size)
      have hT := hTb.below hB hTb.lt
      have he := heb.below hB heb.lt
      have hs := hsb.below hB hsb.lt
      have hM1 := hM1.below hB5 hM1.lt
      have hM3 := hM3.below hB5 hM3.lt
      have hE := hEb.kept hB
      refine wpAnyH_done (by kernel_rfl) ?_ _
      exact wp_cond_false (hS.eval rfl) (wp_skip (qx_end (ret0 (by kernel_rfl) hS ⟨_, rfl, rfl, by simpa [nearL] using turned_no hK hB hT hs⟩)))
    · skip
      refine calls_qx (args := [.pointer (some ⟨gt, 0, none⟩), .func (.func kf) #[] cf.toArray]) 55 Tryz.func83 rfl (by kernel_rfl) (by simp) (fun a hS => ?_)
      have hB := Below.refl w.heap.size w
      have hTb := hT
      have heb := he
      have hsb := hs
      have hEb := hE
      refine qx_seq (reg_seq ?_)
      refine seq_op hS (by decide) (runs_boxB (cs := [.pointer (some ⟨gt, 0, none⟩)]) rfl rfl) (fun v1 w1 a1 hp hS => ?_)
      obtain ⟨rfl, hM1, hB1⟩ := hp
      have hB := hB.trans (hB1.mono hB.size)
      have hT := hTb.below hB hTb.lt
      have he := heb.below hB heb.lt
      have hs := hsb.below hB hsb.lt
      have hE := hEb.kept hB
      refine seq_op hS (by decide) (runs_boxB (cs := [.func (.func kf) #[] cf.toArray]) rfl rfl) (fun v3 w3 a1 hp hS => ?_)
      obtain ⟨rfl, hM3, hB3⟩ := hp
      have hB := hB.trans (hB3.mono hB.size)
      have hT := hTb.below hB hTb.lt
      have he := heb.below hB heb.lt
      have hs := hsb.below hB hsb.lt
      have hM1 := hM1.below hB3 hM1.lt
      have hE := hEb.kept hB
      refine nil_ok (qx_block (qx_seq (reg_seq ?_)))
      refine sI hS (runs_load rfl pl72 (hM1.at rfl)) fun _ hS => ?_
      refine sI hS (runs_nilCheck rfl) fun _ hS => ?_
      refine sI hS (runs_fieldK fo63_0 rfl) fun _ hS => ?_
      refine sI hS (runs_load rfl pl4 (hT.at rfl)) fun _ hS => ?_
      refine sI hS (runs_assign rfl) fun _ hS => ?_
      refine nil_ok (wp_cond_false (hS.eval rfl) (qx_seq (?_)))
      by_cases q1 : val < 0
      · skip
        refine reg_u (fun a b => Below a.heap.size a b) (fun w' => Below w3.heap.size w3 w') [.inl (.pointer (some ⟨gt, 0, none⟩)), .inl (.pointer (some ⟨gt, 0, none⟩)), .inl (.pointer (some ⟨gt, 0 + 3, none⟩)), .inl (.bool true), .inl (.bool true), .inl (.pointer (some ⟨gt, 0, none⟩)), .inl (.pointer (some ⟨gt, 0, none⟩)), .inl (.pointer (some ⟨gt, 0 + 6, none⟩)), .inl (.int .i64 val), .inl (.bool true), .inl (.bool true), .inl undef, .inl undef, .inl undef, .inl undef, .inl undef, .inl undef, .inl undef, .inl undef, .inl undef, .inl (.bool true), .inl (.bool true), .inl (.bool true)] 23 0 mixed rfl (by kernel_rfl) hS (Below.refl _ _) (fun _ h => h.drew) ?_
        refine us_is rfl (fun w' hw => runs_load rfl pl72 ((hM1.below hw hM1.lt).at rfl)) ?_
        refine us_is rfl (fun w' hw => runs_nilCheck rfl) ?_
        refine us_is rfl (fun w' hw => runs_fieldK fo63_3 rfl) ?_
        refine us_is rfl (fun w' hw => runs_load rfl pl4 ((hT.below hw hT.lt).at rfl)) ?_
        refine us_is rfl (fun w' hw => runs_move rfl) ?_
        refine us_yis rfl rfl (fun w' hw => runs_load rfl pl72 ((hM1.below hw hM1.lt).at rfl)) ?_
        refine us_yis rfl rfl (fun w' hw => runs_nilCheck rfl) ?_
        refine us_yis rfl rfl (fun w' hw => runs_fieldK fo63_6 rfl) ?_
        refine us_yis rfl rfl (fun w' hw => runs_load rfl pl2 ((hT.below hw hT.lt).at rfl)) ?_
        refine us_yis rfl rfl (fun w' hw => lssT rfl rfl (by omega)) ?_
        refine us_yis rfl rfl (fun w' hw => runs_move rfl) ?_
        refine us_no rfl rfl rfl ?_
        refine us_no rfl rfl rfl ?_
        refine us_no rfl rfl rfl ?_
        refine us_no rfl rfl rfl ?_
        refine us_no rfl rfl rfl ?_
        refine us_no rfl rfl rfl ?_
        refine us_no rfl rfl rfl ?_
        refine us_no rfl rfl rfl ?_
        refine us_no rfl rfl rfl ?_
        refine us_yis rfl rfl (fun w' hw => runs_pick rfl rfl) ?_
        refine us_is rfl (fun w' hw => runs_pick rfl rfl) ?_
        refine us_is rfl (fun w' hw => runs_assign rfl) ?_
        refine (fun a5 w5 hS hB5 hq => ?_)
        clear hq
        have hB := hB.trans (hB5.mono hB.size)
        have hT := hTb.below hB hTb.lt
        have he := heb.below hB heb.lt
        have hs := hsb.below hB hsb.lt
        have hM1 := hM1.below hB5 hM1.lt
        have hM3 := hM3.below hB5 hM3.lt
        have hE := hEb.kept hB
        refine wpAnyH_done (by kernel_rfl) ?_ _
        refine wp_cond_true (hS.eval rfl) (qx_seq (reg_guard (fun w' => Below w5.heap.size w5 w') [.inl (.pointer (some ⟨gt, 0, none⟩)), .inl (.pointer (some ⟨gt, 0, none⟩)), .inl (.pointer (some ⟨gt, 0, none⟩)), .inl (.pointer (some ⟨gt, 0 + 4, none⟩)), .inl (.int .i64 inn)] 5 3 mixed rfl (by kernel_rfl) hS (Below.refl _ _) (fun _ h => h.drew) ?_))
        refine hs_is rfl (fun w' hw => runs_load rfl pl72 ((hM1.below hw hM1.lt).at rfl)) ?_
        refine hs_is rfl (fun w' hw => runs_load rfl pl72 ((hM1.below hw hM1.lt).at rfl)) ?_
        refine hs_is rfl (fun w' hw => runs_nilCheck rfl) ?_
        refine hs_is rfl (fun w' hw => runs_fieldK fo63_4 rfl) ?_
        refine hs_is rfl (fun w' hw => runs_load rfl pl2 ((hT.below hw hT.lt).at rfl)) ?_
        refine (fun a7 w7 hS hB7 hq => ?_)
        clear hq
        have hB := hB.trans (hB7.mono hB.size)
        have hT := hTb.below hB hTb.lt
        have he := heb.below hB heb.lt
        have hs := hsb.below hB hsb.lt
        have hM1 := hM1.below hB7 hM1.lt
        have hM3 := hM3.below hB7 hM3.lt
        have hE := hEb.kept hB
        refine tail_op 5 (by kernel_rfl) rfl hS (by decide) (runs_nilCheck rfl) (fun v9 w9 a9 hp hS => ⟨trivial, ?_⟩)
        obtain ⟨rfl, rfl⟩ := hp
        refine tail_op 6 (by kernel_rfl) rfl hS (by decide) (runs_fieldK fo63_6 rfl) (fun v10 w10 a10 hp hS => ⟨trivial, ?_⟩)
        obtain ⟨rfl, rfl⟩ := hp
        refine tail_none 7 (by kernel_rfl) rfl hS (runs_storeC rfl rfl rfl s1_2 hT rfl) (fun v11 w11 a11 hp hS => ⟨trivial, ?_⟩)
        have hQ11 := hT
        obtain ⟨hT, hU11⟩ := hp
        have he := he.but hU11 (has_ne he hQ11 (by decide))
        have hs := hs.but hU11 (has_ne hs hQ11 (by decide))
        have hM1 := hM1.but hU11 (has_ne hM1 hQ11 (by decide))
        have hM3 := hM3.but hU11 (has_ne hM3 hQ11 (by decide))
        have hE := hE.but (hU11.mono fun _ h => .inl h)
        have hK := hK.trans ((Below.but hB _).trans (hU11.mono fun _ h => .inl h))
        have hB := Below.refl w11.heap.size w11
        have hTb := hT
        have heb := he
        have hsb := hs
        have hEb := hE
        refine wpAnyH_done (by kernel_rfl) ?_ _
        refine reg_seq ?_
        refine sI hS (runs_load rfl pl72 (hM1.at rfl)) fun _ hS => ?_
        refine sI hS (runs_nilCheck rfl) fun _ hS => ?_
        refine sI hS (runs_fieldK fo63_8 rfl) fun _ hS => ?_
        refine sI hS (runs_load rfl pl61 (hT.at rfl)) fun _ hS => ?_
        refine sI hS (runs_makeFunc (cs := [.pointer (some ⟨w.heap.size, 0, none⟩), .pointer (some ⟨w1.heap.size, 0, none⟩)]) rfl) fun _ hS => ?_
        refine seq_op hS (by decide) (runs_callv (args := [.func (.func 95) #[] #[.pointer (some ⟨w.heap.size, 0, none⟩), .pointer (some ⟨w1.heap.size, 0, none⟩)]]) (caps := [.pointer (some ⟨ge, 0, none⟩), .pointer (some ⟨gs, 0, none⟩)]) goes63 rfl rfl (send_any es hsm v (fun x => inn + len x) 95 [.pointer (some ⟨w.heap.size, 0, none⟩), .pointer (some ⟨w1.heap.size, 0, none⟩)] goes95 ge gs w11 hE.edges he hs (fun e he w' hU => near1_any e.2.2 inn len kf cf hkf (w.heap.size) (w1.heap.size) gt _ _ _ _ _ _ _ _ w' (hM1.but hU (has_ne hM1 hs (by decide))) (hM3.but hU (has_ne hM3 hs (by decide))) (hT.but hU (has_ne hT hs (by decide))) (fun w2 hb => hlen e he w2 (hK.trans ((Below.but hB _).trans ((hU.mono fun _ h => .inr h).trans (Below.but hb _))))) (by omega) (by omega) (hl e he).1 (hl e he).2))) (fun v12 w12 a1 hp hS => ?_)
        obtain ⟨rfl, hU12, sv, hs12, hown⟩ := hp
        exact nil_ok (ret0 (by kernel_rfl) hS ⟨_, rfl, rfl, by simpa [nearL, q1] using turned_sent hK hB hT hs hU12 hs12 hown⟩)
      · skip
        by_cases q2 : inn < val
        · skip
          refine reg_u (fun a b => Below a.heap.size a b) (fun w' => Below w3.heap.size w3 w') [.inl (.pointer (some ⟨gt, 0, none⟩)), .inl (.pointer (some ⟨gt, 0, none⟩)), .inl (.pointer (some ⟨gt, 0 + 3, none⟩)), .inl (.bool true), .inl (.bool true), .inl (.pointer (some ⟨gt, 0, none⟩)), .inl (.pointer (some ⟨gt, 0, none⟩)), .inl (.pointer (some ⟨gt, 0 + 6, none⟩)), .inl (.int .i64 val), .inl (.bool false), .inl (.bool false), .inl (.pointer (some ⟨gt, 0, none⟩)), .inl (.pointer (some ⟨gt, 0, none⟩)), .inl (.pointer (some ⟨gt, 0 + 4, none⟩)), .inl (.int .i64 inn), .inl (.pointer (some ⟨gt, 0, none⟩)), .inl (.pointer (some ⟨gt, 0, none⟩)), .inl (.pointer (some ⟨gt, 0 + 6, none⟩)), .inl (.int .i64 val), .inl (.bool true), .inl (.bool true), .inl (.bool true), .inl (.bool true)] 23 0 mixed rfl (by kernel_rfl) hS (Below.refl _ _) (fun _ h => h.drew) ?_
          refine us_is rfl (fun w' hw => runs_load rfl pl72 ((hM1.below hw hM1.lt).at rfl)) ?_
          refine us_is rfl (fun w' hw => runs_nilCheck rfl) ?_
          refine us_is rfl (fun w' hw => runs_fieldK fo63_3 rfl) ?_
          refine us_is rfl (fun w' hw => runs_load rfl pl4 ((hT.below hw hT.lt).at rfl)) ?_
          refine us_is rfl (fun w' hw => runs_move rfl) ?_
          refine us_yis rfl rfl (fun w' hw => runs_load rfl pl72 ((hM1.below hw hM1.lt).at rfl)) ?_
          refine us_yis rfl rfl (fun w' hw => runs_nilCheck rfl) ?_
          refine us_yis rfl rfl (fun w' hw => runs_fieldK fo63_6 rfl) ?_
          refine us_yis rfl rfl (fun w' hw => runs_load rfl pl2 ((hT.below hw hT.lt).at rfl)) ?_
          refine us_yis rfl rfl (fun w' hw => lssF rfl rfl (by omega)) ?_
          refine us_yis rfl rfl (fun w' hw => runs_move rfl) ?_
          refine us_yis rfl rfl (fun w' hw => runs_load rfl pl72 ((hM1.below hw hM1.lt).at rfl)) ?_
          refine us_yis rfl rfl (fun w' hw => runs_nilCheck rfl) ?_
          refine us_yis rfl rfl (fun w' hw => runs_fieldK fo63_4 rfl) ?_
          refine us_yis rfl rfl (fun w' hw => runs_load rfl pl2 ((hT.below hw hT.lt).at rfl)) ?_
          refine us_yis rfl rfl (fun w' hw => runs_load rfl pl72 ((hM1.below hw hM1.lt).at rfl)) ?_
          refine us_yis rfl rfl (fun w' hw => runs_nilCheck rfl) ?_
          refine us_yis rfl rfl (fun w' hw => runs_fieldK fo63_6 rfl) ?_
          refine us_yis rfl rfl (fun w' hw => runs_load rfl pl2 ((hT.below hw hT.lt).at rfl)) ?_
          refine us_yis rfl rfl (fun w' hw => lssT rfl rfl (by omega)) ?_
          refine us_yis rfl rfl (fun w' hw => runs_pick rfl rfl) ?_
          refine us_is rfl (fun w' hw => runs_pick rfl rfl) ?_
          refine us_is rfl (fun w' hw => runs_assign rfl) ?_
          refine (fun a13 w13 hS hB13 hq => ?_)
          clear hq
          have hB := hB.trans (hB13.mono hB.size)
          have hT := hTb.below hB hTb.lt
          have he := heb.below hB heb.lt
          have hs := hsb.below hB hsb.lt
          have hM1 := hM1.below hB13 hM1.lt
          have hM3 := hM3.below hB13 hM3.lt
          have hE := hEb.kept hB
          refine wpAnyH_done (by kernel_rfl) ?_ _
          refine wp_cond_true (hS.eval rfl) (qx_seq (reg_guard (fun w' => Below w13.heap.size w13 w') [.inl (.pointer (some ⟨gt, 0, none⟩)), .inl (.pointer (some ⟨gt, 0, none⟩)), .inl (.pointer (some ⟨gt, 0, none⟩)), .inl (.pointer (some ⟨gt, 0 + 4, none⟩)), .inl (.int .i64 inn)] 5 3 mixed rfl (by kernel_rfl) hS (Below.refl _ _) (fun _ h => h.drew) ?_))
          refine hs_is rfl (fun w' hw => runs_load rfl pl72 ((hM1.below hw hM1.lt).at rfl)) ?_
          refine hs_is rfl (fun w' hw => runs_load rfl pl72 ((hM1.below hw hM1.lt).at rfl)) ?_
          refine hs_is rfl (fun w' hw => runs_nilCheck rfl) ?_
          refine hs_is rfl (fun w' hw => runs_fieldK fo63_4 rfl) ?_
          refine hs_is rfl (fun w' hw => runs_load rfl pl2 ((hT.below hw hT.lt).at rfl)) ?_
          refine (fun a15 w15 hS hB15 hq => ?_)
          clear hq
          have hB := hB.trans (hB15.mono hB.size)
          have hT := hTb.below hB hTb.lt
          have he := heb.below hB heb.lt
          have hs := hsb.below hB hsb.lt
          have hM1 := hM1.below hB15 hM1.lt
          have hM3 := hM3.below hB15 hM3.lt
          have hE := hEb.kept hB
          refine tail_op 5 (by kernel_rfl) rfl hS (by decide) (runs_nilCheck rfl) (fun v17 w17 a17 hp hS => ⟨trivial, ?_⟩)
          obtain ⟨rfl, rfl⟩ := hp
          refine tail_op 6 (by kernel_rfl) rfl hS (by decide) (runs_fieldK fo63_6 rfl) (fun v18 w18 a18 hp hS => ⟨trivial, ?_⟩)
          obtain ⟨rfl, rfl⟩ := hp
          refine tail_none 7 (by kernel_rfl) rfl hS (runs_storeC rfl rfl rfl s1_2 hT rfl) (fun v19 w19 a19 hp hS => ⟨trivial, ?_⟩)
          have hQ19 := hT
          obtain ⟨hT, hU19⟩ := hp
          have he := he.but hU19 (has_ne he hQ19 (by decide))
          have hs := hs.but hU19 (has_ne hs hQ19 (by decide))
          have hM1 := hM1.but hU19 (has_ne hM1 hQ19 (by decide))
          have hM3 := hM3.but hU19 (has_ne hM3 hQ19 (by decide))
          have hE := hE.but (hU19.mono fun _ h => .inl h)
          have hK := hK.trans ((Below.but hB _).trans (hU19.mono fun _ h => .inl h))
          have hB := Below.refl w19.heap.size w19
          have hTb := hT
          have heb := he
          have hsb := hs
          have hEb := hE
          refine wpAnyH_done (by kernel_rfl) ?_ _
          refine reg_seq ?_
          refine sI hS (runs_load rfl pl72 (hM1.at rfl)) fun _ hS => ?_
          refine sI hS (runs_nilCheck rfl) fun _ hS => ?_
          refine sI hS (runs_fieldK fo63_8 rfl) fun _ hS => ?_
          refine sI hS (runs_load rfl pl61 (hT.at rfl)) fun _ hS => ?_
          refine sI hS (runs_makeFunc (cs := [.pointer (some ⟨w.heap.size, 0, none⟩), .pointer (some ⟨w1.heap.size, 0, none⟩)]) rfl) fun _ hS => ?_
          refine seq_op hS (by decide) (runs_callv (args := [.func (.func 95) #[] #[.pointer (some ⟨w.heap.size, 0, none⟩), .pointer (some ⟨w1.heap.size, 0, none⟩)]]) (caps := [.pointer (some ⟨ge, 0, none⟩), .pointer (some ⟨gs, 0, none⟩)]) goes63 rfl rfl (send_any es hsm v (fun x => inn + len x) 95 [.pointer (some ⟨w.heap.size, 0, none⟩), .pointer (some ⟨w1.heap.size, 0, none⟩)] goes95 ge gs w19 hE.edges he hs (fun e he w' hU => near1_any e.2.2 inn len kf cf hkf (w.heap.size) (w1.heap.size) gt _ _ _ _ _ _ _ _ w' (hM1.but hU (has_ne hM1 hs (by decide))) (hM3.but hU (has_ne hM3 hs (by decide))) (hT.but hU (has_ne hT hs (by decide))) (fun w2 hb => hlen e he w2 (hK.trans ((Below.but hB _).trans ((hU.mono fun _ h => .inr h).trans (Below.but hb _))))) (by omega) (by omega) (hl e he).1 (hl e he).2))) (fun v20 w20 a1 hp hS => ?_)
          obtain ⟨rfl, hU20, sv, hs20, hown⟩ := hp
          exact nil_ok (ret0 (by kernel_rfl) hS ⟨_, rfl, rfl, by simpa [nearL, q1, q2] using turned_sent hK hB hT hs hU20 hs20 hown⟩)
        · skip
          refine reg_u (fun a b => Below a.heap.size a b) (fun w' => Below w3.heap.size w3 w') [.inl (.pointer (some ⟨gt, 0, none⟩)), .inl (.pointer (some ⟨gt, 0, none⟩)), .inl (.pointer (some ⟨gt, 0 + 3, none⟩)), .inl (.bool true), .inl (.bool true), .inl (.pointer (some ⟨gt, 0, none⟩)), .inl (.pointer (some ⟨gt, 0, none⟩)), .inl (.pointer (some ⟨gt, 0 + 6, none⟩)), .inl (.int .i64 val), .inl (.bool false), .inl (.bool false), .inl (.pointer (some ⟨gt, 0, none⟩)), .inl (.pointer (some ⟨gt, 0, none⟩)), .inl (.pointer (some ⟨gt, 0 + 4, none⟩)), .inl (.int .i64 inn), .inl (.pointer (some ⟨gt, 0, none⟩)), .inl (.pointer (some ⟨gt, 0, none⟩)), .inl (.pointer (some ⟨gt, 0 + 6, none⟩)), .inl (.int .i64 val), .inl (.bool false), .inl (.bool false), .inl (.bool false), .inl (.bool false)] 23 0 mixed rfl (by kernel_rfl) hS (Below.refl _ _) (fun _ h => h.drew) ?_
          refine us_is rfl (fun w' hw => runs_load rfl pl72 ((hM1.below hw hM1.lt).at rfl)) ?_
          refine us_is rfl (fun w' hw => runs_nilCheck rfl) ?_
          refine us_is rfl (fun w' hw => runs_fieldK fo63_3 rfl) ?_
          refine us_is rfl (fun w' hw => runs_load rfl pl4 ((hT.below hw hT.lt).at rfl)) ?_
          refine us_is rfl (fun w' hw => runs_move rfl) ?_
          refine us_yis rfl rfl (fun w' hw => runs_load rfl pl72 ((hM1.below hw hM1.lt).at rfl)) ?_
          refine us_yis rfl rfl (fun w' hw => runs_nilCheck rfl) ?_
          refine us_yis rfl rfl (fun w' hw => runs_fieldK fo63_6 rfl) ?_
          refine us_yis rfl rfl (fun w' hw => runs_load rfl pl2 ((hT.below hw hT.lt).at rfl)) ?_
          refine us_yis rfl rfl (fun w' hw => lssF rfl rfl (by omega)) ?_
          refine us_yis rfl rfl (fun w' hw => runs_move rfl) ?_
          refine us_yis rfl rfl (fun w' hw => runs_load rfl pl72 ((hM1.below hw hM1.lt).at rfl)) ?_
          refine us_yis rfl rfl (fun w' hw => runs_nilCheck rfl) ?_
          refine us_yis rfl rfl (fun w' hw => runs_fieldK fo63_4 rfl) ?_
          refine us_yis rfl rfl (fun w' hw => runs_load rfl pl2 ((hT.below hw hT.lt).at rfl)) ?_
          refine us_yis rfl rfl (fun w' hw => runs_load rfl pl72 ((hM1.below hw hM1.lt).at rfl)) ?_
          refine us_yis rfl rfl (fun w' hw => runs_nilCheck rfl) ?_
          refine us_yis rfl rfl (fun w' hw => runs_fieldK fo63_6 rfl) ?_
          refine us_yis rfl rfl (fun w' hw => runs_load rfl pl2 ((hT.below hw hT.lt).at rfl)) ?_
          refine us_yis rfl rfl (fun w' hw => lssF rfl rfl (by omega)) ?_
          refine us_yis rfl rfl (fun w' hw => runs_pick rfl rfl) ?_
          refine us_is rfl (fun w' hw => runs_pick rfl rfl) ?_
          refine us_is rfl (fun w' hw => runs_assign rfl) ?_
          refine (fun a21 w21 hS hB21 hq => ?_)
          clear hq
          have hB := hB.trans (hB21.mono hB.size)
          have hT := hTb.below hB hTb.lt
          have he := heb.below hB heb.lt
          have hs := hsb.below hB hsb.lt
          have hM1 := hM1.below hB21 hM1.lt
          have hM3 := hM3.below hB21 hM3.lt
          have hE := hEb.kept hB
          refine wpAnyH_done (by kernel_rfl) ?_ _
          exact wp_cond_false (hS.eval rfl) (wp_skip (qx_end (ret0 (by kernel_rfl) hS ⟨_, rfl, rfl, by simpa [nearL, q1, q2] using turned_no hK hB hT hs⟩)))
  · skip
    cases so
    · skip
      refine calls_qx (args := [.pointer (some ⟨gt, 0, none⟩), .func (.func kf) #[] cf.toArray]) 55 Tryz.func83 rfl (by kernel_rfl) (by simp) (fun a hS => ?_)
      have hB := Below.refl w.heap.size w
      have hTb := hT
      have heb := he
      have hsb := hs
      have hEb := hE
      refine qx_seq (reg_seq ?_)
      refine seq_op hS (by decide) (runs_boxB (cs := [.pointer (some ⟨gt, 0, none⟩)]) rfl rfl) (fun v1 w1 a1 hp hS => ?_)
      obtain ⟨rfl, hM1, hB1⟩ := hp
      have hB := hB.trans (hB1.mono hB.size)
      have hT := hTb.below hB hTb.lt
      have he := heb.below hB heb.lt
      have hs := hsb.below hB hsb.lt
      have hE := hEb.kept hB
      refine seq_op hS (by decide) (runs_boxB (cs := [.func (.func kf) #[] cf.toArray]) rfl rfl) (fun v3 w3 a1 hp hS => ?_)
      obtain ⟨rfl, hM3, hB3⟩ := hp
      have hB := hB.trans (hB3.mono hB.size)
      have hT := hTb.below hB hTb.lt
      have he := heb.below hB heb.lt
      have hs := hsb.below hB hsb.lt
      have hM1 := hM1.below hB3 hM1.lt
      have hE := hEb.kept hB
      refine nil_ok (qx_block (qx_seq (reg_seq ?_)))
      refine sI hS (runs_load rfl pl72 (hM1.at rfl)) fun _ hS => ?_
      refine sI hS (runs_nilCheck rfl) fun _ hS => ?_
      refine sI hS (runs_fieldK fo63_0 rfl) fun _ hS => ?_
      refine sI hS (runs_load rfl pl4 (hT.at rfl)) fun _ hS => ?_
      refine sI hS (runs_assign rfl) fun _ hS => ?_
      refine nil_ok (wp_cond_true (hS.eval rfl) (qx_seq (reg_seq ?_)))
      refine sI hS (runs_load rfl pl72 (hM1.at rfl)) fun _ hS => ?_
      refine sI hS (runs_nilCheck rfl) fun _ hS => ?_
      refine sI hS (runs_fieldK fo63_2 rfl) fun _ hS => ?_
      refine sI hS (runs_load rfl pl4 (hT.at rfl)) fun _ hS => ?_
      exact nil_ok (wp_cond_false (hS.eval rfl) (wp_skip (qx_end (ret0 (by kernel_rfl) hS ⟨_, rfl, rfl, by simpa [nearL] using turned_no hK hB hT hs⟩))))
    · skip
      refine calls_qx (args := [.pointer (some ⟨gt, 0, none⟩), .func (.func kf) #[] cf.toArray]) 55 Tryz.func83 rfl (by kernel_rfl) (by simp) (fun a hS => ?_)
      have hB := Below.refl w.heap.size w
      have hTb := hT
      have heb := he
      have hsb := hs
      have hEb := hE
      refine qx_seq (reg_seq ?_)
      refine seq_op hS (by decide) (runs_boxB (cs := [.pointer (some ⟨gt, 0, none⟩)]) rfl rfl) (fun v1 w1 a1 hp hS => ?_)
      obtain ⟨rfl, hM1, hB1⟩ := hp
      have hB := hB.trans (hB1.mono hB.size)
      have hT := hTb.below hB hTb.lt
      have he := heb.below hB heb.lt
      have hs := hsb.below hB hsb.lt
      have hE := hEb.kept hB
      refine seq_op hS (by decide) (runs_boxB (cs := [.func (.func kf) #[] cf.toArray]) rfl rfl) (fun v3 w3 a1 hp hS => ?_)
      obtain ⟨rfl, hM3, hB3⟩ := hp
      have hB := hB.trans (hB3.mono hB.size)
      have hT := hTb.below hB hTb.lt
      have he := heb.below hB heb.lt
      have hs := hsb.below hB hsb.lt
      have hM1 := hM1.below hB3 hM1.lt
      have hE := hEb.kept hB
      refine nil_ok (qx_block (qx_seq (reg_seq ?_)))
      refine sI hS (runs_load rfl pl72 (hM1.at rfl)) fun _ hS => ?_
      refine sI hS (runs_nilCheck rfl) fun _ hS => ?_
      refine sI hS (runs_fieldK fo63_0 rfl) fun _ hS => ?_
      refine sI hS (runs_load rfl pl4 (hT.at rfl)) fun _ hS => ?_
      refine sI hS (runs_assign rfl) fun _ hS => ?_
      refine nil_ok (wp_cond_true (hS.eval rfl) (qx_seq (reg_seq ?_)))
      refine sI hS (runs_load rfl pl72 (hM1.at rfl)) fun _ hS => ?_
      refine sI hS (runs_nilCheck rfl) fun _ hS => ?_
      refine sI hS (runs_fieldK fo63_2 rfl) fun _ hS => ?_
      refine sI hS (runs_load rfl pl4 (hT.at rfl)) fun _ hS => ?_
      refine nil_ok (wp_cond_true (hS.eval rfl) (reg_guard (fun w' => Below w3.heap.size w3 w') [.inl (.pointer (some ⟨gt, 0, none⟩)), .inl (.pointer (some ⟨gt, 0, none⟩)), .inl (.pointer (some ⟨gt, 0 + 8, none⟩)), .inl (.func (.func 63) #[] #[.pointer (some ⟨ge, 0, none⟩), .pointer (some ⟨gs, 0, none⟩)]), .inl (.func (.func kf) #[] cf.toArray)] 5 1 mixed rfl (by kernel_rfl) hS (Below.refl _ _) (fun _ h => h.drew) ?_))
      refine hs_is rfl (fun w' hw => runs_load rfl pl72 ((hM1.below hw hM1.lt).at rfl)) ?_
      refine hs_is rfl (fun w' hw => runs_nilCheck rfl) ?_
      refine hs_is rfl (fun w' hw => runs_fieldK fo63_8 rfl) ?_
      refine hs_is rfl (fun w' hw => runs_load rfl pl61 ((hT.below hw hT.lt).at rfl)) ?_
      refine hs_is rfl (fun w' hw => runs_load rfl pl60 ((hM3.below hw hM3.lt).at rfl)) ?_
      refine (fun a5 w5 hS hB5 hq => ?_)
      clear hq
      have hB := hB.trans (hB5.mono hB.size)
      have hT := hTb.below hB hTb.lt
      have he := heb.below hB heb.lt
      have hs := hsb.below hB hsb.lt
      have hE := hEb.kept hB
      refine tail_op 5 (by kernel_rfl) rfl hS (by decide) (runs_callv (args := [.func (.func kf) #[] cf.toArray]) (caps := [.pointer (some ⟨ge, 0, none⟩), .pointer (some ⟨gs, 0, none⟩)]) goes63 rfl rfl (send_any es hsm v (len) kf cf hkf ge gs w5 hE.edges he hs (fun e he w' hU => hlen e he w' (hK.trans ((Below.but hB _).trans (hU.mono fun _ h => .inr h)))))) (fun v7 w7 a7 hp hS => ⟨trivial, ?_⟩)
      obtain ⟨rfl, hU7, sv, hs7, hown⟩ := hp
      refine wpAnyH_done (by kernel_rfl) ?_ _
      exact qx_end (ret0 (by kernel_rfl) hS ⟨_, rfl, rfl, by simpa [nearL] using turned_sent hK hB hT hs hU7 hs7 hown⟩)
set_option maxHeartbeats 1000000 in
theorem rank_any (es : List E) (hsm : es.length ≤ 600) (v : Value) (gt ge gs : Nat) (fi la so ca act : Bool) (inn nb val : Int) (w : World) (hT : Has w gt 89 (tc fi la so ca inn nb val act ge gs)) (he : Has w ge 22 [v]) (hs : Has w gs 29 [.slice none 0 0]) (hE : EdgesOff (Two gt gs) w v es) (hnb : nb = ((es.length : Nat) : Int)) (hv : great val = false) (hi : great inn = false) : Ans 85 [.pointer (some ⟨gt, 0, none⟩)] w (fun u w' => u = .tuple #[] ∧ Turned w gt gs (tc fi la so ca inn nb (rankL fi la inn val es).1 (!la) ge gs) (rankL fi la inn val es).2 w') := by
  subst hnb
  obtain ⟨hi1, hi2⟩ := great_no hi
  obtain ⟨hv1, hv2⟩ := great_no hv
  have hK := But.refl (Two gt gs) w
  have he1 := ediv_bound (a := inn * 85) (b := 100) (M := 100000000000000000) (by omega) (by omega) (by omega) (by omega)
  cases fi
  · skip
    cases la
    · skip
      refine calls_qx (args := [.pointer (some ⟨gt, 0, none⟩)]) 51 Tryz.func85 rfl (by kernel_rfl) (by simp) (fun a hS => ?_)
      have hB := Below.refl w.heap.size w
      have hTb := hT
      have heb := he
      have hsb := hs
      have hEb := hE
      refine qx_seq (qx_seq (reg_seq ?_))
      refine sI hS (runs_move rfl) fun _ hS => ?_
      refine sI hS (runs_nilCheck rfl) fun _ hS => ?_
      refine sI hS (runs_fieldK fo63_0 rfl) fun _ hS => ?_
      refine sI hS (runs_load rfl pl4 (hT.at rfl)) fun _ hS => ?_
      refine sI hS (runs_not (b := false) rfl) fun _ hS => ?_
      refine nil_ok (wp_cond_true (hS.eval rfl) (reg_seq ?_))
      refine sI hS (runs_move rfl) fun _ hS => ?_
      refine sI hS (runs_move rfl) fun _ hS => ?_
      refine sI hS (runs_nilCheck rfl) fun _ hS => ?_
      refine sI hS (runs_fieldK fo63_4 rfl) fun _ hS => ?_
      refine sI hS (runs_load rfl pl2 (hT.at rfl)) fun _ hS => ?_
      refine sI hS (runs_mul rfl rfl (wrap64 (by omega) (by omega))) fun _ hS => ?_
      refine sI hS (runs_call (args := [.int .i64 (inn * 85), .int .i64 100]) goes96 rfl (round_any (inn * 85) 100 (by omega) (by omega) (by omega) w)) fun _ hS => ?_
      refine sI hS (runs_add rfl rfl (wrap64 (by omega) (by omega))) fun _ hS => ?_
      refine sI hS (runs_nilCheck rfl) fun _ hS => ?_
      refine sI hS (runs_fieldK fo63_6 rfl) fun _ hS => ?_
      refine seq_none hS (runs_storeC rfl rfl rfl s1_2 hT rfl) (fun v1 w1 a1 hp hS => ?_)
      have hQ1 := hT
      obtain ⟨hT, hU1⟩ := hp
      have he := he.but hU1 (has_ne he hQ1 (by decide))
      have hs := hs.but hU1 (has_ne hs hQ1 (by decide))
      have hE := hE.but (hU1.mono fun _ h => .inl h)
      have hK := hK.trans ((Below.but hB _).trans (hU1.mono fun _ h => .inl h))
      have hB := Below.refl w1.heap.size w1
      have hTb := hT
      have heb := he
      have hsb := hs
      have hEb := hE
      refine nil_ok (qx_seq (reg_seq ?_))
      refine sI hS (runs_move rfl) fun _ hS => ?_
      refine sI hS (runs_move rfl) fun _ hS => ?_
      refine sI hS (runs_nilCheck rfl) fun _ hS => ?_
      refine sI hS (runs_fieldK fo63_1 rfl) fun _ hS => ?_
      refine sI hS (runs_load rfl pl4 (hT.at rfl)) fun _ hS => ?_
      refine sI hS (runs_not (b := false) rfl) fun _ hS => ?_
      refine sI hS (runs_nilCheck rfl) fun _ hS => ?_
      refine sI hS (runs_fieldK fo63_7 rfl) fun _ hS => ?_
      refine seq_none hS (runs_storeC rfl rfl rfl s1_4 hT rfl) (fun v2 w2 a1 hp hS => ?_)
      have hQ2 := hT
      obtain ⟨hT, hU2⟩ := hp
      have he := he.but hU2 (has_ne he hQ2 (by decide))
      have hs := hs.but hU2 (has_ne hs hQ2 (by decide))
      have hE := hE.but (hU2.mono fun _ h => .inl h)
      have hK := hK.trans ((Below.but hB _).trans (hU2.mono fun _ h => .inl h))
      have hB := Below.refl w2.heap.size w2
      have hTb := hT
      have heb := he
      have hsb := hs
      have hEb := hE
      refine nil_ok (qx_seq (reg_seq ?_))
      refine sI hS (runs_move rfl) fun _ hS => ?_
      refine sI hS (runs_nilCheck rfl) fun _ hS => ?_
      refine sI hS (runs_fieldK fo63_7 rfl) fun _ hS => ?_
      refine sI hS (runs_load rfl pl4 (hT.at rfl)) fun _ hS => ?_
      refine sI hS (runs_move rfl) fun _ hS => ?_
      refine sY hS (runs_move rfl) fun _ hS => ?_
      refine sY hS (runs_nilCheck rfl) fun _ hS => ?_
      refine sY hS (runs_fieldK fo63_5 rfl) fun _ hS => ?_
      refine sY hS (runs_load rfl pl2 (hT.at rfl)) fun _ hS => ?_
      by_cases h1 : ((es.length : Nat) : Int) > 0
      · skip
        refine sY hS (gtrT rfl rfl (by omega)) fun _ hS => ?_
        refine sI hS (runs_pick rfl rfl) fun _ hS => ?_
        refine nil_ok (wp_cond_true (hS.eval rfl) (reg_guard (fun w' => Below w2.heap.size w2 w') [.inl (.pointer (some ⟨gt, 0, none⟩)), .inl (.pointer (some ⟨gt, 0, none⟩)), .inl (.pointer (some ⟨gt, 0 + 8, none⟩)), .inl (.func (.func 63) #[] #[.pointer (some ⟨ge, 0, none⟩), .pointer (some ⟨gs, 0, none⟩)]), .inl (.pointer (some ⟨gt, 0, none⟩)), .inl (.pointer (some ⟨gt, 0, none⟩)), .inl (.pointer (some ⟨gt, 0 + 6, none⟩)), .inl (.int .i64 (9830 + inn * 85 / 100)), .inl (.pointer (some ⟨gt, 0, none⟩)), .inl (.pointer (some ⟨gt, 0, none⟩)), .inl (.pointer (some ⟨gt, 0 + 5, none⟩)), .inl (.int .i64 ((es.length : Nat) : Int)), .inl (.int .i64 ((9830 + inn * 85 / 100) / ((es.length : Nat) : Int))), .inr (fun v w' => ∃ g2, v = .func (.func 94) #[] #[.pointer (some ⟨g2, 0, none⟩)] ∧ Has w' g2 2 [.int .i64 ((9830 + inn * 85 / 100) / ((es.length : Nat) : Int))])] 14 1 mixed rfl (by kernel_rfl) hS (Below.refl _ _) (fun _ h => h.drew) ?_))
        refine hs_is rfl (fun w' hw => runs_move rfl) ?_
        refine hs_is rfl (fun w' hw => runs_nilCheck rfl) ?_
        refine hs_is rfl (fun w' hw => runs_fieldK fo63_8 rfl) ?_
        refine hs_is rfl (fun w' hw => runs_load rfl pl61 ((hT.below hw hT.lt).at rfl)) ?_
        refine hs_is rfl (fun w' hw => runs_move rfl) ?_
        refine hs_is rfl (fun w' hw => runs_nilCheck rfl) ?_
        refine hs_is rfl (fun w' hw => runs_fieldK fo63_6 rfl) ?_
        refine hs_is rfl (fun w' hw => runs_load rfl pl2 ((hT.below hw hT.lt).at rfl)) ?_
        refine hs_is rfl (fun w' hw => runs_move rfl) ?_
        refine hs_is rfl (fun w' hw => runs_nilCheck rfl) ?_
        refine hs_is rfl (fun w' hw => runs_fieldK fo63_5 rfl) ?_
        refine hs_is rfl (fun w' hw => runs_load rfl pl2 ((hT.below hw hT.lt).at rfl)) ?_
        refine hs_is rfl (fun w' hw => runs_call (args := [.int .i64 (9830 + inn * 85 / 100), .int .i64 ((es.length : Nat) : Int)]) goes96 rfl (round_any (9830 + inn * 85 / 100) ((es.length : Nat) : Int) h1 (by omega) (by omega) w')) ?_
        refine hs_pr rfl (fun _ _ _ h hb => by obtain ⟨g2, h1, h2⟩ := h; exact ⟨g2, h1, h2.below hb h2.lt⟩) (fun w' hw hq => (runs_call (args := [.int .i64 ((9830 + inn * 85 / 100) / ((es.length : Nat) : Int))]) goes82 rfl (same_any ((9830 + inn * 85 / 100) / ((es.length : Nat) : Int)) w')).mono (by rintro v w5 ⟨g2, h1, h2, h3⟩; exact ⟨⟨g2, h1, h2⟩, hw.trans (h3.mono hw.size), h3⟩)) (fun v54 => ?_)
        refine (fun a3 w3 hS hB3 hq => ?_)
        obtain ⟨g2, rfl, hX⟩ := (hq (13, _) List.mem_cons_self)
        clear hq
        have hB := hB.trans (hB3.mono hB.size)
        have hT := hTb.below hB hTb.lt
        have he := heb.below hB heb.lt
        have hs := hsb.below hB hsb.lt
        have hE := hEb.kept hB
        refine tail_op 14 (by kernel_rfl) rfl hS (by decide) (runs_callv (args := [.func (.func 94) #[] #[.pointer (some ⟨g2, 0, none⟩)]]) (caps := [.pointer (some ⟨ge, 0, none⟩), .pointer (some ⟨gs, 0, none⟩)]) goes63 rfl rfl (send_any es hsm v (fun _ => ((9830 + inn * 85 / 100) / ((es.length : Nat) : Int))) 94 [.pointer (some ⟨g2, 0, none⟩)] goes94 ge gs w3 hE.edges he hs (fun e _ w' hU => along_same _ _ g2 w' (hX.but hU (has_ne hX hs (by decide)))))) (fun v5 w5 a5 hp hS => ⟨trivial, ?_⟩)
        obtain ⟨rfl, hU5, sv, hs5, hown⟩ := hp
        refine wpAnyH_done (by kernel_rfl) ?_ _
        exact qx_end (ret0 (by kernel_rfl) hS ⟨_, rfl, rfl, by simpa [rankL, rankV, show (0 : Nat) < es.length by omega] using turned_sent hK hB hT hs hU5 hs5 hown⟩)
      refine sY hS (gtrF rfl rfl (by omega)) fun _ hS => ?_
      refine sI hS (runs_pick rfl rfl) fun _ hS => ?_
      exact nil_ok (wp_cond_false (hS.eval rfl) (wp_skip (qx_end (ret0 (by kernel_rfl) hS ⟨_, rfl, rfl, by simpa [rankL, rankV, show ¬ (0 : Nat) < es.length by omega] using turned_no hK hB hT hs⟩))))
    · skip
      refine calls_qx (args := [.pointer (some ⟨gt, 0, none⟩)]) 51 Tryz.func85 rfl (by kernel_rfl) (by simp) (fun a hS => ?_)
      have hB := Below.refl w.heap.size w
      have hTb := hT
      have heb := he
      have hsb := hs
      have hEb := hE
      refine qx_seq (qx_seq (reg_seq ?_))
      refine sI hS (runs_move rfl) fun _ hS => ?_
      refine sI hS (runs_nilCheck rfl) fun _ hS => ?_
      refine sI hS (runs_fieldK fo63_0 rfl) fun _ hS => ?_
      refine sI hS (runs_load rfl pl4 (hT.at rfl)) fun _ hS => ?_
      refine sI hS (runs_not (b := false) rfl) fun _ hS => ?_
      refine nil_ok (wp_cond_true (hS.eval rfl) (reg_seq ?_))
      refine sI hS (runs_move rfl) fun _ hS => ?_
      refine sI hS (runs_move rfl) fun _ hS => ?_
      refine sI hS (runs_nilCheck rfl) fun _ hS => ?_
      refine sI hS (runs_fieldK fo63_4 rfl) fun _ hS => ?_
      refine sI hS (runs_load rfl pl2 (hT.at rfl)) fun _ hS => ?_
      refine sI hS (runs_mul rfl rfl (wrap64 (by omega) (by omega))) fun _ hS => ?_
      refine sI hS (runs_call (args := [.int .i64 (inn * 85), .int .i64 100]) goes96 rfl (round_any (inn * 85) 100 (by omega) (by omega) (by omega) w)) fun _ hS => ?_
      refine sI hS (runs_add rfl rfl (wrap64 (by omega) (by omega))) fun _ hS => ?_
      refine sI hS (runs_nilCheck rfl) fun _ hS => ?_
      refine sI hS (runs_fieldK fo63_6 rfl) fun _ hS => ?_
      refine seq_none hS (runs_storeC rfl rfl rfl s1_2 hT rfl) (fun v1 w1 a1 hp hS => ?_)
      have hQ1 := hT
      obtain ⟨hT, hU1⟩ := hp
      have he := he.but hU1 (has_ne he hQ1 (by decide))
      have hs := hs.but hU1 (has_ne hs hQ1 (by decide))
      have hE := hE.but (hU1.mono fun _ h => .inl h)
      have hK := hK.trans ((Below.but hB _).trans (hU1.mono fun _ h => .inl h))
      have hB := Below.refl w1.heap.size w1
      have hTb := hT
      have heb := he
      have hsb := hs
      have hEb := hE
      refine nil_ok (qx_seq (reg_seq ?_))
      refine sI hS (runs_move rfl) fun _ hS => ?_
      refine sI hS (runs_move rfl) fun _ hS => ?_
      refine sI hS (runs_nilCheck rfl) fun _ hS => ?_
      refine sI hS (runs_fieldK fo63_1 rfl) fun _ hS => ?_
      refine sI hS (runs_load rfl pl4 (hT.at rfl)) fun _ hS => ?_
      refine sI hS (runs_not (b := true) rfl) fun _ hS => ?_
      refine sI hS (runs_nilCheck rfl) fun _ hS => ?_
      refine sI hS (runs_fieldK fo63_7 rfl) fun _ hS => ?_
      refine seq_none hS (runs_storeC rfl rfl rfl s1_4 hT rfl) (fun v2 w2 a1 hp hS => ?_)
      have hQ2 := hT
      obtain ⟨hT, hU2⟩ := hp
      have he := he.but hU2 (has_ne he hQ2 (by decide))
      have hs := hs.but hU2 (has_ne hs hQ2 (by decide))
      have hE := hE.but (hU2.mono fun _ h => .inl h)
      have hK := hK.trans ((Below.but hB _).trans (hU2.mono fun _ h => .inl h))
      have hB := Below.refl w2.heap.size w2
      have hTb := hT
      have heb := he
      have hsb := hs
      have hEb := hE
      refine nil_ok (qx_seq (reg_seq ?_))
      refine sI hS (runs_move rfl) fun _ hS => ?_
      refine sI hS (runs_nilCheck rfl) fun _ hS => ?_
      refine sI hS (runs_fieldK fo63_7 rfl) fun _ hS => ?_
      refine sI hS (runs_load rfl pl4 (hT.at rfl)) fun _ hS => ?_
      refine sI hS (runs_move rfl) fun _ hS => ?_
      refine sN hS fun _ hS => ?_
      refine sN hS fun _ hS => ?_
      refine sN hS fun _ hS => ?_
      refine sN hS fun _ hS => ?_
      refine sN hS fun _ hS => ?_
      refine sI hS (runs_pick rfl rfl) fun _ hS => ?_
      exact nil_ok (wp_cond_false (hS.eval rfl) (wp_skip (qx_end (ret0 (by kernel_rfl) hS ⟨_, rfl, rfl, by simpa [rankL, rankV] using turned_no hK hB hT hs⟩))))
  · skip
    cases la
    · skip
      refine calls_qx (args := [.pointer (some ⟨gt, 0, none⟩)]) 51 Tryz.func85 rfl (by kernel_rfl) (by simp) (fun a hS => ?_)
      have hB := Below.refl w.heap.size w
      have hTb := hT
      have heb := he
      have hsb := hs
      have hEb := hE
      refine qx_seq (qx_seq (reg_seq ?_))
      refine sI hS (runs_move rfl) fun _ hS => ?_
      refine sI hS (runs_nilCheck rfl) fun _ hS => ?_
      refine sI hS (runs_fieldK fo63_0 rfl) fun _ hS => ?_
      refine sI hS (runs_load rfl pl4 (hT.at rfl)) fun _ hS => ?_
      refine sI hS (runs_not (b := true) rfl) fun _ hS => ?_
      refine nil_ok (wp_cond_false (hS.eval rfl) (wp_skip (qx_seq (reg_seq ?_))))
      refine sI hS (runs_move rfl) fun _ hS => ?_
      refine sI hS (runs_move rfl) fun _ hS => ?_
      refine sI hS (runs_nilCheck rfl) fun _ hS => ?_
      refine sI hS (runs_fieldK fo63_1 rfl) fun _ hS => ?_
      refine sI hS (runs_load rfl pl4 (hT.at rfl)) fun _ hS => ?_
      refine sI hS (runs_not (b := false) rfl) fun _ hS => ?_
      refine sI hS (runs_nilCheck rfl) fun _ hS => ?_
      refine sI hS (runs_fieldK fo63_7 rfl) fun _ hS => ?_
      refine seq_none hS (runs_storeC rfl rfl rfl s1_4 hT rfl) (fun v1 w1 a1 hp hS => ?_)
      have hQ1 := hT
      obtain ⟨hT, hU1⟩ := hp
      have he := he.but hU1 (has_ne he hQ1 (by decide))
      have hs := hs.but hU1 (has_ne hs hQ1 (by decide))
      have hE := hE.but (hU1.mono fun _ h => .inl h)
      have hK := hK.trans ((Below.but hB _).trans (hU1.mono fun _ h => .inl h))
      have hB := Below.refl w1.heap.size w1
      have hTb := hT
      have heb := he
      have hsb := hs
      have hEb := hE
      refine nil_ok (qx_seq (reg_seq ?_))
      refine sI hS (runs_move rfl) fun _ hS => ?_
      refine sI hS (runs_nilCheck rfl) fun _ hS => ?_
      refine sI hS (runs_fieldK fo63_7 rfl) fun _ hS => ?_
      refine sI hS (runs_load rfl pl4 (hT.at rfl)) fun _ hS => ?_
      refine sI hS (runs_move rfl) fun _ hS => ?_
      refine sY hS (runs_move rfl) fun _ hS => ?_
      refine sY hS (runs_nilCheck rfl) fun _ hS => ?_
      refine sY hS (runs_fieldK fo63_5 rfl) fun _ hS => ?_
      refine sY hS (runs_load rfl pl2 (hT.at rfl)) fun _ hS => ?_
      by_cases h1 : ((es.length : Nat) : Int) > 0
      · skip
        refine sY hS (gtrT rfl rfl (by omega)) fun _ hS => ?_
        refine sI hS (runs_pick rfl rfl) fun _ hS => ?_
        refine nil_ok (wp_cond_true (hS.eval rfl) (reg_guard (fun w' => Below w1.heap.size w1 w') [.inl (.pointer (some ⟨gt, 0, none⟩)), .inl (.pointer (some ⟨gt, 0, none⟩)), .inl (.pointer (some ⟨gt, 0 + 8, none⟩)), .inl (.func (.func 63) #[] #[.pointer (some ⟨ge, 0, none⟩), .pointer (some ⟨gs, 0, none⟩)]), .inl (.pointer (some ⟨gt, 0, none⟩)), .inl (.pointer (some ⟨gt, 0, none⟩)), .inl (.pointer (some ⟨gt, 0 + 6, none⟩)), .inl (.int .i64 val), .inl (.pointer (some ⟨gt, 0, none⟩)), .inl (.pointer (some ⟨gt, 0, none⟩)), .inl (.pointer (some ⟨gt, 0 + 5, none⟩)), .inl (.int .i64 ((es.length : Nat) : Int)), .inl (.int .i64 (val / ((es.length : Nat) : Int))), .inr (fun v w' => ∃ g2, v = .func (.func 94) #[] #[.pointer (some ⟨g2, 0, none⟩)] ∧ Has w' g2 2 [.int .i64 (val / ((es.length : Nat) : Int))])] 14 1 mixed rfl (by kernel_rfl) hS (Below.refl _ _) (fun _ h => h.drew) ?_))
        refine hs_is rfl (fun w' hw => runs_move rfl) ?_
        refine hs_is rfl (fun w' hw => runs_nilCheck rfl) ?_
        refine hs_is rfl (fun w' hw => runs_fieldK fo63_8 rfl) ?_
        refine hs_is rfl (fun w' hw => runs_load rfl pl61 ((hT.below hw hT.lt).at rfl)) ?_
        refine hs_is rfl (fun w' hw => runs_move rfl) ?_
        refine hs_is rfl (fun w' hw => runs_nilCheck rfl) ?_
        refine hs_is rfl (fun w' hw => runs_fieldK fo63_6 rfl) ?_
        refine hs_is rfl (fun w' hw => runs_load rfl pl2 ((hT.below hw hT.lt).at rfl)) ?_
        refine hs_is rfl (fun w' hw => runs_move rfl) ?_
        refine hs_is rfl (fun w' hw => runs_nilCheck rfl) ?_
        refine hs_is rfl (fun w' hw => runs_fieldK fo63_5 rfl) ?_
        refine hs_is rfl (fun w' hw => runs_load rfl pl2 ((hT.below hw hT.lt).at rfl)) ?_
        refine hs_is rfl (fun w' hw => runs_call (args := [.int .i64 val, .int .i64 ((es.length : Nat) : Int)]) goes96 rfl (round_any val ((es.length : Nat) : Int) h1 (by omega) (by omega) w')) ?_
        refine hs_pr rfl (fun _ _ _ h hb => by obtain ⟨g2, h1, h2⟩ := h; exact ⟨g2, h1, h2.below hb h2.lt⟩) (fun w' hw hq => (runs_call (args := [.int .i64 (val / ((es.length : Nat) : Int))]) goes82 rfl (same_any (val / ((es.length : Nat) : Int)) w')).mono (by rintro v w5 ⟨g2, h1, h2, h3⟩; exact ⟨⟨g2, h1, h2⟩, hw.trans (h3.mono hw.size), h3⟩)) (fun v54 => ?_)
        refine (fun a2 w2 hS hB2 hq => ?_)
        obtain ⟨g2, rfl, hX⟩ := (hq (13, _) List.mem_cons_self)
        clear hq
        have hB := hB.trans (hB2.mono hB.size)
        have hT := hTb.below hB hTb.lt
        have he := heb.below hB heb.lt
        have hs := hsb.below hB hsb.lt
        have hE := hEb.kept hB
        refine tail_op 14 (by kernel_rfl) rfl hS (by decide) (runs_callv (args := [.func (.func 94) #[] #[.pointer (some ⟨g2, 0, none⟩)]]) (caps := [.pointer (some ⟨ge, 0, none⟩), .pointer (some ⟨gs, 0, none⟩)]) goes63 rfl rfl (send_any es hsm v (fun _ => (val / ((es.length : Nat) : Int))) 94 [.pointer (some ⟨g2, 0, none⟩)] goes94 ge gs w2 hE.edges he hs (fun e _ w' hU => along_same _ _ g2 w' (hX.but hU (has_ne hX hs (by decide)))))) (fun v4 w4 a4 hp hS => ⟨trivial, ?_⟩)
        obtain ⟨rfl, hU4, sv, hs4, hown⟩ := hp
        refine wpAnyH_done (by kernel_rfl) ?_ _
        exact qx_end (ret0 (by kernel_rfl) hS ⟨_, rfl, rfl, by simpa [rankL, rankV, show (0 : Nat) < es.length by omega] using turned_sent hK hB hT hs hU4 hs4 hown⟩)
      refine sY hS (gtrF rfl rfl (by omega)) fun _ hS => ?_
      refine sI hS (runs_pick rfl rfl) fun _ hS => ?_
      exact nil_ok (wp_cond_false (hS.eval rfl) (wp_skip (qx_end (ret0 (by kernel_rfl) hS ⟨_, rfl, rfl, by simpa [rankL, rankV, show ¬ (0 : Nat) < es.length by omega] using turned_no hK hB hT hs⟩))))
    · skip
      refine calls_qx (args := [.pointer (some ⟨gt, 0, none⟩)]) 51 Tryz.func85 rfl (by kernel_rfl) (by simp) (fun a hS => ?_)
      have hB := Below.refl w.heap.size w
      have heb := he
      have hsb := hs
      refine qx_seq (qx_seq (reg_seq ?_))
      refine sI hS (runs_move rfl) fun _ hS => ?_
      refine sI hS (runs_nilCheck rfl) fun _ hS => ?_
      refine sI hS (runs_fieldK fo63_0 rfl) fun _ hS => ?_
      refine sI hS (runs_load rfl pl4 (hT.at rfl)) fun _ hS => ?_
      refine sI hS (runs_not (b := true) rfl) fun _ hS => ?_
      refine nil_ok (wp_cond_false (hS.eval rfl) (wp_skip (qx_seq (reg_seq ?_))))
      refine sI hS (runs_move rfl) fun _ hS => ?_
      refine sI hS (runs_move rfl) fun _ hS => ?_
      refine sI hS (runs_nilCheck rfl) fun _ hS => ?_
      refine sI hS (runs_fieldK fo63_1 rfl) fun _ hS => ?_
      refine sI hS (runs_load rfl pl4 (hT.at rfl)) fun _ hS => ?_
      refine sI hS (runs_not (b := true) rfl) fun _ hS => ?_
      refine sI hS (runs_nilCheck rfl) fun _ hS => ?_
      refine sI hS (runs_fieldK fo63_7 rfl) fun _ hS => ?_
      refine seq_none hS (runs_storeC rfl rfl rfl s1_4 hT rfl) (fun v1 w1 a1 hp hS => ?_)
      have hQ1 := hT
      obtain ⟨hT, hU1⟩ := hp
      have he := he.but hU1 (has_ne he hQ1 (by decide))
      have hs := hs.but hU1 (has_ne hs hQ1 (by decide))
      have hK := hK.trans ((Below.but hB _).trans (hU1.mono fun _ h => .inl h))
      have hB := Below.refl w1.heap.size w1
      have heb := he
      have hsb := hs
      refine nil_ok (qx_seq (reg_seq ?_))
      refine sI hS (runs_move rfl) fun _ hS => ?_
      refine sI hS (runs_nilCheck rfl) fun _ hS => ?_
      refine sI hS (runs_fieldK fo63_7 rfl) fun _ hS => ?_
      refine sI hS (runs_load rfl pl4 (hT.at rfl)) fun _ hS => ?_
      refine sI hS (runs_move rfl) fun _ hS => ?_
      refine sN hS fun _ hS => ?_
      refine sN hS fun _ hS => ?_
      refine sN hS fun _ hS => ?_
      refine sN hS fun _ hS => ?_
      refine sN hS fun _ hS => ?_
      refine sI hS (runs_pick rfl rfl) fun _ hS => ?_
      exact nil_ok (wp_cond_false (hS.eval rfl) (wp_skip (qx_end (ret0 (by kernel_rfl) hS ⟨_, rfl, rfl, by simpa [rankL, rankV] using turned_no hK hB hT hs⟩))))
set_option maxHeartbeats 1000000 in
theorem run_any (es : List E) (hsm : es.length ≤ 600) (v : Value) (gt ge gs : Nat) (fi la so ca : Bool) (inn nb val : Int) (w : World) (hT : Has w gt 89 (tc fi la so ca inn nb val false ge gs)) (he : Has w ge 22 [v]) (hs : Has w gs 29 [.slice none 0 0]) (hE : EdgesOff (Two gt gs) w v es) (tg : ByteArray) (hnb : nb = ((es.length : Nat) : Int)) (hv : great val = false) (hi : great inn = false) (hlw : ∀ e ∈ es, -2000000000000000 ≤ e.2.2 ∧ e.2.2 ≤ 2000000000000000) :
    Ans 64 [.pointer (some ⟨gt, 0, none⟩), .string tg] w (fun u w' => u = .tuple #[] ∧ Turned w gt gs (tc fi la so ca inn nb (runL (kindL tg.data.toList) fi la so ca inn val es).1.1 (runL (kindL tg.data.toList) fi la so ca inn val es).1.2 ge gs) (runL (kindL tg.data.toList) fi la so ca inn val es).2 w') := by
  rcases kind_cases tg.data.toList with hk | hk | hk | hk | hk | hk | hk | hk
  · skip
    refine calls_qx (args := [.pointer (some ⟨gt, 0, none⟩), .string tg]) 52 Tryz.func64 rfl (by kernel_rfl) (by simp) (fun a hS => ?_)
    have hB := Below.refl w.heap.size w
    have hTb := hT
    have heb := he
    have hsb := hs
    have hEb := hE
    refine qx_seq (reg_guard (fun w' => Below w.heap.size w w') [.inl (.pointer (some ⟨gt, 0, none⟩)), .inl (.pointer (some ⟨gt, 0, none⟩)), .inl (.pointer (some ⟨gt, 0 + 4, none⟩)), .inl (.int .i64 inn), .inl (.pointer (some ⟨gt, 0, none⟩)), .inl (.pointer (some ⟨gt, 0, none⟩)), .inl (.pointer (some ⟨gt, 0 + 6, none⟩)), .inl (.int .i64 val), .inl (.bool (decide (inn > val))), .inl (.bool (decide (inn > val)))] 10 0 mixed rfl (by kernel_rfl) hS (Below.refl _ _) (fun _ h => h.drew) ?_)
    refine hs_is rfl (fun w' hw => runs_move rfl) ?_
    refine hs_is rfl (fun w' hw => runs_nilCheck rfl) ?_
    refine hs_is rfl (fun w' hw => runs_fieldK fo63_4 rfl) ?_
    refine hs_is rfl (fun w' hw => runs_load rfl pl2 ((hT.below hw hT.lt).at rfl)) ?_
    refine hs_is rfl (fun w' hw => runs_move rfl) ?_
    refine hs_is rfl (fun w' hw => runs_nilCheck rfl) ?_
    refine hs_is rfl (fun w' hw => runs_fieldK fo63_6 rfl) ?_
    refine hs_is rfl (fun w' hw => runs_load rfl pl2 ((hT.below hw hT.lt).at rfl)) ?_
    refine hs_is rfl (fun w' hw => runs_gtr (r := decide (inn > val)) rfl rfl rfl) ?_
    refine hs_is rfl (fun w' hw => runs_assign rfl) ?_
    refine (fun a1 w1 hS hB1 hq => ?_)
    clear hq
    have hB := hB.trans (hB1.mono hB.size)
    have hT := hTb.below hB hTb.lt
    have he := heb.below hB heb.lt
    have hs := hsb.below hB hsb.lt
    have hE := hEb.kept hB
    refine wpAnyH_done (by kernel_rfl) ?_ _
    refine qx_seq (reg_seq ?_)
    refine sI hS (runs_assign rfl) fun _ hS => ?_
    refine nil_ok (qx_seq (reg_seq ?_))
    refine sI hS (runs_move rfl) fun _ hS => ?_
    refine nil_ok (qx_block (qx_seq (qx_block (qx_seq (qx_block (qx_seq (qx_block (qx_seq (qx_block (qx_seq (qx_block (qx_seq (qx_block (qx_seq (qx_block (qx_seq (qx_seq (qx_seq (reg_seq ?_)))))))))))))))))))
    refine sI hS (eqS2 rfl rfl hk) fun _ hS => ?_
    refine sI hS (runs_assign rfl) fun _ hS => ?_
    refine nil_ok (wp_cond_false (hS.eval rfl) (wp_skip (qx_seq (qx_seq (reg_seq ?_)))))
    refine sI hS (eqS1 rfl rfl hk) fun _ hS => ?_
    refine sI hS (runs_assign rfl) fun _ hS => ?_
    refine nil_ok (wp_cond_false (hS.eval rfl) (wp_skip (qx_seq (qx_seq (reg_seq ?_)))))
    refine sI hS (eqS4 rfl rfl hk) fun _ hS => ?_
    refine sI hS (runs_assign rfl) fun _ hS => ?_
    refine nil_ok (wp_cond_false (hS.eval rfl) (wp_skip (qx_seq (qx_seq (reg_seq ?_)))))
    refine sI hS (eqS3 rfl rfl hk) fun _ hS => ?_
    refine sI hS (runs_assign rfl) fun _ hS => ?_
    refine nil_ok (wp_cond_false (hS.eval rfl) (wp_skip (qx_seq (qx_seq (reg_seq ?_)))))
    refine sI hS (eqS5 rfl rfl hk) fun _ hS => ?_
    refine sI hS (runs_assign rfl) fun _ hS => ?_
    refine nil_ok (wp_cond_false (hS.eval rfl) (wp_skip (qx_seq (qx_seq (reg_seq ?_)))))
    refine sI hS (eqS6 rfl rfl hk) fun _ hS => ?_
    refine sI hS (runs_assign rfl) fun _ hS => ?_
    refine nil_ok (wp_cond_false (hS.eval rfl) (wp_skip (qx_seq (reg_seq ?_))))
    refine sI hS (eqS7 rfl rfl hk) fun _ hS => ?_
    refine sI hS (runs_assign rfl) fun _ hS => ?_
    refine nil_ok (wp_cond_false (hS.eval rfl) (wp_skip (qx_exit (.inr ⟨by decide, .inr ⟨by decide, .inr ⟨by decide, .inr ⟨by decide, .inr ⟨by decide, .inr ⟨by decide, .inr ⟨by decide, .inl ⟨rfl, ?_⟩⟩⟩⟩⟩⟩⟩⟩))))
    exact id (ret0 (by kernel_rfl) hS ⟨_, rfl, rfl, by rw [hk]; exact turned_from hB (turned_no (But.refl _ _) (Below.refl _ _) hT hs)⟩)
  · skip
    refine calls_qx (args := [.pointer (some ⟨gt, 0, none⟩), .string tg]) 52 Tryz.func64 rfl (by kernel_rfl) (by simp) (fun a hS => ?_)
    have hB := Below.refl w.heap.size w
    have hTb := hT
    have heb := he
    have hsb := hs
    have hEb := hE
    refine qx_seq (reg_guard (fun w' => Below w.heap.size w w') [.inl (.pointer (some ⟨gt, 0, none⟩)), .inl (.pointer (some ⟨gt, 0, none⟩)), .inl (.pointer (some ⟨gt, 0 + 4, none⟩)), .inl (.int .i64 inn), .inl (.pointer (some ⟨gt, 0, none⟩)), .inl (.pointer (some ⟨gt, 0, none⟩)), .inl (.pointer (some ⟨gt, 0 + 6, none⟩)), .inl (.int .i64 val), .inl (.bool (decide (inn > val))), .inl (.bool (decide (inn > val)))] 10 0 mixed rfl (by kernel_rfl) hS (Below.refl _ _) (fun _ h => h.drew) ?_)
    refine hs_is rfl (fun w' hw => runs_move rfl) ?_
    refine hs_is rfl (fun w' hw => runs_nilCheck rfl) ?_
    refine hs_is rfl (fun w' hw => runs_fieldK fo63_4 rfl) ?_
    refine hs_is rfl (fun w' hw => runs_load rfl pl2 ((hT.below hw hT.lt).at rfl)) ?_
    refine hs_is rfl (fun w' hw => runs_move rfl) ?_
    refine hs_is rfl (fun w' hw => runs_nilCheck rfl) ?_
    refine hs_is rfl (fun w' hw => runs_fieldK fo63_6 rfl) ?_
    refine hs_is rfl (fun w' hw => runs_load rfl pl2 ((hT.below hw hT.lt).at rfl)) ?_
    refine hs_is rfl (fun w' hw => runs_gtr (r := decide (inn > val)) rfl rfl rfl) ?_
    refine hs_is rfl (fun w' hw => runs_assign rfl) ?_
    refine (fun a1 w1 hS hB1 hq => ?_)
    clear hq
    have hB := hB.trans (hB1.mono hB.size)
    have hT := hTb.below hB hTb.lt
    have he := heb.below hB heb.lt
    have hs := hsb.below hB hsb.lt
    have hE := hEb.kept hB
    refine wpAnyH_done (by kernel_rfl) ?_ _
    refine qx_seq (reg_seq ?_)
    refine sI hS (runs_assign rfl) fun _ hS => ?_
    refine nil_ok (qx_seq (reg_seq ?_))
    refine sI hS (runs_move rfl) fun _ hS => ?_
    refine nil_ok (qx_block (qx_seq (qx_block (qx_seq (qx_block (qx_seq (qx_block (qx_seq (qx_block (qx_seq (qx_block (qx_seq (qx_block (qx_seq (qx_block (qx_seq (qx_seq (qx_seq (reg_seq ?_)))))))))))))))))))
    refine sI hS (eqS2 rfl rfl hk) fun _ hS => ?_
    refine sI hS (runs_assign rfl) fun _ hS => ?_
    refine nil_ok (wp_cond_false (hS.eval rfl) (wp_skip (qx_seq (qx_seq (reg_seq ?_)))))
    refine sI hS (eqS1 rfl rfl hk) fun _ hS => ?_
    refine sI hS (runs_assign rfl) fun _ hS => ?_
    refine nil_ok (wp_cond_true (hS.eval rfl) (qx_exit (.inr ⟨by decide, .inl ⟨rfl, ?_⟩⟩)))
    refine id (qx_seq (reg_seq ?_))
    refine sI hS (runs_move rfl) fun _ hS => ?_
    refine sI hS (runs_move rfl) fun _ hS => ?_
    refine seq_op hS (by decide) (runs_call (args := [.pointer (some ⟨gt, 0, none⟩), .bool (decide (inn > val))]) goes81 rfl (best_any es hsm v gt ge gs fi la so ca false inn nb val w1 hT he hs hE ((decide (inn > val))))) (fun v3 w3 a1 hp hS => ?_)
    obtain ⟨rfl, hT3⟩ := hp
    refine nil_ok (qx_exit (.inr ⟨by decide, .inr ⟨by decide, .inr ⟨by decide, .inr ⟨by decide, .inr ⟨by decide, .inl ⟨rfl, ?_⟩⟩⟩⟩⟩⟩))
    exact id (ret0 (by kernel_rfl) hS ⟨_, rfl, rfl, by rw [hk]; exact turned_from hB hT3⟩)
  · skip
    refine calls_qx (args := [.pointer (some ⟨gt, 0, none⟩), .string tg]) 52 Tryz.func64 rfl (by kernel_rfl) (by simp) (fun a hS => ?_)
    have hB := Below.refl w.heap.size w
    have hTb := hT
    have heb := he
    have hsb := hs
    have hEb := hE
    refine qx_seq (reg_guard (fun w' => Below w.heap.size w w') [.inl (.pointer (some ⟨gt, 0, none⟩)), .inl (.pointer (some ⟨gt, 0, none⟩)), .inl (.pointer (some ⟨gt, 0 + 4, none⟩)), .inl (.int .i64 inn), .inl (.pointer (some ⟨gt, 0, none⟩)), .inl (.pointer (some ⟨gt, 0, none⟩)), .inl (.pointer (some ⟨gt, 0 + 6, none⟩)), .inl (.int .i64 val), .inl (.bool (decide (inn > val))), .inl (.bool (decide (inn > val)))] 10 0 mixed rfl (by kernel_rfl) hS (Below.refl _ _) (fun _ h => h.drew) ?_)
    refine hs_is rfl (fun w' hw => runs_move rfl) ?_
    refine hs_is rfl (fun w' hw => runs_nilCheck rfl) ?_
    refine hs_is rfl (fun w' hw => runs_fieldK fo63_4 rfl) ?_
    refine hs_is rfl (fun w' hw => runs_load rfl pl2 ((hT.below hw hT.lt).at rfl)) ?_
    refine hs_is rfl (fun w' hw => runs_move rfl) ?_
    refine hs_is rfl (fun w' hw => runs_nilCheck rfl) ?_
    refine hs_is rfl (fun w' hw => runs_fieldK fo63_6 rfl) ?_
    refine hs_is rfl (fun w' hw => runs_load rfl pl2 ((hT.below hw hT.lt).at rfl)) ?_
    refine hs_is rfl (fun w' hw => runs_gtr (r := decide (inn > val)) rfl rfl rfl) ?_
    refine hs_is rfl (fun w' hw => runs_assign rfl) ?_
    refine (fun a1 w1 hS hB1 hq => ?_)
    clear hq
    have hB := hB.trans (hB1.mono hB.size)
    have hT := hTb.below hB hTb.lt
    have he := heb.below hB heb.lt
    have hs := hsb.below hB hsb.lt
    have hE := hEb.kept hB
    refine wpAnyH_done (by kernel_rfl) ?_ _
    refine qx_seq (reg_seq ?_)
    refine sI hS (runs_assign rfl) fun _ hS => ?_
    refine nil_ok (qx_seq (reg_seq ?_))
    refine sI hS (runs_move rfl) fun _ hS => ?_
    refine nil_ok (qx_block (qx_seq (qx_block (qx_seq (qx_block (qx_seq (qx_block (qx_seq (qx_block (qx_seq (qx_block (qx_seq (qx_block (qx_seq (qx_block (qx_seq (qx_seq (qx_seq (reg_seq ?_)))))))))))))))))))
    refine sI hS (eqS2 rfl rfl hk) fun _ hS => ?_
    refine sI hS (runs_assign rfl) fun _ hS => ?_
    refine nil_ok (wp_cond_true (hS.eval rfl) (qx_exit (.inl ⟨rfl, ?_⟩)))
    refine id (reg_guard (fun w' => Below w1.heap.size w1 w') [.inl (.pointer (some ⟨gt, 0, none⟩)), .inl (.pointer (some ⟨gt, 0, none⟩)), .inl (.pointer (some ⟨gt, 0 + 4, none⟩)), .inl (.int .i64 inn), .inl (.pointer (some ⟨gt, 0, none⟩)), .inl (.pointer (some ⟨gt, 0, none⟩)), .inl (.pointer (some ⟨gt, 0 + 6, none⟩)), .inl (.int .i64 val), .inl (.bool (decide (inn < val))), .inl (.bool (decide (inn < val)))] 10 0 mixed rfl (by kernel_rfl) hS (Below.refl _ _) (fun _ h => h.drew) ?_)
    refine hs_is rfl (fun w' hw => runs_move rfl) ?_
    refine hs_is rfl (fun w' hw => runs_nilCheck rfl) ?_
    refine hs_is rfl (fun w' hw => runs_fieldK fo63_4 rfl) ?_
    refine hs_is rfl (fun w' hw => runs_load rfl pl2 ((hT.below hw hT.lt).at rfl)) ?_
    refine hs_is rfl (fun w' hw => runs_move rfl) ?_
    refine hs_is rfl (fun w' hw => runs_nilCheck rfl) ?_
    refine hs_is rfl (fun w' hw => runs_fieldK fo63_6 rfl) ?_
    refine hs_is rfl (fun w' hw => runs_load rfl pl2 ((hT.below hw hT.lt).at rfl)) ?_
    refine hs_is rfl (fun w' hw => runs_lss (r := decide (inn < val)) rfl rfl rfl) ?_
    refine hs_is rfl (fun w' hw => runs_assign rfl) ?_
    refine (fun a3 w3 hS hB3 hq => ?_)
    clear hq
    have hB := hB.trans (hB3.mono hB.size)
    have hT := hTb.below hB hTb.lt
    have he := heb.below hB heb.lt
    have hs := hsb.below hB hsb.lt
    have hE := hEb.kept hB
    refine wpAnyH_done (by kernel_rfl) ?_ _
    refine qx_seq (reg_seq ?_)
    refine sI hS (runs_move rfl) fun _ hS => ?_
    refine sI hS (runs_move rfl) fun _ hS => ?_
    refine seq_op hS (by decide) (runs_call (args := [.pointer (some ⟨gt, 0, none⟩), .bool (decide (inn < val))]) goes81 rfl (best_any es hsm v gt ge gs fi la so ca false inn nb val w3 hT he hs hE ((decide (inn < val))))) (fun v5 w5 a1 hp hS => ?_)
    obtain ⟨rfl, hT5⟩ := hp
    refine nil_ok (qx_exit (.inr ⟨by decide, .inr ⟨by decide, .inr ⟨by decide, .inr ⟨by decide, .inr ⟨by decide, .inl ⟨rfl, ?_⟩⟩⟩⟩⟩⟩))
    exact id (ret0 (by kernel_rfl) hS ⟨_, rfl, rfl, by rw [hk]; exact turned_from hB hT5⟩)
  · skip
    refine calls_qx (args := [.pointer (some ⟨gt, 0, none⟩), .string tg]) 52 Tryz.func64 rfl (by kernel_rfl) (by simp) (fun a hS => ?_)
    have hB := Below.refl w.heap.size w
    have hTb := hT
    have heb := he
    have hsb := hs
    have hEb := hE
    refine qx_seq (reg_guard (fun w' => Below w.heap.size w w') [.inl (.pointer (some ⟨gt, 0, none⟩)), .inl (.pointer (some ⟨gt, 0, none⟩)), .inl (.pointer (some ⟨gt, 0 + 4, none⟩)), .inl (.int .i64 inn), .inl (.pointer (some ⟨gt, 0, none⟩)), .inl (.pointer (some ⟨gt, 0, none⟩)), .inl (.pointer (some ⟨gt, 0 + 6, none⟩)), .inl (.int .i64 val), .inl (.bool (decide (inn > val))), .inl (.bool (decide (inn > val)))] 10 0 mixed rfl (by kernel_rfl) hS (Below.refl _ _) (fun _ h => h.drew) ?_)
    refine hs_is rfl (fun w' hw => runs_move rfl) ?_
    refine hs_is rfl (fun w' hw => runs_nilCheck rfl) ?_
    refine hs_is rfl (fun w' hw => runs_fieldK fo63_4 rfl) ?_
    refine hs_is rfl (fun w' hw => runs_load rfl pl2 ((hT.below hw hT.lt).at rfl)) ?_
    refine hs_is rfl (fun w' hw => runs_move rfl) ?_
    refine hs_is rfl (fun w' hw => runs_nilCheck rfl) ?_
    refine hs_is rfl (fun w' hw => runs_fieldK fo63_6 rfl) ?_
    refine hs_is rfl (fun w' hw => runs_load rfl pl2 ((hT.below hw hT.lt).at rfl)) ?_
    refine hs_is rfl (fun w' hw => runs_gtr (r := decide (inn > val)) rfl rfl rfl) ?_
    refine hs_is rfl (fun w' hw => runs_assign rfl) ?_
    refine (fun a1 w1 hS hB1 hq => ?_)
    clear hq
    have hB := hB.trans (hB1.mono hB.size)
    have hT := hTb.below hB hTb.lt
    have he := heb.below hB heb.lt
    have hs := hsb.below hB hsb.lt
    have hE := hEb.kept hB
    refine wpAnyH_done (by kernel_rfl) ?_ _
    refine qx_seq (reg_seq ?_)
    refine sI hS (runs_assign rfl) fun _ hS => ?_
    refine nil_ok (qx_seq (reg_seq ?_))
    refine sI hS (runs_move rfl) fun _ hS => ?_
    refine nil_ok (qx_block (qx_seq (qx_block (qx_seq (qx_block (qx_seq (qx_block (qx_seq (qx_block (qx_seq (qx_block (qx_seq (qx_block (qx_seq (qx_block (qx_seq (qx_seq (qx_seq (reg_seq ?_)))))))))))))))))))
    refine sI hS (eqS2 rfl rfl hk) fun _ hS => ?_
    refine sI hS (runs_assign rfl) fun _ hS => ?_
    refine nil_ok (wp_cond_false (hS.eval rfl) (wp_skip (qx_seq (qx_seq (reg_seq ?_)))))
    refine sI hS (eqS1 rfl rfl hk) fun _ hS => ?_
    refine sI hS (runs_assign rfl) fun _ hS => ?_
    refine nil_ok (wp_cond_false (hS.eval rfl) (wp_skip (qx_seq (qx_seq (reg_seq ?_)))))
    refine sI hS (eqS4 rfl rfl hk) fun _ hS => ?_
    refine sI hS (runs_assign rfl) fun _ hS => ?_
    refine nil_ok (wp_cond_false (hS.eval rfl) (wp_skip (qx_seq (qx_seq (reg_seq ?_)))))
    refine sI hS (eqS3 rfl rfl hk) fun _ hS => ?_
    refine sI hS (runs_assign rfl) fun _ hS => ?_
    refine nil_ok (wp_cond_true (hS.eval rfl) (qx_exit (.inr ⟨by decide, .inr ⟨by decide, .inr ⟨by decide, .inl ⟨rfl, ?_⟩⟩⟩⟩)))
    refine id (qx_seq (reg_seq ?_))
    refine sI hS (runs_move rfl) fun _ hS => ?_
    refine sI hS (runs_move rfl) fun _ hS => ?_
    refine seq_op hS (by decide) (runs_call (args := [.pointer (some ⟨gt, 0, none⟩), .func (.func 80) #[] #[]]) goes83 rfl (nearest_any es hsm v gt ge gs fi la so ca false inn nb val w1 hT he hs hE (fun x => x) 80 [] goes80 hi hlw (fun e _ w' _ => along_ident _ w'))) (fun v3 w3 a1 hp hS => ?_)
    obtain ⟨rfl, hT3⟩ := hp
    refine nil_ok (qx_exit (.inr ⟨by decide, .inr ⟨by decide, .inr ⟨by decide, .inl ⟨rfl, ?_⟩⟩⟩⟩))
    exact id (ret0 (by kernel_rfl) hS ⟨_, rfl, rfl, by rw [hk]; exact turned_from hB hT3⟩)
  · skip
    refine calls_qx (args := [.pointer (some ⟨gt, 0, none⟩), .string tg]) 52 Tryz.func64 rfl (by kernel_rfl) (by simp) (fun a hS => ?_)
    have hB := Below.refl w.heap.size w
    have hTb := hT
    have heb := he
    have hsb := hs
    have hEb := hE
    refine qx_seq (reg_guard (fun w' => Below w.heap.size w w') [.inl (.pointer (some ⟨gt, 0, none⟩)), .inl (.pointer (some ⟨gt, 0, none⟩)), .inl (.pointer (some ⟨gt, 0 + 4, none⟩)), .inl (.int .i64 inn), .inl (.pointer (some ⟨gt, 0, none⟩)), .inl (.pointer (some ⟨gt, 0, none⟩)), .inl (.pointer (some ⟨gt, 0 + 6, none⟩)), .inl (.int .i64 val), .inl (.bool (decide (inn > val))), .inl (.bool (decide (inn > val)))] 10 0 mixed rfl (by kernel_rfl) hS (Below.refl _ _) (fun _ h => h.drew) ?_)
    refine hs_is rfl (fun w' hw => runs_move rfl) ?_
    refine hs_is rfl (fun w' hw => runs_nilCheck rfl) ?_
    refine hs_is rfl (fun w' hw => runs_fieldK fo63_4 rfl) ?_
    refine hs_is rfl (fun w' hw => runs_load rfl pl2 ((hT.below hw hT.lt).at rfl)) ?_
    refine hs_is rfl (fun w' hw => runs_move rfl) ?_
    refine hs_is rfl (fun w' hw => runs_nilCheck rfl) ?_
    refine hs_is rfl (fun w' hw => runs_fieldK fo63_6 rfl) ?_
    refine hs_is rfl (fun w' hw => runs_load rfl pl2 ((hT.below hw hT.lt).at rfl)) ?_
    refine hs_is rfl (fun w' hw => runs_gtr (r := decide (inn > val)) rfl rfl rfl) ?_
    refine hs_is rfl (fun w' hw => runs_assign rfl) ?_
    refine (fun a1 w1 hS hB1 hq => ?_)
    clear hq
    have hB := hB.trans (hB1.mono hB.size)
    have hT := hTb.below hB hTb.lt
    have he := heb.below hB heb.lt
    have hs := hsb.below hB hsb.lt
    have hE := hEb.kept hB
    refine wpAnyH_done (by kernel_rfl) ?_ _
    refine qx_seq (reg_seq ?_)
    refine sI hS (runs_assign rfl) fun _ hS => ?_
    refine nil_ok (qx_seq (reg_seq ?_))
    refine sI hS (runs_move rfl) fun _ hS => ?_
    refine nil_ok (qx_block (qx_seq (qx_block (qx_seq (qx_block (qx_seq (qx_block (qx_seq (qx_block (qx_seq (qx_block (qx_seq (qx_block (qx_seq (qx_block (qx_seq (qx_seq (qx_seq (reg_seq ?_)))))))))))))))))))
    refine sI hS (eqS2 rfl rfl hk) fun _ hS => ?_
    refine sI hS (runs_assign rfl) fun _ hS => ?_
    refine nil_ok (wp_cond_false (hS.eval rfl) (wp_skip (qx_seq (qx_seq (reg_seq ?_)))))
    refine sI hS (eqS1 rfl rfl hk) fun _ hS => ?_
    refine sI hS (runs_assign rfl) fun _ hS => ?_
    refine nil_ok (wp_cond_false (hS.eval rfl) (wp_skip (qx_seq (qx_seq (reg_seq ?_)))))
    refine sI hS (eqS4 rfl rfl hk) fun _ hS => ?_
    refine sI hS (runs_assign rfl) fun _ hS => ?_
    refine nil_ok (wp_cond_true (hS.eval rfl) (qx_exit (.inr ⟨by decide, .inr ⟨by decide, .inl ⟨rfl, ?_⟩⟩⟩)))
    refine id (reg_seq ?_)
    refine seq_op hS (by decide) (runs_call (args := [.int .i64 1]) goes82 rfl (same_any 1 w1)) (fun v3 w3 a1 hp hS => ?_)
    obtain ⟨g2, rfl, hX, hB3⟩ := hp
    have hB := hB.trans (hB3.mono hB.size)
    have hT := hTb.below hB hTb.lt
    have he := heb.below hB heb.lt
    have hs := hsb.below hB hsb.lt
    have hE := hEb.kept hB
    refine sI hS (runs_assign rfl) fun _ hS => ?_
    refine nil_ok (qx_seq (reg_seq ?_))
    refine sI hS (runs_move rfl) fun _ hS => ?_
    refine sI hS (runs_move rfl) fun _ hS => ?_
    refine seq_op hS (by decide) (runs_call (args := [.pointer (some ⟨gt, 0, none⟩), .func (.func 94) #[] #[.pointer (some ⟨g2, 0, none⟩)]]) goes83 rfl (nearest_any es hsm v gt ge gs fi la so ca false inn nb val w3 hT he hs hE (fun _ => 1) 94 [.pointer (some ⟨g2, 0, none⟩)] goes94 hi (fun e _ => ⟨by omega, by omega⟩) (fun e _ w' hU => along_same _ _ g2 w' (hX.but hU (fun h => by rcases h with h | h; exact has_ne hX hT (by decide) h; exact has_ne hX hs (by decide) h))))) (fun v5 w5 a1 hp hS => ?_)
    obtain ⟨rfl, hT5⟩ := hp
    refine nil_ok (qx_exit (.inr ⟨by decide, .inr ⟨by decide, .inr ⟨by decide, .inl ⟨rfl, ?_⟩⟩⟩⟩))
    exact id (ret0 (by kernel_rfl) hS ⟨_, rfl, rfl, by rw [hk]; exact turned_from hB hT5⟩)
  · skip
    refine calls_qx (args := [.pointer (some ⟨gt, 0, none⟩), .string tg]) 52 Tryz.func64 rfl (by kernel_rfl) (by simp) (fun a hS => ?_)
    have hB := Below.refl w.heap.size w
    have hTb := hT
    have heb := he
    have hsb := hs
    have hEb := hE
    refine qx_seq (reg_guard (fun w' => Below w.heap.size w w') [.inl (.pointer (some ⟨gt, 0, none⟩)), .inl (.pointer (some ⟨gt, 0, none⟩)), .inl (.pointer (some ⟨gt, 0 + 4, none⟩)), .inl (.int .i64 inn), .inl (.pointer (some ⟨gt, 0, none⟩)), .inl (.pointer (some ⟨gt, 0, none⟩)), .inl (.pointer (some ⟨gt, 0 + 6, none⟩)), .inl (.int .i64 val), .inl (.bool (decide (inn > val))), .inl (.bool (decide (inn > val)))] 10 0 mixed rfl (by kernel_rfl) hS (Below.refl _ _) (fun _ h => h.drew) ?_)
    refine hs_is rfl (fun w' hw => runs_move rfl) ?_
    refine hs_is rfl (fun w' hw => runs_nilCheck rfl) ?_
    refine hs_is rfl (fun w' hw => runs_fieldK fo63_4 rfl) ?_
    refine hs_is rfl (fun w' hw => runs_load rfl pl2 ((hT.below hw hT.lt).at rfl)) ?_
    refine hs_is rfl (fun w' hw => runs_move rfl) ?_
    refine hs_is rfl (fun w' hw => runs_nilCheck rfl) ?_
    refine hs_is rfl (fun w' hw => runs_fieldK fo63_6 rfl) ?_
    refine hs_is rfl (fun w' hw => runs_load rfl pl2 ((hT.below hw hT.lt).at rfl)) ?_
    refine hs_is rfl (fun w' hw => runs_gtr (r := decide (inn > val)) rfl rfl rfl) ?_
    refine hs_is rfl (fun w' hw => runs_assign rfl) ?_
    refine (fun a1 w1 hS hB1 hq => ?_)
    clear hq
    have hB := hB.trans (hB1.mono hB.size)
    have hT := hTb.below hB hTb.lt
    have he := heb.below hB heb.lt
    have hs := hsb.below hB hsb.lt
    have hE := hEb.kept hB
    refine wpAnyH_done (by kernel_rfl) ?_ _
    refine qx_seq (reg_seq ?_)
    refine sI hS (runs_assign rfl) fun _ hS => ?_
    refine nil_ok (qx_seq (reg_seq ?_))
    refine sI hS (runs_move rfl) fun _ hS => ?_
    refine nil_ok (qx_block (qx_seq (qx_block (qx_seq (qx_block (qx_seq (qx_block (qx_seq (qx_block (qx_seq (qx_block (qx_seq (qx_block (qx_seq (qx_block (qx_seq (qx_seq (qx_seq (reg_seq ?_)))))))))))))))))))
    refine sI hS (eqS2 rfl rfl hk) fun _ hS => ?_
    refine sI hS (runs_assign rfl) fun _ hS => ?_
    refine nil_ok (wp_cond_false (hS.eval rfl) (wp_skip (qx_seq (qx_seq (reg_seq ?_)))))
    refine sI hS (eqS1 rfl rfl hk) fun _ hS => ?_
    refine sI hS (runs_assign rfl) fun _ hS => ?_
    refine nil_ok (wp_cond_false (hS.eval rfl) (wp_skip (qx_seq (qx_seq (reg_seq ?_)))))
    refine sI hS (eqS4 rfl rfl hk) fun _ hS => ?_
    refine sI hS (runs_assign rfl) fun _ hS => ?_
    refine nil_ok (wp_cond_false (hS.eval rfl) (wp_skip (qx_seq (qx_seq (reg_seq ?_)))))
    refine sI hS (eqS3 rfl rfl hk) fun _ hS => ?_
    refine sI hS (runs_assign rfl) fun _ hS => ?_
    refine nil_ok (wp_cond_false (hS.eval rfl) (wp_skip (qx_seq (qx_seq (reg_seq ?_)))))
    refine sI hS (eqS5 rfl rfl hk) fun _ hS => ?_
    refine sI hS (runs_assign rfl) fun _ hS => ?_
    refine nil_ok (wp_cond_true (hS.eval rfl) (qx_exit (.inr ⟨by decide, .inr ⟨by decide, .inr ⟨by decide, .inr ⟨by decide, .inl ⟨rfl, ?_⟩⟩⟩⟩⟩)))
    refine id (qx_seq (reg_seq ?_))
    refine sI hS (runs_move rfl) fun _ hS => ?_
    refine seq_op hS (by decide) (runs_call (args := [.pointer (some ⟨gt, 0, none⟩)]) goes84 rfl (degree_any es hsm v gt ge gs fi la so ca false inn nb val w1 hT he hs hE)) (fun v3 w3 a1 hp hS => ?_)
    obtain ⟨rfl, hT3⟩ := hp
    refine nil_ok (qx_exit (.inr ⟨by decide, .inr ⟨by decide, .inl ⟨rfl, ?_⟩⟩⟩))
    exact id (ret0 (by kernel_rfl) hS ⟨_, rfl, rfl, by rw [hk]; exact turned_from hB hT3⟩)
  · skip
    refine calls_qx (args := [.pointer (some ⟨gt, 0, none⟩), .string tg]) 52 Tryz.func64 rfl (by kernel_rfl) (by simp) (fun a hS => ?_)
    have hB := Below.refl w.heap.size w
    have hTb := hT
    have heb := he
    have hsb := hs
    have hEb := hE
    refine qx_seq (reg_guard (fun w' => Below w.heap.size w w') [.inl (.pointer (some ⟨gt, 0, none⟩)), .inl (.pointer (some ⟨gt, 0, none⟩)), .inl (.pointer (some ⟨gt, 0 + 4, none⟩)), .inl (.int .i64 inn), .inl (.pointer (some ⟨gt, 0, none⟩)), .inl (.pointer (some ⟨gt, 0, none⟩)), .inl (.pointer (some ⟨gt, 0 + 6, none⟩)), .inl (.int .i64 val), .inl (.bool (decide (inn > val))), .inl (.bool (decide (inn > val)))] 10 0 mixed rfl (by kernel_rfl) hS (Below.refl _ _) (fun _ h => h.drew) ?_)
    refine hs_is rfl (fun w' hw => runs_move rfl) ?_
    refine hs_is rfl (fun w' hw => runs_nilCheck rfl) ?_
    refine hs_is rfl (fun w' hw => runs_fieldK fo63_4 rfl) ?_
    refine hs_is rfl (fun w' hw => runs_load rfl pl2 ((hT.below hw hT.lt).at rfl)) ?_
    refine hs_is rfl (fun w' hw => runs_move rfl) ?_
    refine hs_is rfl (fun w' hw => runs_nilCheck rfl) ?_
    refine hs_is rfl (fun w' hw => runs_fieldK fo63_6 rfl) ?_
    refine hs_is rfl (fun w' hw => runs_load rfl pl2 ((hT.below hw hT.lt).at rfl)) ?_
    refine hs_is rfl (fun w' hw => runs_gtr (r := decide (inn > val)) rfl rfl rfl) ?_
    refine hs_is rfl (fun w' hw => runs_assign rfl) ?_
    refine (fun a1 w1 hS hB1 hq => ?_)
    clear hq
    have hB := hB.trans (hB1.mono hB.size)
    have hT := hTb.below hB hTb.lt
    have he := heb.below hB heb.lt
    have hs := hsb.below hB hsb.lt
    have hE := hEb.kept hB
    refine wpAnyH_done (by kernel_rfl) ?_ _
    refine qx_seq (reg_seq ?_)
    refine sI hS (runs_assign rfl) fun _ hS => ?_
    refine nil_ok (qx_seq (reg_seq ?_))
    refine sI hS (runs_move rfl) fun _ hS => ?_
    refine nil_ok (qx_block (qx_seq (qx_block (qx_seq (qx_block (qx_seq (qx_block (qx_seq (qx_block (qx_seq (qx_block (qx_seq (qx_block (qx_seq (qx_block (qx_seq (qx_seq (qx_seq (reg_seq ?_)))))))))))))))))))
    refine sI hS (eqS2 rfl rfl hk) fun _ hS => ?_
    refine sI hS (runs_assign rfl) fun _ hS => ?_
    refine nil_ok (wp_cond_false (hS.eval rfl) (wp_skip (qx_seq (qx_seq (reg_seq ?_)))))
    refine sI hS (eqS1 rfl rfl hk) fun _ hS => ?_
    refine sI hS (runs_assign rfl) fun _ hS => ?_
    refine nil_ok (wp_cond_false (hS.eval rfl) (wp_skip (qx_seq (qx_seq (reg_seq ?_)))))
    refine sI hS (eqS4 rfl rfl hk) fun _ hS => ?_
    refine sI hS (runs_assign rfl) fun _ hS => ?_
    refine nil_ok (wp_cond_false (hS.eval rfl) (wp_skip (qx_seq (qx_seq (reg_seq ?_)))))
    refine sI hS (eqS3 rfl rfl hk) fun _ hS => ?_
    refine sI hS (runs_assign rfl) fun _ hS => ?_
    refine nil_ok (wp_cond_false (hS.eval rfl) (wp_skip (qx_seq (qx_seq (reg_seq ?_)))))
    refine sI hS (eqS5 rfl rfl hk) fun _ hS => ?_
    refine sI hS (runs_assign rfl) fun _ hS => ?_
    refine nil_ok (wp_cond_false (hS.eval rfl) (wp_skip (qx_seq (qx_seq (reg_seq ?_)))))
    refine sI hS (eqS6 rfl rfl hk) fun _ hS => ?_
    refine sI hS (runs_assign rfl) fun _ hS => ?_
    refine nil_ok (wp_cond_true (hS.eval rfl) (qx_exit (.inr ⟨by decide, .inr ⟨by decide, .inr ⟨by decide, .inr ⟨by decide, .inr ⟨by decide, .inl ⟨rfl, ?_⟩⟩⟩⟩⟩⟩)))
    refine id (qx_seq (reg_seq ?_))
    refine sI hS (runs_move rfl) fun _ hS => ?_
    refine seq_op hS (by decide) (runs_call (args := [.pointer (some ⟨gt, 0, none⟩)]) goes85 rfl (rank_any es hsm v gt ge gs fi la so ca false inn nb val w1 hT he hs hE hnb hv hi)) (fun v3 w3 a1 hp hS => ?_)
    obtain ⟨rfl, hT3⟩ := hp
    refine nil_ok (qx_exit (.inr ⟨by decide, .inl ⟨rfl, ?_⟩⟩))
    exact id (ret0 (by kernel_rfl) hS ⟨_, rfl, rfl, by rw [hk]; exact turned_from hB hT3⟩)
  · skip
    refine calls_qx (args := [.pointer (some ⟨gt, 0, none⟩), .string tg]) 52 Tryz.func64 rfl (by kernel_rfl) (by simp) (fun a hS => ?_)
    have hB := Below.refl w.heap.size w
    have hTb := hT
    have heb := he
    have hsb := hs
    have hEb := hE
    refine qx_seq (reg_guard (fun w' => Below w.heap.size w w') [.inl (.pointer (some ⟨gt, 0, none⟩)), .inl (.pointer (some ⟨gt, 0, none⟩)), .inl (.pointer (some ⟨gt, 0 + 4, none⟩)), .inl (.int .i64 inn), .inl (.pointer (some ⟨gt, 0, none⟩)), .inl (.pointer (some ⟨gt, 0, none⟩)), .inl (.pointer (some ⟨gt, 0 + 6, none⟩)), .inl (.int .i64 val), .inl (.bool (decide (inn > val))), .inl (.bool (decide (inn > val)))] 10 0 mixed rfl (by kernel_rfl) hS (Below.refl _ _) (fun _ h => h.drew) ?_)
    refine hs_is rfl (fun w' hw => runs_move rfl) ?_
    refine hs_is rfl (fun w' hw => runs_nilCheck rfl) ?_
    refine hs_is rfl (fun w' hw => runs_fieldK fo63_4 rfl) ?_
    refine hs_is rfl (fun w' hw => runs_load rfl pl2 ((hT.below hw hT.lt).at rfl)) ?_
    refine hs_is rfl (fun w' hw => runs_move rfl) ?_
    refine hs_is rfl (fun w' hw => runs_nilCheck rfl) ?_
    refine hs_is rfl (fun w' hw => runs_fieldK fo63_6 rfl) ?_
    refine hs_is rfl (fun w' hw => runs_load rfl pl2 ((hT.below hw hT.lt).at rfl)) ?_
    refine hs_is rfl (fun w' hw => runs_gtr (r := decide (inn > val)) rfl rfl rfl) ?_
    refine hs_is rfl (fun w' hw => runs_assign rfl) ?_
    refine (fun a1 w1 hS hB1 hq => ?_)
    clear hq
    have hB := hB.trans (hB1.mono hB.size)
    have hT := hTb.below hB hTb.lt
    have he := heb.below hB heb.lt
    have hs := hsb.below hB hsb.lt
    have hE := hEb.kept hB
    refine wpAnyH_done (by kernel_rfl) ?_ _
    refine qx_seq (reg_seq ?_)
    refine sI hS (runs_assign rfl) fun _ hS => ?_
    refine nil_ok (qx_seq (reg_seq ?_))
    refine sI hS (runs_move rfl) fun _ hS => ?_
    refine nil_ok (qx_block (qx_seq (qx_block (qx_seq (qx_block (qx_seq (qx_block (qx_seq (qx_block (qx_seq (qx_block (qx_seq (qx_block (qx_seq (qx_block (qx_seq (qx_seq (qx_seq (reg_seq ?_)))))))))))))))))))
    refine sI hS (eqS2 rfl rfl hk) fun _ hS => ?_
    refine sI hS (runs_assign rfl) fun _ hS => ?_
    refine nil_ok (wp_cond_false (hS.eval rfl) (wp_skip (qx_seq (qx_seq (reg_seq ?_)))))
    refine sI hS (eqS1 rfl rfl hk) fun _ hS => ?_
    refine sI hS (runs_assign rfl) fun _ hS => ?_
    refine nil_ok (wp_cond_false (hS.eval rfl) (wp_skip (qx_seq (qx_seq (reg_seq ?_)))))
    refine sI hS (eqS4 rfl rfl hk) fun _ hS => ?_
    refine sI hS (runs_assign rfl) fun _ hS => ?_
    refine nil_ok (wp_cond_false (hS.eval rfl) (wp_skip (qx_seq (qx_seq (reg_seq ?_)))))
    refine sI hS (eqS3 rfl rfl hk) fun _ hS => ?_
    refine sI hS (runs_assign rfl) fun _ hS => ?_
    refine nil_ok (wp_cond_false (hS.eval rfl) (wp_skip (qx_seq (qx_seq (reg_seq ?_)))))
    refine sI hS (eqS5 rfl rfl hk) fun _ hS => ?_
    refine sI hS (runs_assign rfl) fun _ hS => ?_
    refine nil_ok (wp_cond_false (hS.eval rfl) (wp_skip (qx_seq (qx_seq (reg_seq ?_)))))
    refine sI hS (eqS6 rfl rfl hk) fun _ hS => ?_
    refine sI hS (runs_assign rfl) fun _ hS => ?_
    refine nil_ok (wp_cond_false (hS.eval rfl) (wp_skip (qx_seq (reg_seq ?_))))
    refine sI hS (eqS7 rfl rfl hk) fun _ hS => ?_
    refine sI hS (runs_assign rfl) fun _ hS => ?_
    refine nil_ok (wp_cond_true (hS.eval rfl) (qx_exit (.inr ⟨by decide, .inr ⟨by decide, .inr ⟨by decide, .inr ⟨by decide, .inr ⟨by decide, .inr ⟨by decide, .inl ⟨rfl, ?_⟩⟩⟩⟩⟩⟩⟩)))
    refine id (qx_seq (reg_seq ?_))
    refine sI hS (runs_move rfl) fun _ hS => ?_
    refine seq_op hS (by decide) (runs_call (args := [.pointer (some ⟨gt, 0, none⟩)]) goes86 rfl (walks_any es hsm v gt ge gs fi la so ca false inn nb val w1 hT he hs hE hv hi)) (fun v3 w3 a1 hp hS => ?_)
    obtain ⟨rfl, hT3⟩ := hp
    refine nil_ok (qx_exit (.inl ⟨rfl, ?_⟩))
    exact id (ret0 (by kernel_rfl) hS ⟨_, rfl, rfl, by rw [hk]; exact turned_from hB hT3⟩)
end Go.Proofs.YtapcpmalgdhakaaGreat
