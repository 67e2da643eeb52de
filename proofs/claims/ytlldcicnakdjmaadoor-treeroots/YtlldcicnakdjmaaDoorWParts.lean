/- The walks of TreeParts and TreeRoots. Conditions: the table of constants lies as it was laid. -/
import Derived.Test.YtlldcicnakdjmaaDoorTRefB
namespace Go.Proofs.YtlldcicnakdjmaaDoor
open Go.RowKit

set_option maxRecDepth 100000 in
set_option maxHeartbeats 1000000 in
theorem parts_walk (s : ByteArray) (x y : List Nat) (n : Int) (w : World) (hx : x.length = 32) (hy : y.length = 32) (hbx : Sha.Bytes x) (hby : Sha.Bytes y) (hk : Kept w) :
    Calls Tryd.prog 4 #[.string s, .agg (U8 x).toArray, .agg (U8 y).toArray, .int .i64 n] w fun e w' => e = .returned (.bool true) ∧ Below w.heap.size w w' := by
  refine calls_qx (args := [.string s, .agg (U8 x).toArray, .agg (U8 y).toArray, .int .i64 n]) 42 Tryd.func4 rfl (by kernel_rfl) (by simp) (fun a hS => ?_)
  refine qx_seq (reg_seq ?_)
  refine seq_op hS (by decide) (runs_box rfl) (fun v1 w1 a1 hp1 hS => ?_)
  obtain ⟨rfl, rfl⟩ := hp1
  have hX1 : Has (w.alloc (.cells (Value.agg (U8 x).toArray).cells 26)) w.heap.size 26 (U8 x) := Has.new w 26 (U8 x)
  have hB1 : Below w.heap.size w (w.alloc (.cells (Value.agg (U8 x).toArray).cells 26)) := (Below.refl _ _).alloc (Nat.le_refl _) _
  have hz1 : (w.alloc (.cells (Value.agg (U8 x).toArray).cells 26)).heap.size = w.heap.size + 1 := by simp
  generalize w.alloc (.cells (Value.agg (U8 x).toArray).cells 26) = w1 at *
  refine seq_op hS (by decide) (runs_box rfl) (fun v1 w2 a1 hp1 hS => ?_)
  obtain ⟨rfl, rfl⟩ := hp1
  have hY2 : Has (w1.alloc (.cells (Value.agg (U8 y).toArray).cells 26)) w1.heap.size 26 (U8 y) := Has.new w1 26 (U8 y)
  have hB2 : Below w1.heap.size w1 (w1.alloc (.cells (Value.agg (U8 y).toArray).cells 26)) := (Below.refl _ _).alloc (Nat.le_refl _) _
  generalize w1.alloc (.cells (Value.agg (U8 y).toArray).cells 26) = w2 at *
  have hX2 : Has w2 w.heap.size 26 (U8 x) := hX1.below hB2 (by omega)
  have hBw2 : Below w.heap.size w w2 := hB1.trans (hB2.mono (by omega))
  refine seq_is hS (by decide) (runs_assign rfl) (fun a1 hS => ?_)
  refine nil_ok (qx_seq (qx_seq (reg_seq ?_)))
  refine seq_op hS (by decide) (runs_call (args := []) goes12 rfl (awake_call w2 (hk.below hBw2 hk.pos))) (fun v1 w3 a1 hp1 hS => ?_)
  obtain ⟨rfl, hB3⟩ := hp1
  have hBw3 : Below w.heap.size w w3 := hBw2.trans (hB3.mono hBw2.size)
  have hk3 := hk.below hBw3 hk.pos
  have hX3 := hX2.below hB3 hX2.lt
  have hY3 := hY2.below hB3 hY2.lt
  have last : ∀ (L : List (Nat × Value)) (a9 : Act) (N : Act → World → Prop) (X : Nat → Act → World → Prop), Sees 42 L a9 → ((Tryd.f4.body.bind (regionIn 2)).getD .skip).wp Tryd.prog (Qx (fun a' w' => Code.ret.wp Tryd.prog (Qx N X (Rets Tryd.prog Tryd.f4 (fun e w' => e = .returned (.bool true) ∧ Below w.heap.size w w'))) a' w') X (Rets Tryd.prog Tryd.f4 (fun e w' => e = .returned (.bool true) ∧ Below w.heap.size w w'))) a9 w3 := fun L a9 N X hS => by
    refine reg_seq ?_
    refine seq_op hS (by decide) (runs_call (args := []) goes12 rfl (awake_call w3 hk3)) (fun v2 w4 a2 hp2 hS => ?_)
    obtain ⟨rfl, hB4⟩ := hp2
    refine seq_is hS (by decide) (runs_assign rfl) (fun a1 hS => ?_)
    exact nil_ok (qx_ret (ret1 (t := 8) (by kernel_rfl) hS rfl ⟨rfl, hBw3.trans (hB4.mono hBw3.size)⟩))
  refine seq_is hS (by decide) (runs_not rfl) (fun a1 hS => ?_)
  refine seq_is hS (by decide) (runs_move rfl) (fun a1 hS => ?_)
  refine seq_yis hS (by decide) rfl (by decide) rfl (runs_move rfl) (fun a1 hS => ?_)
  refine seq_yis hS (by decide) rfl (by decide) rfl (runs_lens rfl (by kernel_rfl)) (fun a1 hS => ?_)
  by_cases hs : 200 < s.size
  · refine seq_yis hS (by decide) rfl (by decide) rfl (runs_gtr (r := true) rfl rfl (by rw [decide_eq_true_eq]; omega)) (fun a1 hS => ?_)
    refine seq_is hS (by decide) (runs_pick rfl rfl) (fun a1 hS => ?_)
    refine seq_is hS (by decide) (runs_move rfl) (fun a1 hS => ?_)
    refine seq_no hS (by decide) rfl (by decide) rfl rfl (fun a1 hS => ?_)
    refine seq_no hS (by decide) rfl (by decide) rfl rfl (fun a1 hS => ?_)
    refine seq_is hS (by decide) (runs_pick rfl rfl) (fun a1 hS => ?_)
    exact nil_ok (wp_cond_true (hS.eval rfl) (qx_seq (last _ _ _ _ hS)))
  · refine seq_yis hS (by decide) rfl (by decide) rfl (runs_gtr (r := false) rfl rfl (by rw [decide_eq_false_iff_not]; omega)) (fun a1 hS => ?_)
    refine seq_is hS (by decide) (runs_pick rfl rfl) (fun a1 hS => ?_)
    refine seq_is hS (by decide) (runs_move rfl) (fun a1 hS => ?_)
    refine seq_yis hS (by decide) rfl (by decide) rfl (runs_move rfl) (fun a1 hS => ?_)
    by_cases hn : n > 1073741824
    · refine seq_yis hS (by decide) rfl (by decide) rfl (runs_gtr (r := true) rfl rfl (by rw [decide_eq_true_eq]; omega)) (fun a1 hS => ?_)
      refine seq_is hS (by decide) (runs_pick rfl rfl) (fun a1 hS => ?_)
      exact nil_ok (wp_cond_true (hS.eval rfl) (qx_seq (last _ _ _ _ hS)))
    · refine seq_yis hS (by decide) rfl (by decide) rfl (runs_gtr (r := false) rfl rfl (by rw [decide_eq_false_iff_not]; omega)) (fun a1 hS => ?_)
      refine seq_is hS (by decide) (runs_pick rfl rfl) (fun a1 hS => ?_)
      refine nil_ok (wp_cond_false (hS.eval rfl) (wp_skip ?_))
      have kb : ∀ w', Below w3.heap.size w3 w' → Kept w' := fun w' h => hk3.below h hk3.pos
      refine qx_seq (reg_guard (fun w' => Below w3.heap.size w3 w') [.inl (.string s), .inl (.agg (U8 (Tree.leaf (bl s))).toArray), .inl (.string s), .inl (.agg (U8 (Tree.leaf (bl s))).toArray), .inl (.bool true), .inl (.bool true),
        .inl (.agg (U8 x).toArray), .inl (.agg (U8 y).toArray), .inl (.agg (U8 (Tree.node x y)).toArray), .inl (.agg (U8 x).toArray), .inl (.agg (U8 y).toArray), .inl (.agg (U8 (Tree.node x y)).toArray), .inl (.bool true), .inl (.bool true), .inl (.bool true),
        .inl (.int .i64 n), .inl (.int .i64 ((halfZ n : Nat) : Int)), .inl (.int .i64 n), .inl (.int .i64 ((halfZ n : Nat) : Int)), .inl (.bool true), .inl (.bool true), .inl (.bool true)] 22 0 mixed rfl (by kernel_rfl) hS (Below.refl _ _) (fun _ h => h.drew) ?_)
      refine hs_is rfl (fun w' hw => runs_move rfl) ?_
      refine hs_val rfl (fun w' hw _ => runs_call (args := [.string s]) goes18 rfl (hash_post _ (leaf_any s w' (by omega) (kb w' hw)) (fun _ h => ⟨hw.trans (h.mono hw.size), h⟩))) ?_
      refine hs_is rfl (fun w' hw => runs_move rfl) ?_
      refine hs_val rfl (fun w' hw _ => runs_call (args := [.string s]) goes19 rfl (hash_post _ (refLeafH_any s w' (by omega)) (fun _ h => ⟨hw.trans (h.mono hw.size), h⟩))) ?_
      refine hs_is rfl (fun w' hw => runs_eqHash (r := true) rfl rfl (Tree.leaf_len _) (Tree.leaf_len _) (beq_iff_eq.2 rfl)) ?_
      refine hs_is rfl (fun w' hw => runs_move rfl) ?_
      refine hs_yis rfl rfl (fun w' hw => runs_loadRow rfl (hX3.below hw hX3.lt) undHash rfl (by rw [infHash]; simp [hx])) ?_
      refine hs_yis rfl rfl (fun w' hw => runs_loadRow rfl (hY3.below hw hY3.lt) undHash rfl (by rw [infHash]; simp [hy])) ?_
      refine hs_yval rfl rfl (fun w' hw _ => runs_call (args := [.agg (U8 x).toArray, .agg (U8 y).toArray]) goes20 rfl (hash_post _ (node_any x y w' hx hy hbx hby (kb w' hw)) (fun _ h => ⟨hw.trans (h.mono hw.size), h⟩))) ?_
      refine hs_yis rfl rfl (fun w' hw => runs_loadRow rfl (hX3.below hw hX3.lt) undHash rfl (by rw [infHash]; simp [hx])) ?_
      refine hs_yis rfl rfl (fun w' hw => runs_loadRow rfl (hY3.below hw hY3.lt) undHash rfl (by rw [infHash]; simp [hy])) ?_
      refine hs_yval rfl rfl (fun w' hw _ => runs_call (args := [.agg (U8 x).toArray, .agg (U8 y).toArray]) goes21 rfl (hash_post _ (refNodeH_any x y w' hx hy hbx hby) (fun _ h => ⟨hw.trans (h.mono hw.size), h⟩))) ?_
      refine hs_yis rfl rfl (fun w' hw => runs_eqHash (r := true) rfl rfl (Tree.node_len _ _) (Tree.node_len _ _) (beq_iff_eq.2 rfl)) ?_
      refine hs_is rfl (fun w' hw => runs_pick rfl rfl) ?_
      refine hs_is rfl (fun w' hw => runs_move rfl) ?_
      refine hs_yis rfl rfl (fun w' hw => runs_move rfl) ?_
      refine hs_yis rfl rfl (fun w' hw => runs_call (args := [.int .i64 n]) goes22 rfl (half_call n w' (by omega))) ?_
      refine hs_yis rfl rfl (fun w' hw => runs_move rfl) ?_
      refine hs_yis rfl rfl (fun w' hw => runs_call (args := [.int .i64 n]) goes23 rfl (refHalfZ_any n w' (by omega))) ?_
      refine hs_yis rfl rfl (fun w' hw => runs_eql (r := true) rfl rfl (beq_iff_eq.2 rfl)) ?_
      refine hs_is rfl (fun w' hw => runs_pick rfl rfl) ?_
      refine hs_is rfl (fun w' hw => runs_assign rfl) ?_
      refine (fun a5 w5 hS5 hB5 _ => ?_)
      refine wpAnyH_done (by kernel_rfl) ?_ _
      exact qx_ret (ret1 (t := 8) (by kernel_rfl) hS5 rfl ⟨rfl, hBw3.trans (hB5.mono hBw3.size)⟩)
set_option maxRecDepth 100000 in
set_option maxHeartbeats 1000000 in
theorem roots_walk (v : Value) (ss : List ByteArray) (w : World) (hs : Strs w v ss) (hk : Kept w) : Calls Tryd.prog 3 #[v] w fun e w' => e = .returned (.bool true) ∧ Below w.heap.size w w' := by
  refine calls_qx (args := [v]) 27 Tryd.func3 rfl (by kernel_rfl) (by simp) (fun a hS => ?_)
  refine qx_seq (reg_seq ?_)
  refine seq_is hS (by decide) (runs_assign rfl) (fun a1 hS => ?_)
  refine nil_ok (qx_seq (qx_seq (reg_seq ?_)))
  refine seq_op hS (by decide) (runs_call (args := []) goes12 rfl (awake_call w hk)) (fun v1 w1 a1 hp1 hS => ?_)
  obtain ⟨rfl, hB1⟩ := hp1
  have hk1 := hk.below hB1 hk.pos
  have hs1 := hs.kept hB1
  refine seq_is hS (by decide) (runs_not rfl) (fun a1 hS => ?_)
  refine seq_is hS (by decide) (runs_move rfl) (fun a1 hS => ?_)
  refine seq_yis hS (by decide) rfl (by decide) rfl (runs_move rfl) (fun a1 hS => ?_)
  refine seq_yis hS (by decide) rfl (by decide) rfl (runs_call (args := [v]) goes13 rfl (few_call ss v w1 hs1)) (fun a1 hS => ?_)
  cases hf : fewB ss with
  | false =>
    rw [hf] at hS
    refine seq_yis hS (by decide) rfl (by decide) rfl (runs_not rfl) (fun a1 hS => ?_)
    refine seq_is hS (by decide) (runs_pick rfl rfl) (fun a1 hS => ?_)
    refine nil_ok (wp_cond_true (hS.eval rfl) (qx_seq (reg_seq ?_)))
    refine seq_op hS (by decide) (runs_call (args := []) goes12 rfl (awake_call w1 hk1)) (fun v2 w2 a2 hp2 hS => ?_)
    obtain ⟨rfl, hB2⟩ := hp2
    refine seq_is hS (by decide) (runs_assign rfl) (fun a1 hS => ?_)
    exact nil_ok (qx_ret (ret1 (t := 2) (by kernel_rfl) hS rfl ⟨rfl, hB1.trans (hB2.mono hB1.size)⟩))
  | true =>
    rw [hf] at hS
    simp only [fewB, Bool.and_eq_true, List.all_eq_true, decide_eq_true_eq] at hf
    obtain ⟨hsz, hn20⟩ := hf
    refine seq_yis hS (by decide) rfl (by decide) rfl (runs_not rfl) (fun a1 hS => ?_)
    refine seq_is hS (by decide) (runs_pick rfl rfl) (fun a1 hS => ?_)
    refine nil_ok (wp_cond_false (hS.eval rfl) (wp_skip ?_))
    have hsz1 : ∀ s ∈ ss, s.size ≤ 100000 := fun s h => by have := hsz s h; omega
    have hsz2 : ∀ s ∈ ss, s.size ≤ 900 := fun s h => by have := hsz s h; omega
    obtain ⟨i9, hi9, hz9, hzs9, hzb9⟩ := info_parts infStr
    -- a copy of the argument
    have copy : ∀ (L : List (Nat × Value)) (s x : Operand) (ty : TypeId) (g : Nat) (w' : World), Below w1.heap.size w1 w' → vals L s = some (.slice (some ⟨g, 0, none⟩) 0 0) → vals L x = some v → Runs Tryd.prog (.call { callee := .builtin .append, args := #[s, x], argTypes := #[22, 22] }) ty L w' (fun u w2 => Strs w2 u ss ∧ Below w'.heap.size w' w2) := fun L s x ty g w' hB' hs2 hx => by
      obtain ⟨A, c, rfl, hc1, hc2, hA⟩ := hs1
      by_cases h0 : ss.length = 0
      · rw [h0] at hx
        refine (runs_appendNone undStrs hi9 hs2 (Nat.le_refl _) (by simp) hx).mono ?_
        rintro u w2 ⟨rfl, rfl⟩
        exact ⟨⟨_, 0, by rw [h0], by omega, by unfold maxLen; omega, fun h => by omega⟩, Below.refl _ _⟩
      · obtain ⟨b, o, rfl, hb, hcell⟩ := hA (by omega)
        refine (runs_append0 (m := ss.length) undStrs hi9 hz9 hzs9 hzb9 (by simp [Value.cells]) hs2 hx (news := ss.map Value.string) (by simp) (fun j u hu => ?_) (by omega) (by omega) (by omega)).mono ?_
        · rw [List.getElem?_map] at hu
          obtain ⟨s, hs3, rfl⟩ := Option.map_eq_some_iff.1 hu
          have hj : j < ss.length := (List.getElem?_eq_some_iff.1 hs3).1
          rw [show (⟨b, o, none⟩ : Addr).add j = ⟨b, o + j, none⟩ from by unfold Addr.add; split <;> simp_all, hB'.cell (p := ⟨b, o + j, none⟩) hb, hcell j hj, List.getD_eq_getElem?_getD, hs3]
          rfl
        · rintro u w2 ⟨h3, h4⟩
          exact ⟨strs_own h3 rfl, h4⟩
    refine qx_seq (reg_seq ?_)
    refine seq_op hS (by decide) (runs_buildNone undStrs hi9) (fun v2 w2 a2 hp2 hS => ?_)
    obtain ⟨rfl, rfl⟩ := hp2
    have hB2 : Below w1.heap.size w1 (w1.alloc (.cells #[] 9)) := (Below.refl _ _).alloc (Nat.le_refl _) _
    generalize w1.alloc (.cells #[] 9) = w2 at *
    refine seq_is hS (by decide) (runs_move rfl) (fun a1 hS => ?_)
    refine seq_op hS (by decide) (copy _ _ _ _ _ w2 hB2 rfl rfl) (fun v3 w3 a3 hp3 hS => ?_)
    obtain ⟨hs3, hB3⟩ := hp3
    have hB13 : Below w1.heap.size w1 w3 := hB2.trans (hB3.mono hB2.size)
    refine seq_op hS (by decide) (runs_call (args := [v3]) goes14 rfl (hash_call (top_any ss.length ss v3 w3 rfl hs3 hsz1 (by omega) (hk1.below hB13 hk1.pos)))) (fun v4 w4 a4 hp4 hS => ?_)
    obtain ⟨rfl, hB4⟩ := hp4
    have hB14 : Below w1.heap.size w1 w4 := hB13.trans (hB4.mono hB13.size)
    refine seq_is hS (by decide) (runs_move rfl) (fun a1 hS => ?_)
    refine seq_op hS (by decide) (runs_call (args := [v]) goes15 rfl (hash_call (refTopH_any ss v w4 (hs1.kept hB14) hsz2 (by omega)))) (fun v5 w5 a5 hp5 hS => ?_)
    obtain ⟨rfl, hB5⟩ := hp5
    have hB15 : Below w1.heap.size w1 w5 := hB14.trans (hB5.mono hB14.size)
    refine seq_is hS (by decide) (runs_eqHash (r := true) rfl rfl (top_len _) (top_len _) (beq_iff_eq.2 rfl)) (fun a1 hS => ?_)
    refine seq_is hS (by decide) (runs_move rfl) (fun a1 hS => ?_)
    refine seq_yes hS (by decide) rfl (by decide) rfl (runs_buildNone undStrs hi9) (fun v2 w6 a2 hp2 hS => ?_)
    obtain ⟨rfl, rfl⟩ := hp2
    have hB6 : Below w1.heap.size w1 (w5.alloc (.cells #[] 9)) := hB15.alloc hB15.size _
    generalize w5.alloc (.cells #[] 9) = w6 at *
    refine seq_yis hS (by decide) rfl (by decide) rfl (runs_move rfl) (fun a1 hS => ?_)
    refine seq_yes hS (by decide) rfl (by decide) rfl (copy _ _ _ _ _ w6 hB6 rfl rfl) (fun v7 w7 a7 hp7 hS => ?_)
    obtain ⟨hs7, hB7⟩ := hp7
    have hB17 : Below w1.heap.size w1 w7 := hB6.trans (hB7.mono hB6.size)
    refine seq_yes hS (by decide) rfl (by decide) rfl (runs_call (args := [v7]) goes16 rfl (hash_call (root_any ss v7 w7 hs7 hsz1 (by omega) (hk1.below hB17 hk1.pos)))) (fun v8 w8 a8 hp8 hS => ?_)
    obtain ⟨rfl, hB8⟩ := hp8
    have hB18 : Below w1.heap.size w1 w8 := hB17.trans (hB8.mono hB17.size)
    refine seq_yis hS (by decide) rfl (by decide) rfl (runs_move rfl) (fun a1 hS => ?_)
    refine seq_yes hS (by decide) rfl (by decide) rfl (runs_call (args := [v]) goes17 rfl (hash_call (refRootH_any ss v w8 (hs1.kept hB18) hsz2 (by omega)))) (fun v9 w9 a9 hp9 hS => ?_)
    obtain ⟨rfl, hB9⟩ := hp9
    have hB19 : Below w1.heap.size w1 w9 := hB18.trans (hB9.mono hB18.size)
    refine seq_yis hS (by decide) rfl (by decide) rfl (runs_eqHash (r := true) rfl rfl (root_len _ _) (root_len _ _) (beq_iff_eq.2 rfl)) (fun a1 hS => ?_)
    refine seq_is hS (by decide) (runs_pick rfl rfl) (fun a1 hS => ?_)
    refine seq_is hS (by decide) (runs_assign rfl) (fun a1 hS => ?_)
    exact nil_ok (qx_ret (ret1 (t := 2) (by kernel_rfl) hS rfl ⟨rfl, hB1.trans (hB19.mono hB1.size)⟩))
end Go.Proofs.YtlldcicnakdjmaaDoor
