/- The walk of ManyTurned. Conditions: the table of constants lies as it was laid. -/
import Derived.Test.YtdemoidmhmdgkaaDoorMAwake
import Derived.Test.YtdemoidmhmdgkaaDoorMRTop
namespace Go.Proofs.YtdemoidmhmdgkaaDoor
open Go.RowKit Many
set_option maxRecDepth 100000

set_option maxHeartbeats 1000000 in
theorem turned_walk (lv : Value) (ss : List ByteArray) (atv : Value) (xs : List Int) (by_ : ByteArray) (i : Nat) (hi : i < 256) (w : World) (hL : Strs w lv ss) (hx : Ints w atv xs) (hk : Kept w) : Calls Tryd.prog 10 #[lv, atv, .string by_, .int .u8 (i : Int)] w fun e w' => e = .returned (.bool true) ∧ Below w.heap.size w w' := by
  obtain ⟨A1, c1, rfl, _⟩ := id hx
  obtain ⟨A, c, rfl, _⟩ := id hL
  refine calls_qx (args := [.slice A ss.length c, .slice A1 xs.length c1, .string by_, .int .u8 (i : Int)]) 85 Tryd.func10 rfl (by kernel_rfl) (by simp) (fun a hS => ?_)
  refine qx_seq (reg_seq ?_)
  refine seq_is hS (by decide) (runs_assign rfl) (fun a1 hS => ?_)
  refine nil_ok (qx_seq (qx_seq (reg_seq ?_)))
  refine seq_op hS (by decide) (runs_call (args := []) goes19 rfl (awakeM_call w hk)) (fun v1 w1 a1 hp1 hS => ?_)
  obtain ⟨rfl, hB1⟩ := hp1
  have hk1 := hk.below hB1 hk.pos
  have hs1 := hL.kept hB1
  have hx1 := hx.kept hB1
  refine seq_is hS (by decide) (runs_not (b := true) rfl) (fun a1 hS => ?_)
  refine seq_is hS (by decide) (runs_move rfl) (fun a1 hS => ?_)
  refine seq_yis hS (by decide) rfl (by decide) rfl (runs_move rfl) (fun a1 hS => ?_)
  refine seq_yis hS (by decide) rfl (by decide) rfl (runs_call (args := [.slice A ss.length c]) goes12 rfl (few_call ss _ w1 hs1)) (fun a1 hS => ?_)
  have last : ∀ (L : List (Nat × Value)) (a9 : Act) (N : Act → World → Prop) (X : Nat → Act → World → Prop), Sees 85 L a9 → ((Tryd.f10.body.bind (regionIn 2)).getD .skip).wp Tryd.prog (Qx (fun a' w' => Code.ret.wp Tryd.prog (Qx N X (Rets Tryd.prog Tryd.f10 (fun e w' => e = .returned (.bool true) ∧ Below w.heap.size w w'))) a' w') X (Rets Tryd.prog Tryd.f10 (fun e w' => e = .returned (.bool true) ∧ Below w.heap.size w w'))) a9 w1 := fun L a9 N X hS => by
    refine reg_seq ?_
    refine seq_op hS (by decide) (runs_call (args := []) goes19 rfl (awakeM_call w1 hk1)) (fun v2 w2 a2 hp2 hS => ?_)
    obtain ⟨rfl, hB2⟩ := hp2
    refine seq_is hS (by decide) (runs_assign rfl) (fun a1 hS => ?_)
    exact nil_ok (qx_ret (ret1 (t := 8) (by kernel_rfl) hS rfl ⟨rfl, hB1.trans (hB2.mono hB1.size)⟩))
  cases hf : fewB ss with
  | false =>
    rw [hf] at hS
    refine seq_yis hS (by decide) rfl (by decide) rfl (runs_not (b := false) rfl) (fun a1 hS => ?_)
    refine seq_is hS (by decide) (runs_pick rfl rfl) (fun a1 hS => ?_)
    refine seq_is hS (by decide) (runs_move rfl) (fun a1 hS => ?_)
    refine seq_no hS (by decide) rfl (by decide) rfl rfl (fun a1 hS => ?_)
    refine seq_no hS (by decide) rfl (by decide) rfl rfl (fun a1 hS => ?_)
    refine seq_no hS (by decide) rfl (by decide) rfl rfl (fun a1 hS => ?_)
    refine seq_no hS (by decide) rfl (by decide) rfl rfl (fun a1 hS => ?_)
    refine seq_no hS (by decide) rfl (by decide) rfl rfl (fun a1 hS => ?_)
    refine seq_is hS (by decide) (runs_pick rfl rfl) (fun a1 hS => ?_)
    refine seq_is hS (by decide) (runs_move rfl) (fun a1 hS => ?_)
    refine seq_no hS (by decide) rfl (by decide) rfl rfl (fun a1 hS => ?_)
    refine seq_no hS (by decide) rfl (by decide) rfl rfl (fun a1 hS => ?_)
    refine seq_no hS (by decide) rfl (by decide) rfl rfl (fun a1 hS => ?_)
    refine seq_is hS (by decide) (runs_pick rfl rfl) (fun a1 hS => ?_)
    refine seq_is hS (by decide) (runs_move rfl) (fun a1 hS => ?_)
    refine seq_no hS (by decide) rfl (by decide) rfl rfl (fun a1 hS => ?_)
    refine seq_no hS (by decide) rfl (by decide) rfl rfl (fun a1 hS => ?_)
    refine seq_no hS (by decide) rfl (by decide) rfl rfl (fun a1 hS => ?_)
    refine seq_is hS (by decide) (runs_pick rfl rfl) (fun a1 hS => ?_)
    exact nil_ok (wp_cond_true (hS.eval rfl) (qx_seq (last _ _ _ _ hS)))
  | true =>
    rw [hf] at hS
    simp only [fewB, Bool.and_eq_true, List.all_eq_true, decide_eq_true_eq] at hf
    obtain ⟨hsz, hn20⟩ := hf
    have hsz1 : ∀ s ∈ ss, s.size ≤ 100000 := fun s h => by have := hsz s h; omega
    have hsz2 : ∀ s ∈ ss, s.size ≤ 900 := fun s h => by have := hsz s h; omega
    obtain ⟨i9, hi9, hz9, hzs9, hzb9⟩ := info_parts infStr
    obtain ⟨i3, hi3, hz3, hzs3, hzb3⟩ := info_parts infInt
    obtain ⟨ih, hih, hzh, hszh, hbh⟩ := info_parts infHashb
    refine seq_yis hS (by decide) rfl (by decide) rfl (runs_not (b := true) rfl) (fun a1 hS => ?_)
    refine seq_is hS (by decide) (runs_pick rfl rfl) (fun a1 hS => ?_)
    refine seq_is hS (by decide) (runs_move rfl) (fun a1 hS => ?_)
    refine seq_yis hS (by decide) rfl (by decide) rfl (runs_move rfl) (fun a1 hS => ?_)
    refine seq_yis hS (by decide) rfl (by decide) rfl (runs_len rfl undStrs) (fun a1 hS => ?_)
    refine seq_yis hS (by decide) rfl (by decide) rfl (runs_move rfl) (fun a1 hS => ?_)
    refine seq_yis hS (by decide) rfl (by decide) rfl (runs_call (args := [.int .i64 ((ss.length : Nat) : Int), .slice A1 xs.length c1]) goes21 rfl (refRises_call ss.length xs _ w1 hx1)) (fun a1 hS => ?_)
    cases hr : risesB (ss.length : Int) (-1) xs with
    | false =>
      rw [hr] at hS
      refine seq_yis hS (by decide) rfl (by decide) rfl (runs_not (b := false) rfl) (fun a1 hS => ?_)
      refine seq_is hS (by decide) (runs_pick rfl rfl) (fun a1 hS => ?_)
      refine seq_is hS (by decide) (runs_move rfl) (fun a1 hS => ?_)
      refine seq_no hS (by decide) rfl (by decide) rfl rfl (fun a1 hS => ?_)
      refine seq_no hS (by decide) rfl (by decide) rfl rfl (fun a1 hS => ?_)
      refine seq_no hS (by decide) rfl (by decide) rfl rfl (fun a1 hS => ?_)
      refine seq_is hS (by decide) (runs_pick rfl rfl) (fun a1 hS => ?_)
      refine seq_is hS (by decide) (runs_move rfl) (fun a1 hS => ?_)
      refine seq_no hS (by decide) rfl (by decide) rfl rfl (fun a1 hS => ?_)
      refine seq_no hS (by decide) rfl (by decide) rfl rfl (fun a1 hS => ?_)
      refine seq_no hS (by decide) rfl (by decide) rfl rfl (fun a1 hS => ?_)
      refine seq_is hS (by decide) (runs_pick rfl rfl) (fun a1 hS => ?_)
      exact nil_ok (wp_cond_true (hS.eval rfl) (qx_seq (last _ _ _ _ hS)))
    | true =>
      rw [hr] at hS
      refine seq_yis hS (by decide) rfl (by decide) rfl (runs_not (b := true) rfl) (fun a1 hS => ?_)
      refine seq_is hS (by decide) (runs_pick rfl rfl) (fun a1 hS => ?_)
      refine seq_is hS (by decide) (runs_move rfl) (fun a1 hS => ?_)
      refine seq_yis hS (by decide) rfl (by decide) rfl (runs_move rfl) (fun a1 hS => ?_)
      refine seq_yis hS (by decide) rfl (by decide) rfl (runs_len rfl undInts) (fun a1 hS => ?_)
      by_cases h1 : xs.length = 0
      · refine seq_yis hS (by decide) rfl (by decide) rfl (runs_eql (r := true) rfl rfl (by rw [beq_iff_eq]; omega)) (fun a1 hS => ?_)
        refine seq_is hS (by decide) (runs_pick rfl rfl) (fun a1 hS => ?_)
        refine seq_is hS (by decide) (runs_move rfl) (fun a1 hS => ?_)
        refine seq_no hS (by decide) rfl (by decide) rfl rfl (fun a1 hS => ?_)
        refine seq_no hS (by decide) rfl (by decide) rfl rfl (fun a1 hS => ?_)
        refine seq_no hS (by decide) rfl (by decide) rfl rfl (fun a1 hS => ?_)
        refine seq_is hS (by decide) (runs_pick rfl rfl) (fun a1 hS => ?_)
        exact nil_ok (wp_cond_true (hS.eval rfl) (qx_seq (last _ _ _ _ hS)))
      refine seq_yis hS (by decide) rfl (by decide) rfl (runs_eql (r := false) rfl rfl (by rw [beq_eq_false_iff_ne]; omega)) (fun a1 hS => ?_)
      refine seq_is hS (by decide) (runs_pick rfl rfl) (fun a1 hS => ?_)
      refine seq_is hS (by decide) (runs_move rfl) (fun a1 hS => ?_)
      refine seq_yis hS (by decide) rfl (by decide) rfl (runs_move rfl) (fun a1 hS => ?_)
      refine seq_yis hS (by decide) rfl (by decide) rfl (runs_lens rfl (by kernel_rfl)) (fun a1 hS => ?_)
      by_cases h2 : 200 < by_.size
      · refine seq_yis hS (by decide) rfl (by decide) rfl (runs_gtr (r := true) rfl rfl (by rw [decide_eq_true_eq]; omega)) (fun a1 hS => ?_)
        refine seq_is hS (by decide) (runs_pick rfl rfl) (fun a1 hS => ?_)
        exact nil_ok (wp_cond_true (hS.eval rfl) (qx_seq (last _ _ _ _ hS)))
      refine seq_yis hS (by decide) rfl (by decide) rfl (runs_gtr (r := false) rfl rfl (by rw [decide_eq_false_iff_not]; omega)) (fun a1 hS => ?_)
      refine seq_is hS (by decide) (runs_pick rfl rfl) (fun a1 hS => ?_)
      refine nil_ok (wp_cond_false (hS.eval rfl) (wp_skip ?_))
      obtain ⟨hex, hrn⟩ := of_toN hr
      rw [Int.toNat_natCast] at hrn
      have hmem := hrn.mem
      have hlr : (toN xs).length ≤ ss.length := by have := rise_len hrn; omega
      have htl : (toN xs).length = xs.length := by simp [toN]
      generalize toN xs = l at *
      subst hex
      refine qx_seq (reg_seq ?_)
      refine seq_is hS (by decide) (runs_move rfl) (fun a1 hS => ?_)
      refine seq_op hS (by decide) (runs_call (args := [.slice A ss.length c]) goes27 rfl (hash_post (fun w' => Below w1.heap.size w1 w') (refRootH_any ss _ w1 hs1 hsz2 (by omega)) (fun _ h => h))) (fun v2 w2 a2 hp2 hS => ?_)
      obtain ⟨rfl, hB2⟩ := hp2
      have hrl : (Tree.root ss.length (Tree.top (ss.map bl))).length = 32 := root_len _ _
      have hrb : Sha.Bytes (Tree.root ss.length (Tree.top (ss.map bl))) := sha_bytes _
      generalize Tree.root ss.length (Tree.top (ss.map bl)) = r at *
      refine seq_op hS (by decide) (alloc_hash) (fun v3 w3 a3 hp3 hS => ?_)
      obtain ⟨rfl, rfl⟩ := hp3
      have hT3 := Has.new w2 26 (U8 (List.replicate 32 0))
      have hB3 : Below w2.heap.size w2 (w2.alloc (.cells (U8 (List.replicate 32 0)).toArray 26)) := (Below.refl _ _).alloc (Nat.le_refl _) _
      generalize w2.alloc (.cells (U8 (List.replicate 32 0)).toArray 26) = w3 at *
      refine seq_none hS (runs_storeRow rfl rfl hT3 (by simp [hrl]) (agg_all _) (by rw [infHash]; simp [hrl])) (fun v4 w4 a4 hp4 hS => ?_)
      obtain ⟨rfl, rfl⟩ := hp4
      have hT4 := has_setRow (cs := U8 r) hT3
      have hB4 : Below w2.heap.size w2 (w3.setRow w2.heap.size (U8 r).toArray) := below_row hB3 (Nat.le_refl _) _
      generalize w3.setRow w2.heap.size (U8 r).toArray = w4 at *
      have hB14 : Below w1.heap.size w1 w4 := hB2.trans (hB4.mono hB2.size)
      refine nil_ok (qx_seq (reg_seq ?_))
      refine seq_is hS (by decide) (runs_move rfl) (fun a1 hS => ?_)
      refine seq_is hS (by decide) (runs_move rfl) (fun a1 hS => ?_)
      refine seq_op hS (by decide) (runs_call (args := [.slice A ss.length c, .slice A1 (ofN l).length c1]) goes25 rfl (refProveM_any ss l _ _ w4 (hs1.kept hB14) (hx1.kept hB14) hrn hsz2 (by omega))) (fun v5 w5 a5 hp5 hS => ?_)
      obtain ⟨hQ5, hB5⟩ := hp5
      have hB15 : Below w1.heap.size w1 w5 := hB14.trans (hB5.mono hB14.size)
      have hT5 := hT4.below hB5 hT4.lt
      refine seq_is hS (by decide) (runs_assign rfl) (fun a1 hS => ?_)
      refine nil_ok (qx_seq (reg_seq ?_))
      refine seq_is hS (by decide) (runs_move rfl) (fun a1 hS => ?_)
      refine seq_is hS (by decide) (runs_move rfl) (fun a1 hS => ?_)
      refine seq_op hS (by decide) (runs_call (args := [.slice A ss.length c, .slice A1 (ofN l).length c1]) goes28 rfl (pick_any ss l _ _ w5 (hs1.kept hB15) (hx1.kept hB15) (fun x h => (hmem x h).2) (by omega))) (fun v6 w6 a6 hp6 hS => ?_)
      obtain ⟨hO6, hB6, hne6⟩ := hp6
      have hps : ∀ s ∈ l.map (fun x => ss.getD x ByteArray.empty), s.size ≤ 200 := fun s h => by
        obtain ⟨x, hxm, rfl⟩ := List.mem_map.1 h
        have hx' := (hmem x hxm).2
        rw [List.getD_eq_getElem?_getD, List.getElem?_eq_getElem hx']
        exact hsz _ (List.getElem_mem hx')
      have hpl : (l.map (fun x => ss.getD x ByteArray.empty)).length = l.length := by simp
      generalize l.map (fun x => ss.getD x ByteArray.empty) = pk at *
      have hsh : ∃ g c', v6 = .slice (some ⟨g, 0, none⟩) l.length c' := by
        rcases hO6.2 with ⟨rfl, _⟩ | ⟨g, cap, _, rfl, _⟩
        · exact absurd rfl hne6
        · exact ⟨_, _, rfl⟩
      obtain ⟨g6, c6, rfl⟩ := hsh
      have hl0 : 0 < l.length := by omega
      have hjl : i % l.length < l.length := Nat.mod_lt _ hl0
      have hc6 : w6.cell? ⟨g6, 0 + i % l.length, none⟩ = some (.string (pk.getD (i % l.length) ByteArray.empty)) := by
        rw [Nat.zero_add, hO6.cellAt (i % l.length) (by omega), List.getElem?_map, List.getElem?_eq_getElem (by omega), List.getD_eq_getElem?_getD, List.getElem?_eq_getElem (by omega)]; rfl
      have hg6 := hO6.lt g6 rfl
      refine seq_is hS (by decide) (runs_assign rfl) (fun a1 hS => ?_)
      refine nil_ok (qx_seq (reg_seq ?_))
      refine seq_is hS (by decide) (runs_move rfl) (fun a1 hS => ?_)
      refine seq_is hS (by decide) (runs_move rfl) (fun a1 hS => ?_)
      refine seq_is hS (by decide) (runs_convInt rfl rfl undInt (IntWalk.i64_in _ (by omega))) (fun a1 hS => ?_)
      refine seq_is hS (by decide) (runs_move rfl) (fun a1 hS => ?_)
      refine seq_is hS (by decide) (runs_len rfl undStrs) (fun a1 hS => ?_)
      refine seq_is hS (by decide) (runs_rem rfl rfl (by omega) (Int.tmod_eq_emod_of_nonneg (by omega))) (fun a1 hS => ?_)
      refine seq_is hS (by decide) (runs_move rfl) (fun a1 hS => ?_)
      refine seq_is hS (by decide) (runs_indexAddr (j := i % l.length) rfl rfl undStrs infStr1 rfl hjl) (fun a1 hS => ?_)
      refine seq_none hS (runs_store rfl rfl rfl infStr1 hc6 (by rw [Nat.zero_add]; exact hO6.frozenAt (i % l.length))) (fun v7 w7 a7 hp7 hS => ?_)
      obtain ⟨rfl, rfl⟩ := hp7
      rw [Nat.zero_add] at *
      have hO7 := (hO6.stored (i % l.length) (.string by_)).1
      have hB7 : Below w5.heap.size w5 (w6.setCell ⟨g6, i % l.length, none⟩ (.string by_)) := hB6.setCell (by simpa using hg6.1) _
      generalize w6.setCell ⟨g6, i % l.length, none⟩ (.string by_) = w7 at *
      rw [← List.map_set] at hO7
      have hS7 : Strs w7 (.slice (some ⟨g6, 0, none⟩) l.length c6) (pk.set (i % l.length) by_) := strs_own hO7 (by simp [hpl])
      have hqs : ∀ s ∈ pk.set (i % l.length) by_, s.size ≤ 200 := fun s h => by
        rcases List.mem_or_eq_of_mem_set h with h | rfl
        · exact hps s h
        · omega
      have hql : (pk.set (i % l.length) by_).length = l.length := by simp [hpl]
      generalize pk.set (i % l.length) by_ = qk at *
      have hB17 : Below w1.heap.size w1 w7 := hB15.trans (hB7.mono hB15.size)
      have hs7 := hs1.kept hB17
      have hx7 := hx1.kept hB17
      have hk7 := hk1.below hB17 hk1.pos
      have hQ7 := hQ5.kept hB7
      have hT7 := hT5.below hB7 hT5.lt
      have hple := parts_le' ss.length 0 l
      have hpq : (provesL (ss.map bl) l).length ≤ 21 := by unfold provesL; rw [List.length_map, List.length_map]; omega
      generalize provesL (ss.map bl) l = ps at *
      obtain ⟨A5, c5, rfl, _⟩ := id hQ7
      have hfalse : checkM r ss.length (ofN l) (((qk.drop 1).take (l.length - 1)).map bl) ps = false := by
        unfold checkM
        rw [if_neg]
        intro h
        have h2 := h.2.1
        rw [List.length_map, List.length_take, List.length_drop] at h2
        omega
      have hsub : ∀ w', Below w7.heap.size w7 w' → Strs w' (.slice (if c6 = 1 then some ⟨g6, 0, none⟩ else (some ⟨g6, 0, none⟩ : Option Addr).map (·.add (1 * 1))) (l.length - 1) (c6 - 1)) ((qk.drop 1).take (l.length - 1)) := fun w' hw => by
        have hh := hS7.kept hw
        rw [← hql] at hh ⊢
        exact strs_sub hh 1 (qk.length - 1) (by omega)
      have hll : (ofN l).length = l.length := by simp [ofN]
      have hl20 : (ofN l).length ≤ 1000 := by omega
      have hq20 : qk.length ≤ 1000 := by omega
      have hq1 : qk.length ≤ 100000 := by omega
      have hp1 : ps.length ≤ 100000 := by omega
      have hd1 : ((qk.drop 1).take (l.length - 1)).length ≤ 100000 := by simp; omega
      have hqs1 : ∀ s ∈ qk, s.size ≤ 100000 := fun s h => by have := hqs s h; omega
      have hqs9 : ∀ s ∈ qk, s.size ≤ 900 := fun s h => by have := hqs s h; omega
      have hqd : ∀ s ∈ (qk.drop 1).take (l.length - 1), s.size ≤ 100000 := fun s h => hqs1 s (List.mem_of_mem_drop (List.mem_of_mem_take h))
      have hl1 : 1 ≤ l.length := by omega
      clear hqs hps hpl hmem hlr h1 h2 hple hpq hsz hi hql
      refine nil_ok (qx_seq ?_)
      have hS := hS.only [(0, .slice A ss.length c), (1, .slice A1 (ofN l).length c1), (9, .pointer (some ⟨w2.heap.size, 0, none⟩)), (10, .slice A5 ps.length c5), (11, .slice (some ⟨g6, 0, none⟩) l.length c6)] ⟨rfl, rfl, rfl, rfl, rfl, trivial⟩
      refine reg_guard (fun w' => Below w7.heap.size w7 w') [.inl (.agg (U8 r).toArray), .inl (.slice A ss.length c), .inl (.int .i64 ((ss.length : Nat) : Int)), .inr (fun v _ => ∃ g, v = .slice (some ⟨g, 0, none⟩) 0 0), .inl (.slice A1 (ofN l).length c1), .inr (fun v w' => Ints w' v (ofN l)), .inr (fun v _ => ∃ g, v = .slice (some ⟨g, 0, none⟩) 0 0), .inl (.slice (some ⟨g6, 0, none⟩) l.length c6), .inr (fun v w' => Strs w' v qk), .inl (.slice A5 ps.length c5), .inl (.bool (checkM r ss.length (ofN l) (qk.map bl) ps)), .inl (.agg (U8 r).toArray), .inl (.slice A ss.length c), .inl (.int .i64 ((ss.length : Nat) : Int)), .inl (.slice A1 (ofN l).length c1), .inl (.slice (some ⟨g6, 0, none⟩) l.length c6), .inl (.slice A5 ps.length c5), .inl (.bool (checkM r ss.length (ofN l) (qk.map bl) ps)), .inl (.bool true), .inl (.bool true), .inl (.agg (U8 r).toArray), .inl (.slice A ss.length c), .inl (.int .i64 ((ss.length : Nat) : Int)), .inr (fun v _ => ∃ g, v = .slice (some ⟨g, 0, none⟩) 0 0), .inl (.slice A1 (ofN l).length c1), .inr (fun v w' => Ints w' v (ofN l)), .inl (.slice (some ⟨g6, 0, none⟩) l.length c6), .inl (.slice (if c6 = 1 then some ⟨g6, 0, none⟩ else (some ⟨g6, 0, none⟩ : Option Addr).map (·.add (1 * 1))) (l.length - 1) (c6 - 1)), .inl (.slice A5 ps.length c5), .inl (.bool false), .inl (.bool true), .inl (.bool true), .inl (.bool true)] 33 0 mixed rfl (by kernel_rfl) hS (Below.refl _ _) (fun _ h => h.drew) ?_
      refine hs_is rfl (fun w' hw => runs_loadRow rfl (hT7.below hw hT7.lt) undHash rfl (by rw [infHash]; simp [hrl])) ?_
      refine hs_is rfl (fun w' hw => runs_move rfl) ?_
      refine hs_is rfl (fun w' hw => runs_len rfl undStrs) ?_
      refine hs_pr rfl (fun _ _ _ h _ => h) (fun w' hw hq => (runs_buildNone undInts hi3).mono (by rintro v w2 ⟨rfl, rfl⟩; exact ⟨⟨_, rfl⟩, hw.alloc hw.size _, (Below.refl _ _).alloc (Nat.le_refl _) _⟩)) (fun v56 => ?_)
      refine hs_is rfl (fun w' hw => runs_move rfl) ?_
      refine hs_pr rfl (fun _ _ _ h hb => h.kept hb) (fun w' hw hq => (by obtain ⟨g, rfl⟩ := hq (3, _) List.mem_cons_self (by kernel_rfl); exact (copy_ints (hx7.kept hw) hl20 rfl rfl).mono (by rintro u w2 ⟨h1, h2⟩; exact ⟨h1, hw.trans (h2.mono hw.size), h2⟩))) (fun v58 => ?_)
      refine hs_pr rfl (fun _ _ _ h _ => h) (fun w' hw hq => (runs_buildNone undStrs hi9).mono (by rintro v w2 ⟨rfl, rfl⟩; exact ⟨⟨_, rfl⟩, hw.alloc hw.size _, (Below.refl _ _).alloc (Nat.le_refl _) _⟩)) (fun v59 => ?_)
      refine hs_is rfl (fun w' hw => runs_move rfl) ?_
      refine hs_pr rfl (fun _ _ _ h hb => h.kept hb) (fun w' hw hq => (by obtain ⟨g, rfl⟩ := hq (6, _) List.mem_cons_self (by kernel_rfl); exact (copy_strs (hS7.kept hw) hq20 rfl rfl).mono (by rintro u w2 ⟨h1, h2⟩; exact ⟨h1, hw.trans (h2.mono hw.size), h2⟩))) (fun v61 => ?_)
      refine hs_is rfl (fun w' hw => runs_move rfl) ?_
      refine hs_val rfl (fun w' hw hq => runs_call (args := [.agg (U8 r).toArray, .int .i64 ((ss.length : Nat) : Int), v58, v61, .slice A5 ps.length c5]) goes26 rfl (bool_post _ (checkM_any r ss.length (ofN l) qk ps v58 v61 _ w' hrl (hq (5, _) (List.mem_cons_of_mem _ (List.mem_cons_of_mem _ List.mem_cons_self)) (by kernel_rfl)) (hq (8, _) List.mem_cons_self (by kernel_rfl)) (hQ7.kept hw) hqs1 hp1 hq1 (hk7.below hw hk7.pos)) (fun _ h => ⟨hw.trans (h.mono hw.size), h⟩))) ?_
      refine hs_is rfl (fun w' hw => runs_loadRow rfl (hT7.below hw hT7.lt) undHash rfl (by rw [infHash]; simp [hrl])) ?_
      refine hs_is rfl (fun w' hw => runs_move rfl) ?_
      refine hs_is rfl (fun w' hw => runs_len rfl undStrs) ?_
      refine hs_is rfl (fun w' hw => runs_move rfl) ?_
      refine hs_is rfl (fun w' hw => runs_move rfl) ?_
      refine hs_is rfl (fun w' hw => runs_move rfl) ?_
      refine hs_val rfl (fun w' hw hq => runs_call (args := [.agg (U8 r).toArray, .int .i64 ((ss.length : Nat) : Int), .slice A1 (ofN l).length c1, .slice (some ⟨g6, 0, none⟩) l.length c6, .slice A5 ps.length c5]) goes29 rfl (bool_post _ (refCheckM_any r ss.length (ofN l) qk ps _ _ _ w' hrl hrb (hx7.kept hw) (hS7.kept hw) (hQ7.kept hw) hqs9 hl20) (fun _ h => ⟨hw.trans (h.mono hw.size), h⟩))) ?_
      refine hs_is rfl (fun w' hw => runs_eqBool (r := true) rfl rfl (beq_iff_eq.2 rfl)) ?_
      refine hs_is rfl (fun w' hw => runs_move rfl) ?_
      refine hs_yis rfl rfl (fun w' hw => runs_loadRow rfl (hT7.below hw hT7.lt) undHash rfl (by rw [infHash]; simp [hrl])) ?_
      refine hs_yis rfl rfl (fun w' hw => runs_move rfl) ?_
      refine hs_yis rfl rfl (fun w' hw => runs_len rfl undStrs) ?_
      refine hs_ypr rfl rfl (fun _ _ _ h _ => h) (fun w' hw hq => (runs_buildNone undInts hi3).mono (by rintro v w2 ⟨rfl, rfl⟩; exact ⟨⟨_, rfl⟩, hw.alloc hw.size _, (Below.refl _ _).alloc (Nat.le_refl _) _⟩)) (fun v76 => ?_)
      refine hs_yis rfl rfl (fun w' hw => runs_move rfl) ?_
      refine hs_ypr rfl rfl (fun _ _ _ h hb => h.kept hb) (fun w' hw hq => (by obtain ⟨g, rfl⟩ := hq (23, _) List.mem_cons_self (by kernel_rfl); exact (copy_ints (hx7.kept hw) hl20 rfl rfl).mono (by rintro u w2 ⟨h1, h2⟩; exact ⟨h1, hw.trans (h2.mono hw.size), h2⟩))) (fun v78 => ?_)
      refine hs_yis rfl rfl (fun w' hw => runs_move rfl) ?_
      refine hs_yis rfl rfl (fun w' hw => runs_sliceFromG (l := 1) (sz := 1) rfl rfl rfl undStrs infStr1 hl1) ?_
      refine hs_yis rfl rfl (fun w' hw => runs_move rfl) ?_
      refine hs_yval rfl rfl (fun w' hw hq => runs_call (args := [.agg (U8 r).toArray, .int .i64 ((ss.length : Nat) : Int), v78, .slice (if c6 = 1 then some ⟨g6, 0, none⟩ else (some ⟨g6, 0, none⟩ : Option Addr).map (·.add (1 * 1))) (l.length - 1) (c6 - 1), .slice A5 ps.length c5]) goes26 rfl (bool_post _ (by have := checkM_any r ss.length (ofN l) ((qk.drop 1).take (l.length - 1)) ps v78 _ _ w' hrl (hq (25, _) List.mem_cons_self (by kernel_rfl)) (hsub w' hw) (hQ7.kept hw) hqd hp1 hd1 (hk7.below hw hk7.pos); rwa [hfalse] at this) (fun _ h => ⟨hw.trans (h.mono hw.size), h⟩))) ?_
      refine hs_yis rfl rfl (fun w' hw => runs_not (b := false) rfl) ?_
      refine hs_is rfl (fun w' hw => runs_pick rfl rfl) ?_
      refine hs_is rfl (fun w' hw => runs_assign rfl) ?_
      refine (fun a8 w8 hS8 hB8 _ => ?_)
      refine wpAnyH_done (by kernel_rfl) ?_ _
      exact qx_ret (ret1 (t := 8) (by kernel_rfl) hS8 rfl ⟨rfl, hB1.trans ((hB17.trans (hB8.mono hB17.size)).mono hB1.size)⟩)
end Go.Proofs.YtdemoidmhmdgkaaDoor
