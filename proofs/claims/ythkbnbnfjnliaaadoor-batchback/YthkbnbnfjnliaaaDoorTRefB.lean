/- The document's own top and root, and Leaf, Node, Top, Root. Conditions: at most 20 leaves of 200 bytes. -/
import Derived.Test.YthkbnbnfjnliaaaDoorTRef
namespace Go.Proofs.YthkbnbnfjnliaaaDoor
open Go.RowKit
set_option maxRecDepth 100000

theorem strs_piece {w : World} {b o : Nat} {ss : List ByteArray} (hb : b < w.heap.size) (h : ∀ i, i < ss.length → w.cell? ⟨b, o + i, none⟩ = some (.string (ss.getD i ByteArray.empty))) (l n c : Nat) (hl : l + n ≤ ss.length) (hn : n ≤ c) (hm : c ≤ maxLen) : Strs w (.slice (some ⟨b, o + l, none⟩) n c) ((ss.drop l).take n) := by
  have hlen : ((ss.drop l).take n).length = n := by simp; omega
  refine ⟨_, c, by rw [hlen], by omega, hm, fun _ => ⟨b, o + l, rfl, hb, fun i hi => ?_⟩⟩
  rw [show o + l + i = o + (l + i) by omega, h (l + i) (by omega)]
  simp only [List.getD_eq_getElem?_getD, List.getElem?_take, List.getElem?_drop, if_pos (show i < n by omega)]
theorem bl2 : bl (⟨#[2]⟩ : ByteArray) = [2] := by kernel_rfl
theorem bl3 : bl (⟨#[3]⟩ : ByteArray) = [3] := by kernel_rfl
theorem one3 : (⟨#[3]⟩ : ByteArray).size = 1 := rfl
set_option maxRecDepth 100000 in
set_option maxHeartbeats 1000000 in
theorem refTop_any : ∀ (n : Nat) (ss : List ByteArray) (v : Value) (w : World), ss.length = n → Strs w v ss → (∀ s ∈ ss, s.size ≤ 900) → n ≤ 1000000 →
    Calls Tryd.prog 42 #[v] w fun e w' => e = .returned (.string (S (Tree.top (ss.map bl)))) ∧ Below w.heap.size w w' := by
  intro n
  induction n using Nat.strongRecOn with
  | _ n ih =>
    intro ss v w hn hs hsz hnm
    refine calls_qx (args := [v]) 27 Tryd.func42 rfl (by kernel_rfl) (by simp) (fun a hS => ?_)
    obtain ⟨A, c, rfl, hc1, hc2, hA⟩ := hs
    refine qx_seq (reg_seq ?_)
    refine seq_is hS (by decide) (runs_assign rfl) (fun a1 hS => ?_)
    refine nil_ok (qx_seq (qx_seq (reg_seq ?_)))
    refine seq_is hS (by decide) (runs_move rfl) (fun a1 hS => ?_)
    refine seq_is hS (by decide) (runs_len rfl undStrs) (fun a1 hS => ?_)
    by_cases h0 : ss.length = 0
    · refine seq_is hS (by decide) (runs_eql (r := true) rfl rfl (by rw [h0]; rfl)) (fun a1 hS => ?_)
      refine nil_ok (wp_cond_true (hS.eval rfl) (qx_seq (reg_seq ?_)))
      have hps : ss = [] := List.length_eq_zero_iff.1 h0
      have ht : Tree.top (ss.map bl) = Sha.sha [2] := by rw [hps]; exact Tree.top_nil
      have hof := refof_any ⟨#[2]⟩ w (by decide)
      rw [bl2, ← ht] at hof
      refine seq_op hS (by decide) (runs_call (args := [.string ⟨#[2]⟩]) goes58 rfl (str_post (fun w' => Below w.heap.size w w') hof (fun _ h => h))) (fun v1 w1 a1 hp1 hS => ?_)
      obtain ⟨rfl, hB1⟩ := hp1
      refine seq_is hS (by decide) (runs_assign rfl) (fun a1 hS => ?_)
      exact nil_ok (qx_ret (ret1 (t := 2) (by kernel_rfl) hS rfl ⟨rfl, hB1⟩))
    · refine seq_is hS (by decide) (runs_eql (r := false) rfl rfl (by rw [beq_eq_false_iff_ne]; omega)) (fun a1 hS => ?_)
      refine nil_ok (wp_cond_false (hS.eval rfl) (wp_skip ?_))
      obtain ⟨b, o, rfl, hb, hcell⟩ := hA (by omega)
      refine qx_seq (qx_seq (reg_seq ?_))
      refine seq_is hS (by decide) (runs_move rfl) (fun a1 hS => ?_)
      refine seq_is hS (by decide) (runs_len rfl undStrs) (fun a1 hS => ?_)
      by_cases h1 : ss.length = 1
      · refine seq_is hS (by decide) (runs_eql (r := true) rfl rfl (by rw [h1]; rfl)) (fun a1 hS => ?_)
        refine nil_ok (wp_cond_true (hS.eval rfl) (qx_seq (reg_seq ?_)))
        obtain ⟨s, hss⟩ : ∃ s, ss = [s] := List.length_eq_one_iff.1 h1
        have ht : Tree.top (ss.map bl) = Tree.leaf (bl s) := by rw [hss]; exact Tree.top_one _
        have hc0 := hcell 0 (by omega)
        rw [hss] at hc0
        have hleaf := refLeaf_any s w (hsz s (by rw [hss]; simp))
        rw [← ht] at hleaf
        refine seq_is hS (by decide) (runs_move rfl) (fun a1 hS => ?_)
        refine seq_is hS (by decide) (runs_indexAddr (j := 0) rfl rfl undStrs infStr1 rfl (by omega)) (fun a1 hS => ?_)
        refine seq_is hS (by decide) (runs_load rfl (by kernel_rfl) hc0) (fun a1 hS => ?_)
        refine seq_op hS (by decide) (runs_call (args := [.string s]) goes59 rfl (str_post (fun w' => Below w.heap.size w w') hleaf (fun _ h => h))) (fun v1 w1 a1 hp1 hS => ?_)
        obtain ⟨rfl, hB1⟩ := hp1
        refine seq_is hS (by decide) (runs_assign rfl) (fun a1 hS => ?_)
        exact nil_ok (qx_ret (ret1 (t := 2) (by kernel_rfl) hS rfl ⟨rfl, hB1⟩))
      · refine seq_is hS (by decide) (runs_eql (r := false) rfl rfl (by rw [beq_eq_false_iff_ne]; omega)) (fun a1 hS => ?_)
        refine nil_ok (wp_cond_false (hS.eval rfl) (wp_skip ?_))
        have h2 : 2 ≤ ss.length := by omega
        have hhl := Tree.half_lt h2
        have hhp := Tree.half_pos ss.length
        have ht : Tree.top (ss.map bl) = Tree.node (Tree.top ((ss.map bl).take (Tree.half ss.length))) (Tree.top ((ss.map bl).drop (Tree.half ss.length))) := by
          have := Tree.top_more (l := ss.map bl) (by simpa using h2)
          rwa [List.length_map] at this
        have hhalf := refHalf_any ss.length w h2 (by omega)
        generalize Tree.half ss.length = k at *
        refine qx_seq (reg_seq ?_)
        refine seq_is hS (by decide) (runs_move rfl) (fun a1 hS => ?_)
        refine seq_is hS (by decide) (runs_len rfl undStrs) (fun a1 hS => ?_)
        refine seq_is hS (by decide) (runs_call (args := [.int .i64 (ss.length : Int)]) goes60 rfl hhalf) (fun a1 hS => ?_)
        refine seq_is hS (by decide) (runs_assign rfl) (fun a1 hS => ?_)
        have hp1 := strs_piece hb hcell 0 k c (by omega) (by omega) hc2
        have hp2 := strs_piece hb hcell k (ss.length - k) (c - k) (by omega) (by omega) (by omega)
        rw [Nat.add_zero, List.drop_zero] at hp1
        rw [List.take_of_length_le (by simp)] at hp2
        have tl1 := top_len ((ss.map bl).take k)
        have tl2 := top_len ((ss.map bl).drop k)
        have c1 : ∀ w', Below w.heap.size w w' → Calls Tryd.prog 42 [Value.slice (some ⟨b, o, none⟩) k c].toArray w' fun e w2 => ∃ v, e = .returned v ∧ v = .string (S (Tree.top ((ss.map bl).take k))) ∧ Below w.heap.size w w2 ∧ Below w'.heap.size w' w2 := fun w' hB' => by
          have := ih k (by omega) (ss.take k) _ w' (by simp; omega) (hp1.kept hB') (fun s h => hsz s (List.mem_of_mem_take h)) (by omega)
          rw [List.map_take] at this
          exact str_post _ this (fun _ h => ⟨hB'.trans (h.mono hB'.size), h⟩)
        have c2 : ∀ w', Below w.heap.size w w' → Calls Tryd.prog 42 [Value.slice (some ⟨b, o + k, none⟩) (ss.length - k) (c - k)].toArray w' fun e w2 => ∃ v, e = .returned v ∧ v = .string (S (Tree.top ((ss.map bl).drop k))) ∧ Below w.heap.size w w2 ∧ Below w'.heap.size w' w2 := fun w' hB' => by
          have := ih (ss.length - k) (by omega) (ss.drop k) _ w' (by simp) (hp2.kept hB') (fun s h => hsz s (List.mem_of_mem_drop h)) (by omega)
          rw [List.map_drop] at this
          exact str_post _ this (fun _ h => ⟨hB'.trans (h.mono hB'.size), h⟩)
        have c3 : ∀ w', Below w.heap.size w w' → Calls Tryd.prog 61 [Value.string (S (Tree.top ((ss.map bl).take k))), .string (S (Tree.top ((ss.map bl).drop k)))].toArray w' fun e w2 => ∃ v, e = .returned v ∧ v = .string (S (Tree.top (ss.map bl))) ∧ Below w.heap.size w w2 ∧ Below w'.heap.size w' w2 := fun w' hB' => by
          have := refNode_any (S (Tree.top ((ss.map bl).take k))) (S (Tree.top ((ss.map bl).drop k))) w' (by rw [S_size, S_size]; omega)
          rw [bl_S (top_bytes _), bl_S (top_bytes _), ← ht] at this
          exact str_post _ this (fun _ h => ⟨hB'.trans (h.mono hB'.size), h⟩)
        refine nil_ok (qx_seq (reg_guard (fun w' => Below w.heap.size w w') [.inl (.slice (some ⟨b, o, none⟩) ss.length c), .inl (.int .i64 (k : Int)), .inl (.slice (some ⟨b, o, none⟩) k c), .inl (.string (S (Tree.top ((ss.map bl).take k)))),
          .inl (.slice (some ⟨b, o, none⟩) ss.length c), .inl (.int .i64 (k : Int)), .inl (.slice (some ⟨b, o + k, none⟩) (ss.length - k) (c - k)), .inl (.string (S (Tree.top ((ss.map bl).drop k)))), .inl (.string (S (Tree.top (ss.map bl)))), .inl (.string (S (Tree.top (ss.map bl))))] 10 0 mixed rfl (by kernel_rfl) hS (Below.refl _ _) (fun _ h => h.drew) ?_))
        refine hs_is rfl (fun w' hw => runs_move rfl) ?_
        refine hs_is rfl (fun w' hw => runs_move rfl) ?_
        refine hs_is rfl (fun w' hw => runs_sliceTo rfl rfl rfl undStrs rfl (by omega)) ?_
        refine hs_val rfl (fun w' hw _ => runs_call (args := [.slice (some ⟨b, o, none⟩) k c]) goes42 rfl (c1 w' hw)) ?_
        refine hs_is rfl (fun w' hw => runs_move rfl) ?_
        refine hs_is rfl (fun w' hw => runs_move rfl) ?_
        refine hs_is rfl (fun w' hw => runs_sliceFrom rfl rfl rfl undStrs infStr1 (by omega) (by omega)) ?_
        refine hs_val rfl (fun w' hw _ => runs_call (args := [.slice (some ⟨b, o + k, none⟩) (ss.length - k) (c - k)]) goes42 rfl (c2 w' hw)) ?_
        refine hs_val rfl (fun w' hw _ => runs_call (args := [.string (S (Tree.top ((ss.map bl).take k))), .string (S (Tree.top ((ss.map bl).drop k)))]) goes61 rfl (c3 w' hw)) ?_
        refine hs_is rfl (fun w' hw => runs_assign rfl) ?_
        refine (fun a5 w5 hS5 hB5 _ => ?_)
        refine wpAnyH_done (by kernel_rfl) ?_ _
        exact qx_ret (ret1 (t := 2) (by kernel_rfl) hS5 rfl ⟨rfl, hB5⟩)
theorem root_len (n : Nat) (t : List Nat) : (Tree.root n t).length = 32 := Sha.Holds.sumText
set_option maxRecDepth 100000 in
theorem refRoot_any (n : Nat) (t : List Nat) (w : World) (hn : n < 9223372036854775808) (ht : t.length = 32) (hb : Sha.Bytes t) :
    Calls Tryd.prog 41 #[.int .i64 (n : Int), .string (S t)] w fun e w' => e = .returned (.agg (U8 (Tree.root n t)).toArray) ∧ Below w.heap.size w w' := by
  refine calls_qx (args := [.int .i64 (n : Int), .string (S t)]) 13 Tryd.func41 rfl (by kernel_rfl) (by simp) (fun a hS => ?_)
  have hl10 := Wire.num_len10 n (by omega)
  have hst : (S t).size = 32 := by rw [S_size, ht]
  have hsn : (S (Wire.num n)).size ≤ 10 := by rw [S_size]; exact hl10
  obtain ⟨z, hz⟩ : ∃ z : ByteArray, ⟨#[3]⟩ ++ S (Wire.num n) = z := ⟨_, rfl⟩
  obtain ⟨u, hu⟩ : ∃ u : ByteArray, z ++ S t = u := ⟨_, rfl⟩
  have hzz : z.size = 1 + (S (Wire.num n)).size := by rw [← hz, ByteArray.size_append, one3]
  have huz : u.size ≤ 1000 := by rw [← hu, ByteArray.size_append, hzz]; omega
  have hbl : bl u = 3 :: (Wire.num n ++ t) := by rw [← hu, ← hz, bl_append, bl_append, bl3, bl_S (Wire.num_bytes n), bl_S hb]; rfl
  refine qx_seq (reg_seq ?_)
  refine seq_op hS (by decide) alloc_hash (fun v1 w1 a1 hp1 hS => ?_)
  obtain ⟨rfl, rfl⟩ := hp1
  have hH1 := Has.new w 35 (U8 (List.replicate 32 0))
  have hB1 : Below w.heap.size w (w.alloc (.cells (U8 (List.replicate 32 0)).toArray 35)) := (Below.refl _ _).alloc (Nat.le_refl _) _
  generalize w.alloc (.cells (U8 (List.replicate 32 0)).toArray 35) = w1 at *
  refine nil_ok (qx_seq (reg_seq ?_))
  refine seq_is hS (by decide) (runs_move rfl) (fun a1 hS => ?_)
  refine seq_is hS (by decide) (runs_convInt rfl rfl undU64 (IntWalk.u64_in _ (by omega))) (fun a1 hS => ?_)
  refine seq_op hS (by decide) (runs_call (args := [.int .u64 (n : Int)]) goes44 rfl (str_post (fun w' => Below w1.heap.size w1 w') (refNum_any n w1 (by omega)) (fun _ h => h))) (fun v2 w2 a2 hp2 hS => ?_)
  obtain ⟨rfl, hB2⟩ := hp2
  refine seq_is hS (by decide) (runs_cat rfl rfl hz (by rw [one3]; omega)) (fun a1 hS => ?_)
  refine seq_is hS (by decide) (runs_move rfl) (fun a1 hS => ?_)
  refine seq_is hS (by decide) (runs_cat rfl rfl hu (by omega)) (fun a1 hS => ?_)
  have hof := refof_any u w2 huz
  rw [hbl] at hof
  clear hz hu hbl
  refine seq_op hS (by decide) (runs_call (args := [.string u]) goes58 rfl (str_post (fun w' => Below w2.heap.size w2 w') hof (fun _ h => h))) (fun v3 w3 a3 hp3 hS => ?_)
  obtain ⟨rfl, hB3⟩ := hp3
  have hlen := root_len n t
  refine seq_op hS (by decide) (runs_call (args := [.string (S (Tree.root n t))]) goes57 rfl (hash_post (fun w' => Below w3.heap.size w3 w') (refSum_any (Tree.root n t) w3 hlen (sha_bytes _)) (fun _ h => h))) (fun v4 w4 a4 hp4 hS => ?_)
  obtain ⟨rfl, hB4⟩ := hp4
  have hBw : Below w1.heap.size w1 w4 := (hB2.trans (hB3.mono hB2.size)).trans (hB4.mono (Nat.le_trans hB2.size hB3.size))
  have hH4 := hH1.below hBw hH1.lt
  refine seq_none hS (runs_storeRow rfl rfl hH4 (by simp [hlen]) (agg_all _) (by rw [infHash]; simp [hlen])) (fun v6 w6 a6 hp6 hS => ?_)
  obtain ⟨rfl, rfl⟩ := hp6
  exact nil_ok (qx_ret (retRow (t := 0) (p := 4) (by kernel_rfl) hS rfl (has_setRow (cs := U8 (Tree.root n t)) hH4) rfl undHash rfl (by rw [infHash]; simp [hlen]) ⟨rfl, below_row (hB1.trans (hBw.mono hB1.size)) (Nat.le_refl _) _⟩))
set_option maxRecDepth 100000 in
theorem refRootH_any (ss : List ByteArray) (v : Value) (w : World) (hs : Strs w v ss) (hsz : ∀ s ∈ ss, s.size ≤ 900) (hn : ss.length ≤ 1000000) : Calls Tryd.prog 26 #[v] w fun e w' => e = .returned (.agg (U8 (Tree.root ss.length (Tree.top (ss.map bl)))).toArray) ∧ Below w.heap.size w w' := by
  refine calls_qx (args := [v]) 8 Tryd.func26 rfl (by kernel_rfl) (by simp) (fun a hS => ?_)
  refine qx_seq (reg_seq ?_)
  refine seq_op hS (by decide) alloc_hash (fun v1 w1 a1 hp1 hS => ?_)
  obtain ⟨rfl, rfl⟩ := hp1
  have hH1 := Has.new w 35 (U8 (List.replicate 32 0))
  have hB1 : Below w.heap.size w (w.alloc (.cells (U8 (List.replicate 32 0)).toArray 35)) := (Below.refl _ _).alloc (Nat.le_refl _) _
  generalize w.alloc (.cells (U8 (List.replicate 32 0)).toArray 35) = w1 at *
  have htop := refTop_any ss.length ss v w1 rfl (hs.kept hB1) hsz hn
  obtain ⟨A, c, rfl, _⟩ := hs
  refine nil_ok (qx_seq (reg_seq ?_))
  refine seq_is hS (by decide) (runs_move rfl) (fun a1 hS => ?_)
  refine seq_is hS (by decide) (runs_len rfl undStrs) (fun a1 hS => ?_)
  refine seq_is hS (by decide) (runs_move rfl) (fun a1 hS => ?_)
  refine seq_op hS (by decide) (runs_call (args := [.slice A ss.length c]) goes42 rfl (str_post (fun w' => Below w1.heap.size w1 w') htop (fun _ h => h))) (fun v3 w3 a3 hp3 hS => ?_)
  obtain ⟨rfl, hB3⟩ := hp3
  have hlen := root_len ss.length (Tree.top (ss.map bl))
  refine seq_op hS (by decide) (runs_call (args := [.int .i64 (ss.length : Int), .string (S (Tree.top (ss.map bl)))]) goes41 rfl (hash_post (fun w' => Below w3.heap.size w3 w') (refRoot_any ss.length _ w3 (by omega) (top_len _) (top_bytes _)) (fun _ h => h))) (fun v4 w4 a4 hp4 hS => ?_)
  obtain ⟨rfl, hB4⟩ := hp4
  have hBw : Below w1.heap.size w1 w4 := hB3.trans (hB4.mono hB3.size)
  have hH4 := hH1.below hBw hH1.lt
  refine seq_none hS (runs_storeRow rfl rfl hH4 (by simp [hlen]) (agg_all _) (by rw [infHash]; simp [hlen])) (fun v6 w6 a6 hp6 hS => ?_)
  obtain ⟨rfl, rfl⟩ := hp6
  exact nil_ok (qx_ret (retRow (t := 0) (p := 2) (by kernel_rfl) hS rfl (has_setRow (cs := U8 (Tree.root ss.length (Tree.top (ss.map bl)))) hH4) rfl undHash rfl (by rw [infHash]; simp [hlen]) ⟨rfl, below_row (hB1.trans (hBw.mono hB1.size)) (Nat.le_refl _) _⟩))
end Go.Proofs.YthkbnbnfjnliaaaDoor
