/- The document's own Deep, up, Check; how slices of sums come in; the walk of TreeChecks. Conditions: the table of constants lies as it was laid; at most 40 sums, a leaf of at most 200 bytes. -/
import Derived.Test.YtdemoidmhmdgkaaDoorTRefB
namespace Go.Proofs.YtdemoidmhmdgkaaDoor
open Go.RowKit
set_option maxRecDepth 100000

theorem goes24 : Goes Tryd.prog 24 := goes_of Tryd.func24 (by kernel_rfl) rfl
theorem goes16 : Goes Tryd.prog 16 := goes_of Tryd.func16 (by kernel_rfl) rfl
theorem goes41 : Goes Tryd.prog 41 := goes_of Tryd.func41 (by kernel_rfl) rfl
def shift (s : Nat) (x : Nat × Nat × Bool) : Nat × Nat × Bool := (x.1 + s, x.2.1 + s, x.2.2)
theorem path_shift (s : Nat) : ∀ (n first at_ : Nat), Tree.path (first + s) n (at_ + s) = (Tree.path first n at_).map (shift s) := by
  intro n
  induction n using Nat.strongRecOn with
  | _ n ih =>
    intro first at_
    by_cases h : n < 2
    · rw [Tree.path_small h, Tree.path_small h]; rfl
    · have h1 := Tree.half_lt (n := n) (by omega)
      have h2 := Tree.half_pos n
      by_cases ha : at_ < first + Tree.half n
      · rw [Tree.path_left (by omega) ha, Tree.path_left (by omega) (show at_ + s < first + s + Tree.half n by omega), ih _ h1, List.map_append]
        simp [shift, Nat.add_right_comm]
      · rw [Tree.path_right (by omega) ha, Tree.path_right (by omega) (show ¬ at_ + s < first + s + Tree.half n by omega), show first + s + Tree.half n = first + Tree.half n + s by omega, ih _ (by omega), List.map_append]
        simp [shift]
theorem path_one {n at_ : Nat} (h : 2 ≤ n) : 0 < (Tree.path 0 n at_).length := by
  by_cases ha : at_ < 0 + Tree.half n
  · rw [Tree.path_left h ha]; simp
  · rw [Tree.path_right h ha]; simp
theorem path_l {n p : Nat} (h : 2 ≤ n) (hp : p < Tree.half n) : Tree.path 0 n p = Tree.path 0 (Tree.half n) p ++ [(Tree.half n, n, false)] := by
  rw [Tree.path_left h (by omega), Nat.zero_add, Nat.zero_add]
theorem path_r {n p : Nat} (h : 2 ≤ n) (hp : ¬ p < Tree.half n) : Tree.path 0 n p = (Tree.path 0 (n - Tree.half n) (p - Tree.half n)).map (shift (Tree.half n)) ++ [(0, Tree.half n, true)] := by
  rw [Tree.path_right h (by omega), ← path_shift, Nat.zero_add, show p - Tree.half n + Tree.half n = p by omega]
theorem deepZ_nat {m p : Nat} (hm : m ≤ 1073741824) (hp : p < m) : deepZ (m : Int) (p : Int) = (Tree.path 0 m p).length := by
  unfold deepZ
  rw [if_neg (by simp [thereB]; omega)]
  simp
/- up -/
theorem ups_take : ∀ (xs : List (Nat × Nat × Bool)) (hs : List (List Nat)) (t : List Nat) (n : Nat), xs.length ≤ n → ups t xs (hs.take n) = ups t xs hs
  | [], _, _, _, _ => rfl
  | _ :: _, [], _, _, _ => by simp
  | x :: xs, h :: hs, t, n + 1, hl => by
    rw [List.take_succ_cons, ups, ups]
    exact ups_take xs hs _ n (by simpa using hl)
theorem ups_shift (s : Nat) : ∀ (xs : List (Nat × Nat × Bool)) (hs : List (List Nat)) (t : List Nat), ups t (xs.map (shift s)) hs = ups t xs hs
  | [], _, _ => rfl
  | _ :: _, [], _ => rfl
  | x :: xs, h :: hs, t => by
    rw [List.map_cons, ups, ups]
    exact ups_shift s xs hs _
theorem hashes_take {w : World} {b o c : Nat} {hs : List (List Nat)} (h : Hashes w (.slice (some ⟨b, o, none⟩) hs.length c) hs) (hb : b < w.heap.size) (hr : w.rangeAt b o (U8 hs.flatten)) (n : Nat) (hn : n ≤ hs.length) : Hashes w (.slice (some ⟨b, o, none⟩) n c) (hs.take n) := by
  obtain ⟨A, c', hv, h1, h2, h3, _⟩ := h
  simp only [Value.slice.injEq] at hv
  obtain ⟨_, _, rfl⟩ := hv
  have hl : (hs.take n).length = n := by simp; omega
  refine ⟨_, c, by rw [hl], by omega, h2, fun h hh => h3 h (List.mem_of_mem_take hh), fun _ => ⟨b, o, rfl, hb, fun j v hv => hr j v ?_⟩⟩
  have hsp : hs.flatten = (hs.take n).flatten ++ (hs.drop n).flatten := by rw [← List.flatten_append, List.take_append_drop]
  rw [hsp]
  unfold U8 at hv ⊢
  rw [List.map_append, List.getElem?_append_left (List.getElem?_eq_some_iff.1 hv).1]
  exact hv
theorem hash_mid {w : World} {b o : Nat} {hs : List (List Nat)} (hra : w.rangeAt b o (U8 hs.flatten)) (hok : ∀ h ∈ hs, h.length = 32 ∧ Sha.Bytes h) (i : Nat) (hi : i < hs.length) : w.rangeAt b (o + i * 32) (U8 (hs.getD i [])) := by
  have h1 := range_sub hra (32 * i) 32
  have h2 := flatten_get hs i (fun h hh => (hok h hh).1) hi
  have h3 : ((U8 hs.flatten).drop (32 * i)).take 32 = U8 (hs.getD i []) := by rw [← h2]; simp [U8, List.map_take, List.map_drop]
  rw [h3, show 32 * i = i * 32 by omega] at h1
  exact h1
/-- What comes of the way up. -/
def UpOk (s : List Nat) (m p : Nat) (hs : List (List Nat)) (t : ByteArray) : Prop := t.size ≤ 32 ∧ (hs.length = (Tree.path 0 m p).length → t = S (ups (Tree.leaf s) (Tree.path 0 m p) hs))
def upB (m p : Nat) (hs : List (List Nat)) : Bool := hs.length == (Tree.path 0 m p).length
set_option maxRecDepth 100000 in
set_option maxHeartbeats 2000000 in
theorem refUp_any (s : ByteArray) (hsz : s.size ≤ 900) : ∀ (m p : Nat) (pv : Value) (hs : List (List Nat)) (w : World), p < m → m ≤ 1073741824 → Hashes w pv hs → hs.length ≤ 1000 →
    Calls Tryd.prog 41 [Value.int .i64 (m : Int), .int .i64 (p : Int), .string s, pv].toArray w fun e w' => ∃ v, e = .returned v ∧ (∃ t, v = .tuple #[.string t, .bool (upB m p hs)] ∧ UpOk (bl s) m p hs t) ∧ Below w.heap.size w w' := by
  intro m
  induction m using Nat.strongRecOn with
  | _ m ih =>
    intro p pv hs w hp hm hH hl
    refine calls_qx (args := [.int .i64 (m : Int), .int .i64 (p : Int), .string s, pv]) 75 Tryd.func41 rfl (by kernel_rfl) (by simp) (fun a hS => ?_)
    have hH0 := hH
    obtain ⟨A, c, rfl, hc1, hc2, hok, hA⟩ := hH0
    refine qx_seq (reg_seq ?_)
    refine seq_is hS (by decide) (runs_assign rfl) (fun a1 hS => ?_)
    refine seq_is hS (by decide) (runs_assign rfl) (fun a1 hS => ?_)
    refine nil_ok (qx_seq (qx_seq (reg_seq ?_)))
    refine seq_is hS (by decide) (runs_move rfl) (fun a1 hS => ?_)
    by_cases h1 : m = 1
    · have hpt : Tree.path 0 m p = [] := Tree.path_small (by omega)
      refine seq_is hS (by decide) (runs_eql (r := true) rfl rfl (by rw [h1]; rfl)) (fun a1 hS => ?_)
      refine nil_ok (wp_cond_true (hS.eval rfl) (qx_seq (reg_seq ?_)))
      refine seq_is hS (by decide) (runs_move rfl) (fun a1 hS => ?_)
      refine seq_op hS (by decide) (runs_call (args := [.string s]) goes74 rfl (str_post (fun w' => Below w.heap.size w w') (refLeaf_any s w hsz) (fun _ h => h))) (fun v1 w1 a1 hp1 hS => ?_)
      obtain ⟨rfl, hB1⟩ := hp1
      refine seq_is hS (by decide) (runs_move rfl) (fun a1 hS => ?_)
      refine seq_is hS (by decide) (runs_len rfl undHashes) (fun a1 hS => ?_)
      refine seq_is hS (by decide) (runs_eql (r := upB m p hs) rfl rfl (by rw [upB, hpt, Bool.eq_iff_iff, beq_iff_eq, beq_iff_eq, List.length_nil]; omega)) (fun a1 hS => ?_)
      refine seq_is hS (by decide) (runs_assign rfl) (fun a1 hS => ?_)
      refine seq_is hS (by decide) (runs_assign rfl) (fun a1 hS => ?_)
      exact nil_ok (qx_ret (ret2 (t := 8) (u := 9) (by kernel_rfl) hS rfl rfl ⟨_, rfl, ⟨_, rfl, by rw [S_size, Tree.leaf_len]; omega, fun _ => by rw [hpt]; rfl⟩, hB1⟩))
    · have hm2 : 2 ≤ m := by omega
      have hpo := path_one (at_ := p) hm2
      refine seq_is hS (by decide) (runs_eql (r := false) rfl rfl (by rw [beq_eq_false_iff_ne]; omega)) (fun a1 hS => ?_)
      refine nil_ok (wp_cond_false (hS.eval rfl) (wp_skip ?_))
      refine qx_seq (qx_seq (reg_seq ?_))
      refine seq_is hS (by decide) (runs_move rfl) (fun a1 hS => ?_)
      refine seq_is hS (by decide) (runs_len rfl undHashes) (fun a1 hS => ?_)
      by_cases h0 : hs.length = 0
      · refine seq_is hS (by decide) (runs_eql (r := true) rfl rfl (by rw [h0]; rfl)) (fun a1 hS => ?_)
        refine nil_ok (wp_cond_true (hS.eval rfl) (qx_seq (reg_seq ?_)))
        refine seq_is hS (by decide) (runs_assign rfl) (fun a1 hS => ?_)
        refine seq_is hS (by decide) (runs_assign rfl) (fun a1 hS => ?_)
        have hub : upB m p hs = false := by rw [upB, h0, beq_eq_false_iff_ne]; omega
        exact nil_ok (qx_ret (ret2 (t := 8) (u := 9) (by kernel_rfl) hS rfl rfl ⟨_, rfl, ⟨_, by rw [hub], by decide, fun h => by omega⟩, Below.refl _ _⟩))
      · refine seq_is hS (by decide) (runs_eql (r := false) rfl rfl (by rw [beq_eq_false_iff_ne]; omega)) (fun a1 hS => ?_)
        refine nil_ok (wp_cond_false (hS.eval rfl) (wp_skip ?_))
        obtain ⟨b, o, rfl, hb, hra⟩ := hA (by omega)
        have hhl := Tree.half_lt hm2
        have hhp := Tree.half_pos m
        obtain ⟨n, hn⟩ : ∃ n, hs.length = n + 1 := ⟨hs.length - 1, by omega⟩
        obtain ⟨x, hx⟩ : ∃ x, x = hs.getD n [] := ⟨_, rfl⟩
        have hxm : x ∈ hs := by
          rw [hx, List.getD_eq_getElem?_getD, List.getElem?_eq_getElem (by omega)]
          exact List.getElem_mem (by omega)
        obtain ⟨hxl, hxb⟩ := hok x hxm
        have hrx : w.rangeAt b (o + n * 32) (U8 x) := by rw [hx]; exact hash_mid hra hok n (by omega)
        have hHt := hashes_take hH hb hra n (by omega)
        have htl : (hs.take n).length = n := by simp; omega
        refine qx_seq (reg_seq ?_)
        refine seq_is hS (by decide) (runs_move rfl) (fun a1 hS => ?_)
        refine seq_is hS (by decide) (runs_call (args := [.int .i64 (m : Int)]) goes75 rfl (refHalf_any m w hm2 (by omega))) (fun a1 hS => ?_)
        refine seq_is hS (by decide) (runs_assign rfl) (fun a1 hS => ?_)
        refine nil_ok (qx_seq (reg_seq ?_))
        refine seq_is hS (by decide) (runs_move rfl) (fun a1 hS => ?_)
        refine seq_is hS (by decide) (runs_move rfl) (fun a1 hS => ?_)
        refine seq_is hS (by decide) (runs_len rfl undHashes) (fun a1 hS => ?_)
        refine seq_is hS (by decide) (runs_sub rfl rfl ((IntWalk.i64_in _ (by omega)).trans (show _ = (n : Int) by omega))) (fun a1 hS => ?_)
        refine seq_is hS (by decide) (runs_indexAddrN (j := n) rfl rfl undHashes infHash rfl (by omega)) (fun a1 hS => ?_)
        refine seq_is hS (by decide) (runs_loadMid rfl hrx undHash rfl (by rw [infHash, U8_length, hxl])) (fun a1 hS => ?_)
        refine seq_op hS (by decide) alloc_hash (fun v2 w1 a1 hp1 hS => ?_)
        obtain ⟨rfl, rfl⟩ := hp1
        have hH1 := Has.new w 26 (U8 (List.replicate 32 0))
        have hB1 : Below w.heap.size w (w.alloc (.cells (U8 (List.replicate 32 0)).toArray 26)) := (Below.refl _ _).alloc (Nat.le_refl _) _
        generalize w.alloc (.cells (U8 (List.replicate 32 0)).toArray 26) = w1 at *
        refine seq_none hS (runs_storeRow rfl rfl hH1 (by simp [hxl]) (agg_all _) (by rw [infHash]; simp [hxl])) (fun v3 w2 a2 hp2 hS => ?_)
        obtain ⟨rfl, rfl⟩ := hp2
        have hX2 := has_setRow (cs := U8 x) hH1
        have hB2 : Below w.heap.size w (w1.setRow w.heap.size (U8 x).toArray) := below_row hB1 (Nat.le_refl _) _
        generalize w1.setRow w.heap.size (U8 x).toArray = w2 at *
        refine nil_ok (qx_seq (qx_seq (reg_seq ?_)))
        refine seq_is hS (by decide) (runs_move rfl) (fun a1 hS => ?_)
        refine seq_is hS (by decide) (runs_move rfl) (fun a1 hS => ?_)
        by_cases hph : p < Tree.half m
        · have hpath := path_l hm2 hph
          have hub : upB (Tree.half m) p (hs.take n) = upB m p hs := by
            rw [upB, upB, hpath, htl, hn, Bool.eq_iff_iff, beq_iff_eq, beq_iff_eq]; simp
          have hc := ih (Tree.half m) (by omega) p _ (hs.take n) w2 hph (by omega) (hHt.kept hB2) (by omega)
          rw [hub] at hc
          refine seq_is hS (by decide) (runs_lss (r := true) rfl rfl (by rw [decide_eq_true_eq]; omega)) (fun a1 hS => ?_)
          refine nil_ok (wp_cond_true (hS.eval rfl) (qx_seq (reg_seq ?_)))
          refine seq_is hS (by decide) (runs_move rfl) (fun a1 hS => ?_)
          refine seq_is hS (by decide) (runs_move rfl) (fun a1 hS => ?_)
          refine seq_is hS (by decide) (runs_move rfl) (fun a1 hS => ?_)
          refine seq_is hS (by decide) (runs_move rfl) (fun a1 hS => ?_)
          refine seq_is hS (by decide) (runs_move rfl) (fun a1 hS => ?_)
          refine seq_is hS (by decide) (runs_len rfl undHashes) (fun a1 hS => ?_)
          refine seq_is hS (by decide) (runs_sub rfl rfl ((IntWalk.i64_in _ (by omega)).trans (show _ = (n : Int) by omega))) (fun a1 hS => ?_)
          refine seq_is hS (by decide) (runs_sliceTo rfl rfl rfl undHashes rfl (by omega)) (fun a1 hS => ?_)
          refine seq_op hS (by decide) (runs_call (args := [.int .i64 ((Tree.half m : Nat) : Int), .int .i64 (p : Int), .string s, .slice (some ⟨b, o, none⟩) n c]) goes41 rfl hc) (fun v3 w3 a3 hp3 hS => ?_)
          obtain ⟨⟨t, rfl, ht1, ht2⟩, hB3⟩ := hp3
          refine seq_is hS (by decide) (runs_move rfl) (fun a1 hS => ?_)
          refine seq_is hS (by decide) (runs_extract rfl rfl) (fun a1 hS => ?_)
          refine seq_is hS (by decide) (runs_extract rfl rfl) (fun a1 hS => ?_)
          refine seq_is hS (by decide) (runs_assign rfl) (fun a1 hS => ?_)
          refine seq_is hS (by decide) (runs_assign rfl) (fun a1 hS => ?_)
          have hX3 := hX2.below hB3 hX2.lt
          have hnode := refNode_any t (S x) w3 (by rw [S_size]; omega)
          rw [bl_S hxb] at hnode
          refine nil_ok (qx_seq (reg_seq ?_))
          refine seq_is hS (by decide) (runs_move rfl) (fun a1 hS => ?_)
          refine seq_is hS (by decide) (runs_sliceArr rfl undHash infByte1) (fun a1 hS => ?_)
          refine seq_is hS (by decide) (runs_conv rfl (conv_range hX3.all 32 32 hxl)) (fun a1 hS => ?_)
          refine seq_op hS (by decide) (runs_call (args := [.string t, .string (S x)]) goes76 rfl (str_post (fun w' => Below w3.heap.size w3 w') hnode (fun _ h => h))) (fun v4 w4 a4 hp4 hS => ?_)
          obtain ⟨rfl, hB4⟩ := hp4
          refine seq_is hS (by decide) (runs_move rfl) (fun a1 hS => ?_)
          refine seq_is hS (by decide) (runs_assign rfl) (fun a1 hS => ?_)
          refine seq_is hS (by decide) (runs_assign rfl) (fun a1 hS => ?_)
          have hBw : Below w.heap.size w w4 := (hB2.trans (hB3.mono hB2.size)).trans (hB4.mono (Nat.le_trans hB2.size hB3.size))
          refine nil_ok (qx_ret (ret2 (t := 8) (u := 9) (by kernel_rfl) hS rfl rfl ⟨_, rfl, ⟨_, rfl, by rw [S_size, Tree.node_len]; omega, fun he => ?_⟩, hBw⟩))
          rw [hpath, List.length_append, List.length_singleton, hn] at he
          have hpl : (Tree.path 0 (Tree.half m) p).length = n := by omega
          have ht3 := ht2 (by rw [htl, hpl])
          rw [ups_take _ _ _ _ (by omega)] at ht3
          rw [hpath, ups_more _ _ _ _ (by omega), hpl, ← hx, ht3, bl_S (ups_bytes (Tree.leaf (bl s)) (sha_bytes _) _ _)]
          rfl
        · have hpath := path_r hm2 hph
          have hub : upB (m - Tree.half m) (p - Tree.half m) (hs.take n) = upB m p hs := by
            rw [upB, upB, hpath, htl, hn, Bool.eq_iff_iff, beq_iff_eq, beq_iff_eq]; simp
          have hc := ih (m - Tree.half m) (by omega) (p - Tree.half m) _ (hs.take n) w2 (by omega) (by omega) (hHt.kept hB2) (by omega)
          rw [hub] at hc
          refine seq_is hS (by decide) (runs_lss (r := false) rfl rfl (by rw [decide_eq_false_iff_not]; omega)) (fun a1 hS => ?_)
          refine nil_ok (wp_cond_false (hS.eval rfl) (wp_skip (qx_seq (reg_seq ?_))))
          refine seq_is hS (by decide) (runs_move rfl) (fun a1 hS => ?_)
          refine seq_is hS (by decide) (runs_move rfl) (fun a1 hS => ?_)
          refine seq_is hS (by decide) (runs_sub rfl rfl ((IntWalk.i64_in _ (by omega)).trans (show _ = ((m - Tree.half m : Nat) : Int) by omega))) (fun a1 hS => ?_)
          refine seq_is hS (by decide) (runs_move rfl) (fun a1 hS => ?_)
          refine seq_is hS (by decide) (runs_move rfl) (fun a1 hS => ?_)
          refine seq_is hS (by decide) (runs_sub rfl rfl ((IntWalk.i64_in _ (by omega)).trans (show _ = ((p - Tree.half m : Nat) : Int) by omega))) (fun a1 hS => ?_)
          refine seq_is hS (by decide) (runs_move rfl) (fun a1 hS => ?_)
          refine seq_is hS (by decide) (runs_move rfl) (fun a1 hS => ?_)
          refine seq_is hS (by decide) (runs_move rfl) (fun a1 hS => ?_)
          refine seq_is hS (by decide) (runs_len rfl undHashes) (fun a1 hS => ?_)
          refine seq_is hS (by decide) (runs_sub rfl rfl ((IntWalk.i64_in _ (by omega)).trans (show _ = (n : Int) by omega))) (fun a1 hS => ?_)
          refine seq_is hS (by decide) (runs_sliceTo rfl rfl rfl undHashes rfl (by omega)) (fun a1 hS => ?_)
          refine seq_op hS (by decide) (runs_call (args := [.int .i64 ((m - Tree.half m : Nat) : Int), .int .i64 ((p - Tree.half m : Nat) : Int), .string s, .slice (some ⟨b, o, none⟩) n c]) goes41 rfl hc) (fun v3 w3 a3 hp3 hS => ?_)
          obtain ⟨⟨t, rfl, ht1, ht2⟩, hB3⟩ := hp3
          refine seq_is hS (by decide) (runs_move rfl) (fun a1 hS => ?_)
          refine seq_is hS (by decide) (runs_extract rfl rfl) (fun a1 hS => ?_)
          refine seq_is hS (by decide) (runs_extract rfl rfl) (fun a1 hS => ?_)
          refine seq_is hS (by decide) (runs_assign rfl) (fun a1 hS => ?_)
          refine seq_is hS (by decide) (runs_assign rfl) (fun a1 hS => ?_)
          have hX3 := hX2.below hB3 hX2.lt
          have hnode := refNode_any (S x) t w3 (by rw [S_size]; omega)
          rw [bl_S hxb] at hnode
          refine nil_ok (qx_seq (reg_seq ?_))
          refine seq_is hS (by decide) (runs_sliceArr rfl undHash infByte1) (fun a1 hS => ?_)
          refine seq_is hS (by decide) (runs_conv rfl (conv_range hX3.all 32 32 hxl)) (fun a1 hS => ?_)
          refine seq_is hS (by decide) (runs_move rfl) (fun a1 hS => ?_)
          refine seq_op hS (by decide) (runs_call (args := [.string (S x), .string t]) goes76 rfl (str_post (fun w' => Below w3.heap.size w3 w') hnode (fun _ h => h))) (fun v4 w4 a4 hp4 hS => ?_)
          obtain ⟨rfl, hB4⟩ := hp4
          refine seq_is hS (by decide) (runs_move rfl) (fun a1 hS => ?_)
          refine seq_is hS (by decide) (runs_assign rfl) (fun a1 hS => ?_)
          refine seq_is hS (by decide) (runs_assign rfl) (fun a1 hS => ?_)
          have hBw : Below w.heap.size w w4 := (hB2.trans (hB3.mono hB2.size)).trans (hB4.mono (Nat.le_trans hB2.size hB3.size))
          refine nil_ok (qx_ret (ret2 (t := 8) (u := 9) (by kernel_rfl) hS rfl rfl ⟨_, rfl, ⟨_, rfl, by rw [S_size, Tree.node_len]; omega, fun he => ?_⟩, hBw⟩))
          rw [hpath, List.length_append, List.length_singleton, List.length_map, hn] at he
          have hpl : (Tree.path 0 (m - Tree.half m) (p - Tree.half m)).length = n := by omega
          have ht3 := ht2 (by rw [htl, hpl])
          rw [ups_take _ _ _ _ (by omega)] at ht3
          rw [hpath, ups_more _ _ _ _ (by rw [List.length_map]; omega), List.length_map, hpl, ← hx, ups_shift, ht3, bl_S (ups_bytes (Tree.leaf (bl s)) (sha_bytes _) _ _)]
          rfl
end Go.Proofs.YtdemoidmhmdgkaaDoor
namespace Go.Proofs.YtdemoidmhmdgkaaDoor
open Go.RowKit
set_option maxRecDepth 100000

noncomputable def reg29 (id : Nat) : Code := ((Tryd.f16.body.bind (regionIn id)).getD .skip)
def outC (n at_ : Int) : Bool := decide (n > 1073741824) || decide (at_ < 0) || decide (at_ ≥ n)
theorem test29 (N R : Act → World → Prop) (X : Nat → Act → World → Prop) (n at_ : Int) (s p5 : Value) (A : Option Addr) (m c : Nat) (w : World) (a : Act) (hm : m ≤ 40) (hS : Sees 45 [(1, .int .i64 n), (2, .int .i64 at_), (3, s), (4, .slice A m c), (5, p5)] a)
    (h : ∀ a', Sees 45 [(28, .bool (outC n at_)), (1, .int .i64 n), (2, .int .i64 at_), (3, s), (4, .slice A m c), (5, p5)] a' → N a' w) : (reg29 1).wp Tryd.prog (Qx N X R) a w := by
  refine reg_seq ?_
  refine seq_is hS (by decide) (runs_move rfl) (fun a1 hS => ?_)
  by_cases h1 : n > 1073741824
  · rw [show outC n at_ = true by simp [outC, h1]] at h
    refine seq_is hS (by decide) (runs_gtr (r := true) rfl rfl (by simpa using h1)) (fun a1 hS => ?_)
    refine seq_is hS (by decide) (runs_move rfl) (fun a1 hS => ?_)
    refine seq_no hS (by decide) rfl (by decide) rfl rfl (fun a1 hS => ?_)
    refine seq_no hS (by decide) rfl (by decide) rfl rfl (fun a1 hS => ?_)
    refine seq_is hS (by decide) (runs_pick rfl rfl) (fun a1 hS => ?_)
    refine seq_is hS (by decide) (runs_move rfl) (fun a1 hS => ?_)
    refine seq_no hS (by decide) rfl (by decide) rfl rfl (fun a1 hS => ?_)
    refine seq_no hS (by decide) rfl (by decide) rfl rfl (fun a1 hS => ?_)
    refine seq_no hS (by decide) rfl (by decide) rfl rfl (fun a1 hS => ?_)
    refine seq_is hS (by decide) (runs_pick rfl rfl) (fun a1 hS => ?_)
    refine seq_is hS (by decide) (runs_move rfl) (fun a1 hS => ?_)
    refine seq_no hS (by decide) rfl (by decide) rfl rfl (fun a1 hS => ?_)
    refine seq_no hS (by decide) rfl (by decide) rfl rfl (fun a1 hS => ?_)
    refine seq_no hS (by decide) rfl (by decide) rfl rfl (fun a1 hS => ?_)
    refine seq_is hS (by decide) (runs_pick rfl rfl) (fun a1 hS => ?_)
    exact nil_ok (h _ (hS.only _ ⟨rfl, rfl, rfl, rfl, rfl, rfl, trivial⟩))
  · refine seq_is hS (by decide) (runs_gtr (r := false) rfl rfl (by simpa using h1)) (fun a1 hS => ?_)
    refine seq_is hS (by decide) (runs_move rfl) (fun a1 hS => ?_)
    refine seq_yis hS (by decide) rfl (by decide) rfl (runs_move rfl) (fun a1 hS => ?_)
    by_cases h2 : at_ < 0
    · rw [show outC n at_ = true by simp [outC, h2]] at h
      refine seq_yis hS (by decide) rfl (by decide) rfl (runs_lss (r := true) rfl rfl (by simpa using h2)) (fun a1 hS => ?_)
      refine seq_is hS (by decide) (runs_pick rfl rfl) (fun a1 hS => ?_)
      refine seq_is hS (by decide) (runs_move rfl) (fun a1 hS => ?_)
      refine seq_no hS (by decide) rfl (by decide) rfl rfl (fun a1 hS => ?_)
      refine seq_no hS (by decide) rfl (by decide) rfl rfl (fun a1 hS => ?_)
      refine seq_no hS (by decide) rfl (by decide) rfl rfl (fun a1 hS => ?_)
      refine seq_is hS (by decide) (runs_pick rfl rfl) (fun a1 hS => ?_)
      refine seq_is hS (by decide) (runs_move rfl) (fun a1 hS => ?_)
      refine seq_no hS (by decide) rfl (by decide) rfl rfl (fun a1 hS => ?_)
      refine seq_no hS (by decide) rfl (by decide) rfl rfl (fun a1 hS => ?_)
      refine seq_no hS (by decide) rfl (by decide) rfl rfl (fun a1 hS => ?_)
      refine seq_is hS (by decide) (runs_pick rfl rfl) (fun a1 hS => ?_)
      exact nil_ok (h _ (hS.only _ ⟨rfl, rfl, rfl, rfl, rfl, rfl, trivial⟩))
    · refine seq_yis hS (by decide) rfl (by decide) rfl (runs_lss (r := false) rfl rfl (by simpa using h2)) (fun a1 hS => ?_)
      refine seq_is hS (by decide) (runs_pick rfl rfl) (fun a1 hS => ?_)
      refine seq_is hS (by decide) (runs_move rfl) (fun a1 hS => ?_)
      refine seq_yis hS (by decide) rfl (by decide) rfl (runs_move rfl) (fun a1 hS => ?_)
      refine seq_yis hS (by decide) rfl (by decide) rfl (runs_move rfl) (fun a1 hS => ?_)
      by_cases h3 : at_ ≥ n
      · rw [show outC n at_ = true by simp [outC, h3]] at h
        refine seq_yis hS (by decide) rfl (by decide) rfl (runs_geq (r := true) rfl rfl (by simpa using h3)) (fun a1 hS => ?_)
        refine seq_is hS (by decide) (runs_pick rfl rfl) (fun a1 hS => ?_)
        refine seq_is hS (by decide) (runs_move rfl) (fun a1 hS => ?_)
        refine seq_no hS (by decide) rfl (by decide) rfl rfl (fun a1 hS => ?_)
        refine seq_no hS (by decide) rfl (by decide) rfl rfl (fun a1 hS => ?_)
        refine seq_no hS (by decide) rfl (by decide) rfl rfl (fun a1 hS => ?_)
        refine seq_is hS (by decide) (runs_pick rfl rfl) (fun a1 hS => ?_)
        exact nil_ok (h _ (hS.only _ ⟨rfl, rfl, rfl, rfl, rfl, rfl, trivial⟩))
      · rw [show outC n at_ = false by simp [outC, h1, h2, h3]] at h
        refine seq_yis hS (by decide) rfl (by decide) rfl (runs_geq (r := false) rfl rfl (by simpa using h3)) (fun a1 hS => ?_)
        refine seq_is hS (by decide) (runs_pick rfl rfl) (fun a1 hS => ?_)
        refine seq_is hS (by decide) (runs_move rfl) (fun a1 hS => ?_)
        refine seq_yis hS (by decide) rfl (by decide) rfl (runs_move rfl) (fun a1 hS => ?_)
        refine seq_yis hS (by decide) rfl (by decide) rfl (runs_len rfl undHashes) (fun a1 hS => ?_)
        refine seq_yis hS (by decide) rfl (by decide) rfl (runs_gtr (r := false) rfl rfl (by rw [decide_eq_false_iff_not]; omega)) (fun a1 hS => ?_)
        refine seq_is hS (by decide) (runs_pick rfl rfl) (fun a1 hS => ?_)
        exact nil_ok (h _ (hS.only _ ⟨rfl, rfl, rfl, rfl, rfl, rfl, trivial⟩))
set_option maxRecDepth 100000 in
set_option maxHeartbeats 1000000 in
theorem refCheck_any (root : List Nat) (n at_ : Int) (s : ByteArray) (pv : Value) (hs : List (List Nat)) (w : World) (hrl : root.length = 32) (hH : Hashes w pv hs) (hl : hs.length ≤ 40) (hsz : s.size ≤ 900) :
    Calls Tryd.prog 16 #[.agg (U8 root).toArray, .int .i64 n, .int .i64 at_, .string s, pv] w fun e w' => e = .returned (.bool (checkB root n at_ (bl s) hs)) ∧ Below w.heap.size w w' := by
  refine calls_qx (args := [.agg (U8 root).toArray, .int .i64 n, .int .i64 at_, .string s, pv]) 45 Tryd.func16 rfl (by kernel_rfl) (by simp) (fun a hS => ?_)
  refine qx_seq (reg_seq ?_)
  refine seq_op hS (by decide) (runs_box rfl) (fun v1 w1 a1 hp1 hS => ?_)
  obtain ⟨rfl, rfl⟩ := hp1
  have hR1 : Has (w.alloc (.cells (Value.agg (U8 root).toArray).cells 26)) w.heap.size 26 (U8 root) := Has.new w 26 (U8 root)
  have hB1 : Below w.heap.size w (w.alloc (.cells (Value.agg (U8 root).toArray).cells 26)) := (Below.refl _ _).alloc (Nat.le_refl _) _
  generalize w.alloc (.cells (Value.agg (U8 root).toArray).cells 26) = w1 at *
  have hH1 := hH.kept hB1
  have hH2 := hH1
  obtain ⟨A, c, rfl, _⟩ := hH2
  refine seq_is hS (by decide) (runs_assign rfl) (fun a1 hS => ?_)
  refine nil_ok (qx_seq (qx_seq (test29 _ _ _ n at_ _ _ A hs.length c w1 a1 hl (hS.only _ ⟨rfl, rfl, rfl, rfl, rfl, trivial⟩) (fun a2 hS => ?_))))
  cases ho : outC n at_ with
  | true =>
    rw [ho] at hS
    have hcb : checkB root n at_ (bl s) hs = false := by
      simp only [outC, Bool.or_eq_true, decide_eq_true_eq] at ho
      unfold checkB
      rw [if_pos ?_]
      by_cases h2 : n > 1073741824
      · exact .inl h2
      · right; left
        simp only [thereB, Bool.and_eq_false_iff, decide_eq_false_iff_not]
        omega
    refine wp_cond_true (hS.eval rfl) (qx_seq (reg_seq ?_))
    refine seq_is hS (by decide) (runs_assign rfl) (fun a1 hS => ?_)
    exact nil_ok (qx_ret (ret1 (t := 10) (by kernel_rfl) hS rfl ⟨by rw [hcb], hB1⟩))
  | false =>
    rw [ho] at hS
    simp only [outC, Bool.or_eq_false_iff, decide_eq_false_iff_not] at ho
    obtain ⟨p, rfl⟩ := Int.eq_ofNat_of_zero_le (show 0 ≤ at_ by omega)
    obtain ⟨m, rfl⟩ := Int.eq_ofNat_of_zero_le (show 0 ≤ n by omega)
    have hpm : p < m := by omega
    have hmm : m ≤ 1073741824 := by omega
    refine wp_cond_false (hS.eval rfl) (wp_skip ?_)
    refine qx_seq (reg_seq ?_)
    refine seq_is hS (by decide) (runs_move rfl) (fun a1 hS => ?_)
    refine seq_is hS (by decide) (runs_move rfl) (fun a1 hS => ?_)
    refine seq_is hS (by decide) (runs_move rfl) (fun a1 hS => ?_)
    refine seq_is hS (by decide) (runs_move rfl) (fun a1 hS => ?_)
    refine seq_op hS (by decide) (runs_call (args := [.int .i64 (m : Int), .int .i64 (p : Int), .string s, .slice A hs.length c]) goes41 rfl (refUp_any s hsz m p _ hs w1 hpm hmm hH1 (by omega))) (fun v3 w3 a3 hp3 hS => ?_)
    obtain ⟨⟨t, rfl, ht1, ht2⟩, hB3⟩ := hp3
    have hR3 := hR1.below hB3 hR1.lt
    have hBw3 : Below w.heap.size w w3 := hB1.trans (hB3.mono hB1.size)
    refine seq_is hS (by decide) (runs_move rfl) (fun a1 hS => ?_)
    refine seq_is hS (by decide) (runs_extract rfl rfl) (fun a1 hS => ?_)
    refine seq_is hS (by decide) (runs_extract rfl rfl) (fun a1 hS => ?_)
    refine seq_is hS (by decide) (runs_assign rfl) (fun a1 hS => ?_)
    refine seq_is hS (by decide) (runs_assign rfl) (fun a1 hS => ?_)
    cases hu : upB m p hs with
    | false =>
      have hcb : checkB root (m : Int) (p : Int) (bl s) hs = false := by
        have hne : hs.length ≠ deepZ (m : Int) (p : Int) := by rw [deepZ_nat hmm hpm]; exact beq_eq_false_iff_ne.1 hu
        unfold checkB
        rw [if_pos (.inr (.inr hne))]
      rw [hu] at hS
      refine nil_ok (qx_seq (reg_guard (fun w' => Below w3.heap.size w3 w') [.inl (.bool false), .inl (.bool false), .inl undef, .inl undef, .inl undef, .inl undef, .inl undef, .inl (.bool false), .inl (.bool false)] 9 0 mixed rfl (by kernel_rfl) hS (Below.refl _ _) (fun _ h => h.drew) ?_))
      refine hs_is rfl (fun w' hw => runs_move rfl) ?_
      refine hs_is rfl (fun w' hw => runs_move rfl) ?_
      refine hs_no rfl rfl rfl ?_
      refine hs_no rfl rfl rfl ?_
      refine hs_no rfl rfl rfl ?_
      refine hs_no rfl rfl rfl ?_
      refine hs_no rfl rfl rfl ?_
      refine hs_is rfl (fun w' hw => runs_pick rfl rfl) ?_
      refine hs_is rfl (fun w' hw => runs_assign rfl) ?_
      refine (fun a5 w5 hS5 hB5 _ => ?_)
      refine wpAnyH_done (by kernel_rfl) ?_ _
      exact qx_ret (ret1 (t := 10) (by kernel_rfl) hS5 rfl ⟨by rw [hcb], hBw3.trans (hB5.mono hBw3.size)⟩)
    | true =>
      have hle : hs.length = (Tree.path 0 m p).length := beq_iff_eq.1 hu
      obtain rfl := ht2 hle
      rw [hu] at hS
      have hul := ups_len _ (Tree.leaf_len (bl s)) (Tree.path 0 m p) hs
      have hub := ups_bytes (Tree.leaf (bl s)) (sha_bytes _) (Tree.path 0 m p) hs
      have hcb : checkB root (m : Int) (p : Int) (bl s) hs = (Tree.root m (ups (Tree.leaf (bl s)) (Tree.path 0 m p) hs) == root) := by
        unfold checkB
        rw [if_neg (by rw [deepZ_nat hmm hpm]; simp [thereB]; omega)]
        simp
      rw [hcb]
      generalize ups (Tree.leaf (bl s)) (Tree.path 0 m p) hs = t at *
      refine nil_ok (qx_seq (reg_guard (fun w' => Below w3.heap.size w3 w') [.inl (.bool true), .inl (.bool true), .inl (.int .i64 (m : Int)), .inl (.string (S t)), .inl (.agg (U8 (Tree.root m t)).toArray), .inl (.agg (U8 root).toArray), .inl (.bool (Tree.root m t == root)), .inl (.bool (Tree.root m t == root)), .inl (.bool (Tree.root m t == root))] 9 0 mixed rfl (by kernel_rfl) hS (Below.refl _ _) (fun _ h => h.drew) ?_))
      refine hs_is rfl (fun w' hw => runs_move rfl) ?_
      refine hs_is rfl (fun w' hw => runs_move rfl) ?_
      refine hs_yis rfl rfl (fun w' hw => runs_move rfl) ?_
      refine hs_yis rfl rfl (fun w' hw => runs_move rfl) ?_
      refine hs_yval rfl rfl (fun w' hw _ => runs_call (args := [.int .i64 (m : Int), .string (S t)]) goes42 rfl (hash_post _ (refRoot_any m t w' (by omega) hul hub) (fun _ h => ⟨hw.trans (h.mono hw.size), h⟩))) ?_
      refine hs_yis rfl rfl (fun w' hw => runs_loadRow rfl (hR3.below hw hR3.lt) undHash rfl (by rw [infHash, U8_length, hrl])) ?_
      refine hs_yis rfl rfl (fun w' hw => runs_eqHash rfl rfl (root_len _ _) hrl rfl) ?_
      refine hs_is rfl (fun w' hw => runs_pick rfl rfl) ?_
      refine hs_is rfl (fun w' hw => runs_assign rfl) ?_
      refine (fun a5 w5 hS5 hB5 _ => ?_)
      refine wpAnyH_done (by kernel_rfl) ?_ _
      exact qx_ret (ret1 (t := 10) (by kernel_rfl) hS5 rfl ⟨rfl, hBw3.trans (hB5.mono hBw3.size)⟩)
end Go.Proofs.YtdemoidmhmdgkaaDoor
namespace Go.Proofs.YtdemoidmhmdgkaaDoor
open Go.ChangeShapes Go.WideShapes Go.ChangeAt Go.RowKit Go.Deep
set_option maxRecDepth 100000

theorem add_lit' (b o i : Nat) : (⟨b, o, none⟩ : Addr).add i = ⟨b, o + i, none⟩ := by unfold Addr.add; split <;> simp_all
section
variable {H : Type} {enc : TypeId × Value → H} {W : World} {base b0 : Nat} {r : Reach} {sp : Nat → Bool} {held : Bool} {v : Value} {d : DataW H} {p : List MemPlace}
theorem hash_cells {m : Nat} {cs : List Value} {x : DataW H × List MemPlace} (hf : DataW.trod enc Tryd.prog W base sp held m 26 cs = some x) : ∃ l : List Nat, l.length = 32 ∧ Sha.Bytes l ∧ cs = U8 l := by
  obtain ⟨xs, m, _, _, hlen, hn, hel⟩ := DataW.trod_array undHash hf
  have hcs : cs.length = 32 := by rw [← c26]; exact hlen
  have hcell : ∀ i, i < 32 → ∃ n : Nat, n < 256 ∧ cs[i]? = some (.int .u8 (n : Int)) := fun i hi => by
    have h1 := hel i hi
    rw [c5] at h1
    have hxi : xs[i]? = some (xs[i]'(by omega)) := List.getElem?_eq_getElem _
    rw [hxi] at h1
    obtain ⟨n, e1, _, wf⟩ := DataW.trod_int und5 h1
    have hb : 0 ≤ n ∧ n ≤ 255 := bounds_u8 wf
    refine ⟨n.toNat, by omega, ?_⟩
    have := congrArg (fun l => l[0]?) e1
    simp only [List.getElem?_take, List.getElem?_drop, Nat.mul_one, Nat.add_zero] at this
    rw [Int.toNat_of_nonneg hb.1]
    simpa using this
  refine ⟨cs.map (fun u => match u with | .int _ n => n.toNat | _ => 0), by simpa using hcs, ?_, ?_⟩
  · intro x hx
    obtain ⟨u, hu, rfl⟩ := List.mem_map.1 hx
    obtain ⟨i, hi, rfl⟩ := List.mem_iff_getElem.1 hu
    obtain ⟨n, hn256, e⟩ := hcell i (by omega)
    rw [List.getElem?_eq_getElem hi] at e
    injection e with e
    rw [e]
    simpa using hn256
  · unfold U8
    rw [List.map_map]
    apply List.ext_getElem (by simp)
    intro i h1 h2
    obtain ⟨n, _, e⟩ := hcell i (by omega)
    rw [List.getElem?_eq_getElem h1] at e
    injection e with e
    simp only [List.getElem_map, Function.comp]
    rw [e]
    simp
theorem flat_len : ∀ (hs : List (List Nat)), (∀ h ∈ hs, h.length = 32) → hs.flatten.length = hs.length * 32
  | [], _ => rfl
  | h :: hs, hl => by
    rw [List.flatten_cons, List.length_append, hl h (by simp), flat_len hs (fun g hg => hl g (by simp [hg])), List.length_cons]
    omega
theorem open_hashes {W : World} {p : List MemPlace} (hv : Value.okWide Tryd.prog W r b0 28 v) (h : DataW.Trod enc Tryd.prog W base (fun _ => true) held 28 v d p) (hlt : ∀ x ∈ p, x.block < W.heap.size) : ∃ hs : List (List Nat), Hashes W v hs := by
  obtain ⟨a0, len, cap, rfl⟩ := okWide_slice undHashes hv
  obtain ⟨fuel, hf⟩ := h
  rcases open_slice undHashes hf with ⟨hcs, hx⟩ | ⟨a, len', cap', m, n, D, Pl, hcs, hb, hl, hm, hmm, hx, hi⟩
  · simp [Value.cells] at hcs
    obtain ⟨rfl, rfl, rfl⟩ := hcs
    exact ⟨[], _, _, rfl, Nat.le_refl _, by unfold maxLen; omega, by simp, fun h => by simp at h⟩
  · simp [Value.cells] at hcs
    obtain ⟨rfl, rfl, rfl⟩ := hcs
    simp only [if_true] at hmm
    subst hmm
    simp only [Prod.mk.injEq] at hx
    have hel : ∀ i, i < len → ∃ l : List Nat, (l.length = 32 ∧ Sha.Bytes l) ∧ ∀ j u, (U8 l)[j]? = some u → W.cell? ((a.add (i * 32)).add j) = some u := fun i hil => by
      obtain ⟨cs', hc, ht'⟩ := hi i (by omega)
      rw [c26] at hc
      obtain ⟨l, h32, hby, e⟩ := hash_cells ht'
      obtain ⟨_, hcl, hat⟩ := World.cells?_some hc
      refine ⟨l, ⟨h32, hby⟩, fun j u hu => ?_⟩
      have hj : j < 32 := by have := (List.getElem?_eq_some_iff.1 hu).1; rwa [U8_length, h32] at this
      rw [hat j hj, e]; exact hu
    by_cases h0 : len = 0
    · subst h0
      exact ⟨[], some a, _, rfl, hl, hm, by simp, fun h => by simp at h⟩
    obtain ⟨b, off, spot⟩ := a
    have hspot : spot = none := by
      obtain ⟨l, ⟨h32, _⟩, hc⟩ := hel 0 (by omega)
      have := hc 0 _ (List.getElem?_eq_getElem (by rw [U8_length, h32]; omega))
      simpa [Addr.add] using World.cell?_spot this
    subst hspot
    have hall : ∃ hs : List (List Nat), hs.length = len ∧ (∀ h ∈ hs, h.length = 32 ∧ Sha.Bytes h) ∧ W.rangeAt b off (U8 hs.flatten) := by
      clear hl hm hx hi hf hv hb h0
      induction len with
      | zero => exact ⟨[], rfl, by simp, fun i f h => by simp [U8] at h⟩
      | succ k ih =>
        obtain ⟨hs, h1, h2, h3⟩ := ih (fun i hi => hel i (by omega))
        obtain ⟨l, hok, hf⟩ := hel k (by omega)
        have hfl := flat_len hs (fun h hh => (h2 h hh).1)
        refine ⟨hs ++ [l], by simp [h1], fun g hg => ?_, fun j u hu => ?_⟩
        · rcases List.mem_append.1 hg with hg | hg
          · exact h2 g hg
          · rw [List.mem_singleton.1 hg]; exact hok
        · rw [List.flatten_append, List.flatten_singleton] at hu
          unfold U8 at hu
          rw [List.map_append] at hu
          by_cases hj : j < hs.flatten.length
          · rw [List.getElem?_append_left (by rw [List.length_map]; exact hj)] at hu
            exact h3 j u hu
          · rw [List.getElem?_append_right (by rw [List.length_map]; omega), List.length_map, hfl, h1] at hu
            have := hf (j - k * 32) u hu
            rw [add_lit', add_lit'] at this
            rw [hfl, h1] at hj
            rwa [show off + k * 32 + (j - k * 32) = off + j by omega] at this
    obtain ⟨hs, h1, h2, h3⟩ := hall
    subst h1
    refine ⟨hs, some ⟨b, off, none⟩, _, rfl, hl, hm, h2, fun _ => ⟨b, off, rfl, hlt (.cell b off) ?_, h3⟩⟩
    rw [hx.2]
    exact List.mem_append_left _ (MemPlace.mem_row.2 ⟨0, by rw [c26]; omega, by simp⟩)
end
section
variable {P : Program} {L : List (Nat × Value)} {w : World} {ty : TypeId}
theorem runs_append0N {t e : TypeId} {s x : Operand} {i : TypeInfo} {z : Value} {bytes g m c sz : Nat} {news : List Value} {ad : Addr} (ht : P.underlying t = some (.slice e)) (hi : P.info? e = some i) (hz : i.zero = some z)
    (hsize : i.size = sz) (hby : i.bytes = bytes) (hzs : z.cells.size = sz) (hsz : 0 < sz) (hs : vals L s = some (.slice (some ⟨g, 0, none⟩) 0 0)) (hx : vals L x = some (.slice (some ad) m c)) (hl : news.length = m * sz) (hnews : ∀ j u, news[j]? = some u → w.cell? (ad.add j) = some u)
    (h63 : m ≤ maxLen) (hbytes : m * bytes ≤ 140737488355328) (hm : 0 < m) :
    Runs P (.call { callee := .builtin .append, args := #[s, x], argTypes := #[t, t] }) ty L w (fun v w' => w'.ownsRow w.heap.size e sz v m news ∧ Below w.heap.size w w') := fun o a K Q ho _ hL hK => by
  have e1 := hL s (by simp [Op.operands, Call.operands]) _ hs
  have e2 := hL x (by simp [Op.operands, Call.operands]) _ hx
  obtain ⟨v', w', hr, h2, h3⟩ := run_append_arg_grows (P := P) w t o.type e i z sz bytes ht hi hz hsize hby hzs hsz ⟨g, 0, none⟩ 0 0 [] (by simp) (fun j u h => by simp at h) ad m c news hl hnews (by omega) (by omega) (by simpa using hbytes)
  unfold Oper.wp execOp
  simp only [ho, resolve, invoke, builtin, Sem.run_bind, Sem.run_pure, Result.andThen_ok, List.map_toArray, List.map_cons, List.map_nil, e1, e2, hr]
  rw [Nat.zero_add, List.nil_append] at h2
  exact hK v' w' ⟨h2, (Below.refl _ _).grown h3 (Nat.le_refl _) (fun k h => by cases h)⟩
theorem runs_eqBool {t' : TypeId} {x y : Operand} {a b r : Bool} (hx : vals L x = some (.bool a)) (hy : vals L y = some (.bool b)) (hr : (a == b) = r) : Runs Tryd.prog (.binOp .eql 4 x y t') ty L w (Is (.bool r) w) :=
  runs_bin hx hy rfl (by rw [run_eql_bool w 4 a b (by kernel_rfl), hr])
/-- A copy of a slice of sums. -/
theorem copy_hashes {s x : Operand} {g : Nat} {v : Value} {hs : List (List Nat)} (hH : Hashes w v hs) (hn : hs.length ≤ 1000) (hs2 : vals L s = some (.slice (some ⟨g, 0, none⟩) 0 0)) (hx : vals L x = some v) :
    Runs Tryd.prog (.call { callee := .builtin .append, args := #[s, x], argTypes := #[28, 28] }) ty L w (fun u w2 => Hashes w2 u hs ∧ Below w.heap.size w w2) := by
  obtain ⟨ih, hih, hzh, hszh, hbh⟩ := info_parts infHashb
  obtain ⟨A, c, rfl, hc1, hc2, hok, hA⟩ := hH
  by_cases h0 : hs.length = 0
  · rw [h0] at hx
    refine (runs_appendNone undHashes hih hs2 (Nat.le_refl _) (by simp) hx).mono ?_
    rintro u w2 ⟨rfl, rfl⟩
    exact ⟨⟨_, 0, by rw [h0], by omega, by unfold maxLen; omega, hok, fun h => by omega⟩, Below.refl _ _⟩
  · obtain ⟨b, o, rfl, hb, hra⟩ := hA (by omega)
    refine (runs_append0N (m := hs.length) undHashes hih hzh hszh hbh (by simp [Value.cells]) (by omega) hs2 hx (news := U8 hs.flatten) (by rw [U8_length, flat_len hs (fun h hh => (hok h hh).1)]) (fun j u hu => ?_) (by omega) (by omega) (by omega)).mono ?_
    · rw [add_lit']; exact hra j u hu
    · rintro u w2 ⟨h3, h4⟩
      exact ⟨hashes_own h3 hok, h4⟩
end
theorem bool_post {f : FuncId} {args : Array Value} {w : World} {b : Bool} (C : World → Prop) (hc : Calls Tryd.prog f args w fun e w' => e = .returned (.bool b) ∧ Below w.heap.size w w') (hC : ∀ w', Below w.heap.size w w' → C w') :
    Calls Tryd.prog f args w fun e w' => ∃ v, e = .returned v ∧ v = .bool b ∧ C w' := hc.mono (by rintro e w' ⟨rfl, h⟩; exact ⟨_, rfl, rfl, hC w' h⟩)
end Go.Proofs.YtdemoidmhmdgkaaDoor
