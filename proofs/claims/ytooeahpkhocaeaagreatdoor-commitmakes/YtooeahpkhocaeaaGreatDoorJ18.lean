/- The document's own top and root, and Leaf, Node, Top, Root. Conditions: at most 20 leaves of 200 bytes. -/
import Derived.Test.YtooeahpkhocaeaaGreatDoorTRef
import Derived.Test.YtooeahpkhocaeaaGreatDoorJ12
import Derived.Laws.BitsAllLaws
import Derived.Laws.DeepNot64
namespace Go.Proofs.YtooeahpkhocaeaaGreatDoor
open Go.RowKit
set_option maxRecDepth 100000

theorem strs_piece {w : World} {b o : Nat} {ss : List ByteArray} (hb : b < w.heap.size) (h : ∀ i, i < ss.length → w.cell? ⟨b, o + i, none⟩ = some (.string (ss.getD i ByteArray.empty))) (l n c : Nat) (hl : l + n ≤ ss.length) (hn : n ≤ c) (hm : c ≤ maxLen) : Strs w (.slice (some ⟨b, o + l, none⟩) n c) ((ss.drop l).take n) := by
  have hlen : ((ss.drop l).take n).length = n := by simp; omega
  refine ⟨_, c, by rw [hlen], by omega, hm, fun _ => ⟨b, o + l, rfl, hb, fun i hi => ?_⟩⟩
  rw [show o + l + i = o + (l + i) by omega, h (l + i) (by omega)]
  simp only [List.getD_eq_getElem?_getD, List.getElem?_take, List.getElem?_drop, if_pos (show i < n by omega)]
theorem bl2 : bl (⟨#[2]⟩ : ByteArray) = [2] := by kernel_rfl
theorem bl3 : bl (⟨#[3]⟩ : ByteArray) = [3] := by kernel_rfl
theorem one3 : (⟨#[3]⟩ : ByteArray).size = 1 := rfl
set_option maxRecDepth 100000 in
set_option maxHeartbeats 1000000 in
theorem refTop_any : ∀ (n : Nat) (ss : List ByteArray) (v : Value) (w : World), ss.length = n → Strs w v ss → (∀ s ∈ ss, s.size ≤ 900) → n ≤ 1000000 →
    Calls Tryz.prog 47 #[v] w fun e w' => e = .returned (.string (S (Tree.top (ss.map bl)))) ∧ Below w.heap.size w w' := by
  intro n
  induction n using Nat.strongRecOn with
  | _ n ih =>
    intro ss v w hn hs hsz hnm
    refine calls_qx (args := [v]) 27 Tryz.func47 rfl (by kernel_rfl) (by simp) (fun a hS => ?_)
    obtain ⟨A, c, rfl, hc1, hc2, hA⟩ := hs
    refine qx_seq (reg_seq ?_)
    refine seq_is hS (by decide) (runs_assign rfl) (fun a1 hS => ?_)
    refine nil_ok (qx_seq (qx_seq (reg_seq ?_)))
    refine seq_is hS (by decide) (runs_move rfl) (fun a1 hS => ?_)
    refine seq_is hS (by decide) (runs_len rfl undStrs) (fun a1 hS => ?_)
    by_cases h0 : ss.length = 0
    · refine seq_is hS (by decide) (runs_eql (r := true) rfl rfl (by rw [h0]; rfl)) (fun a1 hS => ?_)
      refine nil_ok (wp_cond_true (hS.eval rfl) (qx_seq (reg_seq ?_)))
      have hps : ss = [] := List.length_eq_zero_iff.1 h0
      have ht : Tree.top (ss.map bl) = Sha.sha [2] := by rw [hps]; exact Tree.top_nil
      have hof := refof_any ⟨#[2]⟩ w (by decide)
      rw [bl2, ← ht] at hof
      refine seq_op hS (by decide) (runs_call (args := [.string ⟨#[2]⟩]) goes63 rfl (str_post (fun w' => Below w.heap.size w w') hof (fun _ h => h))) (fun v1 w1 a1 hp1 hS => ?_)
      obtain ⟨rfl, hB1⟩ := hp1
      refine seq_is hS (by decide) (runs_assign rfl) (fun a1 hS => ?_)
      exact nil_ok (qx_ret (ret1 (t := 2) (by kernel_rfl) hS rfl ⟨rfl, hB1⟩))
    · refine seq_is hS (by decide) (runs_eql (r := false) rfl rfl (by rw [beq_eq_false_iff_ne]; omega)) (fun a1 hS => ?_)
      refine nil_ok (wp_cond_false (hS.eval rfl) (wp_skip ?_))
      obtain ⟨b, o, rfl, hb, hcell⟩ := hA (by omega)
      refine qx_seq (qx_seq (reg_seq ?_))
      refine seq_is hS (by decide) (runs_move rfl) (fun a1 hS => ?_)
      refine seq_is hS (by decide) (runs_len rfl undStrs) (fun a1 hS => ?_)
      by_cases h1 : ss.length = 1
      · refine seq_is hS (by decide) (runs_eql (r := true) rfl rfl (by rw [h1]; rfl)) (fun a1 hS => ?_)
        refine nil_ok (wp_cond_true (hS.eval rfl) (qx_seq (reg_seq ?_)))
        obtain ⟨s, hss⟩ : ∃ s, ss = [s] := List.length_eq_one_iff.1 h1
        have ht : Tree.top (ss.map bl) = Tree.leaf (bl s) := by rw [hss]; exact Tree.top_one _
        have hc0 := hcell 0 (by omega)
        rw [hss] at hc0
        have hleaf := refLeaf_any s w (hsz s (by rw [hss]; simp))
        rw [← ht] at hleaf
        refine seq_is hS (by decide) (runs_move rfl) (fun a1 hS => ?_)
        refine seq_is hS (by decide) (runs_indexAddr (j := 0) rfl rfl undStrs infStr1 rfl (by omega)) (fun a1 hS => ?_)
        refine seq_is hS (by decide) (runs_load rfl (by kernel_rfl) hc0) (fun a1 hS => ?_)
        refine seq_op hS (by decide) (runs_call (args := [.string s]) goes64 rfl (str_post (fun w' => Below w.heap.size w w') hleaf (fun _ h => h))) (fun v1 w1 a1 hp1 hS => ?_)
        obtain ⟨rfl, hB1⟩ := hp1
        refine seq_is hS (by decide) (runs_assign rfl) (fun a1 hS => ?_)
        exact nil_ok (qx_ret (ret1 (t := 2) (by kernel_rfl) hS rfl ⟨rfl, hB1⟩))
      · refine seq_is hS (by decide) (runs_eql (r := false) rfl rfl (by rw [beq_eq_false_iff_ne]; omega)) (fun a1 hS => ?_)
        refine nil_ok (wp_cond_false (hS.eval rfl) (wp_skip ?_))
        have h2 : 2 ≤ ss.length := by omega
        have hhl := Tree.half_lt h2
        have hhp := Tree.half_pos ss.length
        have ht : Tree.top (ss.map bl) = Tree.node (Tree.top ((ss.map bl).take (Tree.half ss.length))) (Tree.top ((ss.map bl).drop (Tree.half ss.length))) := by
          have := Tree.top_more (l := ss.map bl) (by simpa using h2)
          rwa [List.length_map] at this
        have hhalf := refHalf_any ss.length w h2 (by omega)
        generalize Tree.half ss.length = k at *
        refine qx_seq (reg_seq ?_)
        refine seq_is hS (by decide) (runs_move rfl) (fun a1 hS => ?_)
        refine seq_is hS (by decide) (runs_len rfl undStrs) (fun a1 hS => ?_)
        refine seq_is hS (by decide) (runs_call (args := [.int .i64 (ss.length : Int)]) goes65 rfl hhalf) (fun a1 hS => ?_)
        refine seq_is hS (by decide) (runs_assign rfl) (fun a1 hS => ?_)
        have hp1 := strs_piece hb hcell 0 k c (by omega) (by omega) hc2
        have hp2 := strs_piece hb hcell k (ss.length - k) (c - k) (by omega) (by omega) (by omega)
        rw [Nat.add_zero, List.drop_zero] at hp1
        rw [List.take_of_length_le (by simp)] at hp2
        have tl1 := top_len ((ss.map bl).take k)
        have tl2 := top_len ((ss.map bl).drop k)
        have c1 : ∀ w', Below w.heap.size w w' → Calls Tryz.prog 47 [Value.slice (some ⟨b, o, none⟩) k c].toArray w' fun e w2 => ∃ v, e = .returned v ∧ v = .string (S (Tree.top ((ss.map bl).take k))) ∧ Below w.heap.size w w2 ∧ Below w'.heap.size w' w2 := fun w' hB' => by
          have := ih k (by omega) (ss.take k) _ w' (by simp; omega) (hp1.kept hB') (fun s h => hsz s (List.mem_of_mem_take h)) (by omega)
          rw [List.map_take] at this
          exact str_post _ this (fun _ h => ⟨hB'.trans (h.mono hB'.size), h⟩)
        have c2 : ∀ w', Below w.heap.size w w' → Calls Tryz.prog 47 [Value.slice (some ⟨b, o + k, none⟩) (ss.length - k) (c - k)].toArray w' fun e w2 => ∃ v, e = .returned v ∧ v = .string (S (Tree.top ((ss.map bl).drop k))) ∧ Below w.heap.size w w2 ∧ Below w'.heap.size w' w2 := fun w' hB' => by
          have := ih (ss.length - k) (by omega) (ss.drop k) _ w' (by simp) (hp2.kept hB') (fun s h => hsz s (List.mem_of_mem_drop h)) (by omega)
          rw [List.map_drop] at this
          exact str_post _ this (fun _ h => ⟨hB'.trans (h.mono hB'.size), h⟩)
        have c3 : ∀ w', Below w.heap.size w w' → Calls Tryz.prog 66 [Value.string (S (Tree.top ((ss.map bl).take k))), .string (S (Tree.top ((ss.map bl).drop k)))].toArray w' fun e w2 => ∃ v, e = .returned v ∧ v = .string (S (Tree.top (ss.map bl))) ∧ Below w.heap.size w w2 ∧ Below w'.heap.size w' w2 := fun w' hB' => by
          have := refNode_any (S (Tree.top ((ss.map bl).take k))) (S (Tree.top ((ss.map bl).drop k))) w' (by rw [S_size, S_size]; omega)
          rw [bl_S (top_bytes _), bl_S (top_bytes _), ← ht] at this
          exact str_post _ this (fun _ h => ⟨hB'.trans (h.mono hB'.size), h⟩)
        refine nil_ok (qx_seq (reg_guard (fun w' => Below w.heap.size w w') [.inl (.slice (some ⟨b, o, none⟩) ss.length c), .inl (.int .i64 (k : Int)), .inl (.slice (some ⟨b, o, none⟩) k c), .inl (.string (S (Tree.top ((ss.map bl).take k)))),
          .inl (.slice (some ⟨b, o, none⟩) ss.length c), .inl (.int .i64 (k : Int)), .inl (.slice (some ⟨b, o + k, none⟩) (ss.length - k) (c - k)), .inl (.string (S (Tree.top ((ss.map bl).drop k)))), .inl (.string (S (Tree.top (ss.map bl)))), .inl (.string (S (Tree.top (ss.map bl))))] 10 0 mixed rfl (by kernel_rfl) hS (Below.refl _ _) (fun _ h => h.drew) ?_))
        refine hs_is rfl (fun w' hw => runs_move rfl) ?_
        refine hs_is rfl (fun w' hw => runs_move rfl) ?_
        refine hs_is rfl (fun w' hw => runs_sliceTo rfl rfl rfl undStrs rfl (by omega)) ?_
        refine hs_val rfl (fun w' hw _ => runs_call (args := [.slice (some ⟨b, o, none⟩) k c]) goes47 rfl (c1 w' hw)) ?_
        refine hs_is rfl (fun w' hw => runs_move rfl) ?_
        refine hs_is rfl (fun w' hw => runs_move rfl) ?_
        refine hs_is rfl (fun w' hw => runs_sliceFrom rfl rfl rfl undStrs infStr1 (by omega) (by omega)) ?_
        refine hs_val rfl (fun w' hw _ => runs_call (args := [.slice (some ⟨b, o + k, none⟩) (ss.length - k) (c - k)]) goes47 rfl (c2 w' hw)) ?_
        refine hs_val rfl (fun w' hw _ => runs_call (args := [.string (S (Tree.top ((ss.map bl).take k))), .string (S (Tree.top ((ss.map bl).drop k)))]) goes66 rfl (c3 w' hw)) ?_
        refine hs_is rfl (fun w' hw => runs_assign rfl) ?_
        refine (fun a5 w5 hS5 hB5 _ => ?_)
        refine wpAnyH_done (by kernel_rfl) ?_ _
        exact qx_ret (ret1 (t := 2) (by kernel_rfl) hS5 rfl ⟨rfl, hB5⟩)
theorem root_len (n : Nat) (t : List Nat) : (Tree.root n t).length = 32 := Sha.Holds.sumText
set_option maxRecDepth 100000 in
theorem refRoot_any (n : Nat) (t : List Nat) (w : World) (hn : n < 9223372036854775808) (ht : t.length = 32) (hb : Sha.Bytes t) :
    Calls Tryz.prog 46 #[.int .i64 (n : Int), .string (S t)] w fun e w' => e = .returned (.agg (U8 (Tree.root n t)).toArray) ∧ Below w.heap.size w w' := by
  refine calls_qx (args := [.int .i64 (n : Int), .string (S t)]) 13 Tryz.func46 rfl (by kernel_rfl) (by simp) (fun a hS => ?_)
  have hl10 := Wire.num_len10 n (by omega)
  have hst : (S t).size = 32 := by rw [S_size, ht]
  have hsn : (S (Wire.num n)).size ≤ 10 := by rw [S_size]; exact hl10
  obtain ⟨z, hz⟩ : ∃ z : ByteArray, ⟨#[3]⟩ ++ S (Wire.num n) = z := ⟨_, rfl⟩
  obtain ⟨u, hu⟩ : ∃ u : ByteArray, z ++ S t = u := ⟨_, rfl⟩
  have hzz : z.size = 1 + (S (Wire.num n)).size := by rw [← hz, ByteArray.size_append, one3]
  have huz : u.size ≤ 1000 := by rw [← hu, ByteArray.size_append, hzz]; omega
  have hbl : bl u = 3 :: (Wire.num n ++ t) := by rw [← hu, ← hz, bl_append, bl_append, bl3, bl_S (Wire.num_bytes n), bl_S hb]; rfl
  refine qx_seq (reg_seq ?_)
  refine seq_op hS (by decide) alloc_hash (fun v1 w1 a1 hp1 hS => ?_)
  obtain ⟨rfl, rfl⟩ := hp1
  have hH1 := Has.new w 25 (U8 (List.replicate 32 0))
  have hB1 : Below w.heap.size w (w.alloc (.cells (U8 (List.replicate 32 0)).toArray 25)) := (Below.refl _ _).alloc (Nat.le_refl _) _
  generalize w.alloc (.cells (U8 (List.replicate 32 0)).toArray 25) = w1 at *
  refine nil_ok (qx_seq (reg_seq ?_))
  refine seq_is hS (by decide) (runs_move rfl) (fun a1 hS => ?_)
  refine seq_is hS (by decide) (runs_convInt rfl rfl undU64 (IntWalk.u64_in _ (by omega))) (fun a1 hS => ?_)
  refine seq_op hS (by decide) (runs_call (args := [.int .u64 (n : Int)]) goes50 rfl (str_post (fun w' => Below w1.heap.size w1 w') (refNum_any n w1 (by omega)) (fun _ h => h))) (fun v2 w2 a2 hp2 hS => ?_)
  obtain ⟨rfl, hB2⟩ := hp2
  refine seq_is hS (by decide) (runs_cat rfl rfl hz (by rw [one3]; omega)) (fun a1 hS => ?_)
  refine seq_is hS (by decide) (runs_move rfl) (fun a1 hS => ?_)
  refine seq_is hS (by decide) (runs_cat rfl rfl hu (by omega)) (fun a1 hS => ?_)
  have hof := refof_any u w2 huz
  rw [hbl] at hof
  clear hz hu hbl
  refine seq_op hS (by decide) (runs_call (args := [.string u]) goes63 rfl (str_post (fun w' => Below w2.heap.size w2 w') hof (fun _ h => h))) (fun v3 w3 a3 hp3 hS => ?_)
  obtain ⟨rfl, hB3⟩ := hp3
  have hlen := root_len n t
  refine seq_op hS (by decide) (runs_call (args := [.string (S (Tree.root n t))]) goes62 rfl (hash_post (fun w' => Below w3.heap.size w3 w') (refSum_any (Tree.root n t) w3 hlen (sha_bytes _)) (fun _ h => h))) (fun v4 w4 a4 hp4 hS => ?_)
  obtain ⟨rfl, hB4⟩ := hp4
  have hBw : Below w1.heap.size w1 w4 := (hB2.trans (hB3.mono hB2.size)).trans (hB4.mono (Nat.le_trans hB2.size hB3.size))
  have hH4 := hH1.below hBw hH1.lt
  refine seq_none hS (runs_storeRow rfl rfl hH4 (by simp [hlen]) (agg_all _) (by rw [infHash]; simp [hlen])) (fun v6 w6 a6 hp6 hS => ?_)
  obtain ⟨rfl, rfl⟩ := hp6
  exact nil_ok (qx_ret (retRow (t := 0) (p := 4) (by kernel_rfl) hS rfl (has_setRow (cs := U8 (Tree.root n t)) hH4) rfl undHash rfl (by rw [infHash]; simp [hlen]) ⟨rfl, below_row (hB1.trans (hBw.mono hB1.size)) (Nat.le_refl _) _⟩))
set_option maxRecDepth 100000 in
theorem refRootH_any (ss : List ByteArray) (v : Value) (w : World) (hs : Strs w v ss) (hsz : ∀ s ∈ ss, s.size ≤ 900) (hn : ss.length ≤ 1000000) : Calls Tryz.prog 33 #[v] w fun e w' => e = .returned (.agg (U8 (Tree.root ss.length (Tree.top (ss.map bl)))).toArray) ∧ Below w.heap.size w w' := by
  refine calls_qx (args := [v]) 8 Tryz.func33 rfl (by kernel_rfl) (by simp) (fun a hS => ?_)
  refine qx_seq (reg_seq ?_)
  refine seq_op hS (by decide) alloc_hash (fun v1 w1 a1 hp1 hS => ?_)
  obtain ⟨rfl, rfl⟩ := hp1
  have hH1 := Has.new w 25 (U8 (List.replicate 32 0))
  have hB1 : Below w.heap.size w (w.alloc (.cells (U8 (List.replicate 32 0)).toArray 25)) := (Below.refl _ _).alloc (Nat.le_refl _) _
  generalize w.alloc (.cells (U8 (List.replicate 32 0)).toArray 25) = w1 at *
  have htop := refTop_any ss.length ss v w1 rfl (hs.kept hB1) hsz hn
  obtain ⟨A, c, rfl, _⟩ := hs
  refine nil_ok (qx_seq (reg_seq ?_))
  refine seq_is hS (by decide) (runs_move rfl) (fun a1 hS => ?_)
  refine seq_is hS (by decide) (runs_len rfl undStrs) (fun a1 hS => ?_)
  refine seq_is hS (by decide) (runs_move rfl) (fun a1 hS => ?_)
  refine seq_op hS (by decide) (runs_call (args := [.slice A ss.length c]) goes47 rfl (str_post (fun w' => Below w1.heap.size w1 w') htop (fun _ h => h))) (fun v3 w3 a3 hp3 hS => ?_)
  obtain ⟨rfl, hB3⟩ := hp3
  have hlen := root_len ss.length (Tree.top (ss.map bl))
  refine seq_op hS (by decide) (runs_call (args := [.int .i64 (ss.length : Int), .string (S (Tree.top (ss.map bl)))]) goes46 rfl (hash_post (fun w' => Below w3.heap.size w3 w') (refRoot_any ss.length _ w3 (by omega) (top_len _) (top_bytes _)) (fun _ h => h))) (fun v4 w4 a4 hp4 hS => ?_)
  obtain ⟨rfl, hB4⟩ := hp4
  have hBw : Below w1.heap.size w1 w4 := hB3.trans (hB4.mono hB3.size)
  have hH4 := hH1.below hBw hH1.lt
  refine seq_none hS (runs_storeRow rfl rfl hH4 (by simp [hlen]) (agg_all _) (by rw [infHash]; simp [hlen])) (fun v6 w6 a6 hp6 hS => ?_)
  obtain ⟨rfl, rfl⟩ := hp6
  exact nil_ok (qx_ret (retRow (t := 0) (p := 2) (by kernel_rfl) hS rfl (has_setRow (cs := U8 (Tree.root ss.length (Tree.top (ss.map bl)))) hH4) rfl undHash rfl (by rw [infHash]; simp [hlen]) ⟨rfl, below_row (hB1.trans (hBw.mono hB1.size)) (Nat.le_refl _) _⟩))
end Go.Proofs.YtooeahpkhocaeaaGreatDoor
/- The contract of number: what the bytes begin with. Conditions: none but that a string is no longer than may be. -/
namespace Go.Proofs.YtooeahpkhocaeaaGreatDoor
open Go.RowKit
set_option maxRecDepth 100000

def RdRel (s : ByteArray) (t u : Value) : Prop := ∃ k v : Nat, k ≤ s.size ∧ k ≤ 9 ∧ v < 128 ^ k ∧ t = .int .u64 (v : Int) ∧ u = .int .i64 (k : Int) ∧ Wire.rd (bl s) = Wire.rdFrom k v ((bl s).drop k)
def rdVal (r : Nat × Nat × Nat) : Value := .tuple #[.int .u64 (r.1 : Int), .int .i64 (r.2.1 : Int), .int .i64 (r.2.2 : Int)]
theorem bl_drop (s : ByteArray) (k : Nat) (h : k < s.size) : (bl s).drop k = s[k].toNat :: (bl s).drop (k + 1) := by
  rw [List.drop_eq_getElem_cons (by rw [bl_length]; exact h)]
  congr 1
  simp [bl]
  rfl
theorem and127 (c : Nat) (h : c < 256) : bits BinOp.and IntKind.u8 (c : Int) 127 = ((c % 128 : Nat) : Int) := by
  have : ∀ c : Nat, c < 256 → bits BinOp.and IntKind.u8 (c : Int) 127 = ((c % 128 : Nat) : Int) := by decide +kernel
  exact this c h
theorem u64_small (n : Nat) (h : n < 18446744073709551616) : IntKind.u64.wrap (n : Int) = (n : Int) := by
  simp [IntKind.wrap, IntKind.signed, IntKind.bits]; omega
theorem or_place (k v d : Nat) (hv : v < 128 ^ k) (hd : d * 128 ^ k < 18446744073709551616) (hk : 128 ^ k ≤ 9223372036854775808) : bits BinOp.or IntKind.u64 (v : Int) (IntKind.u64.wrap ((d : Int) * 2 ^ (7 * k))) = ((v + d * 128 ^ k : Nat) : Int) := by
  have e : (2 : Nat) ^ (7 * k) = 128 ^ k := by rw [Nat.pow_mul]
  have e2 : (d : Int) * 2 ^ (7 * k) = ((d * 128 ^ k : Nat) : Int) := by rw [← e]; simp
  rw [e2, u64_small _ hd, u64_or_nat _ _ (by omega) hd]
  congr 1
  rw [← e] at hv ⊢
  rw [Nat.or_comm, Nat.mul_comm d, ← Nat.two_pow_add_eq_or_of_lt hv, Nat.add_comm]
theorem pow_le (k : Nat) (h : k ≤ 9) : 128 ^ k ≤ 9223372036854775808 := by
  have := Nat.pow_le_pow_right (n := 128) (by omega) h
  simpa using this
set_option maxRecDepth 100000 in
set_option maxHeartbeats 1000000 in
theorem number_any (s : ByteArray) (w : World) :
    Calls Tryz.prog 38 #[.string s] w fun e w' => e = .returned (rdVal (Wire.rd (bl s))) ∧ w = w' := by
  go_enter Tryz.func38, Tryz.ntmps38
  go_wp2_with fail
  go_loop [5, 10] (fun t u => RdRel s t u) (fun _ u => s.size - (intOf u).toNat)
  case atStart => exact ⟨0, 0, Nat.zero_le _, by omega, by decide, rfl, rfl, by simp [Wire.rd]⟩
  case round =>
    obtain ⟨k, v, hk, hk9, hv, ht, hu, he⟩ := hrel
    subst ht hu
    have HE := Lib.hid he
    clear he
    by_cases hlt : k < s.size
    · have hd := bl_drop s k hlt
      have hc := s[k].toNat_lt
      rw [hd] at HE
      clear hd
      generalize hx : s[k].toNat = c at *
      have hc2 : c < 256 := hc
      clear hc
      by_cases hf : (0 < k ∧ c = 0) ∨ (k = 9 ∧ 1 < c)
      · have HR := Lib.hid (HE.out.trans (Wire.rdFrom_form hf))
        clear HE hv
        rcases hf with ⟨h1, rfl⟩ | ⟨rfl, h1⟩
        · go_wp2
          go_ret3
          exact ⟨by rw [HR.out]; rfl, rfl⟩
        · have t2 : ((c : Int) == 0) = false := by simp; omega
          go_wp2
          go_ret3
          exact ⟨by rw [HR.out]; rfl, rfl⟩
      · have hand := and127 c hc2
        have hdl : c % 128 < 128 := Nat.mod_lt _ (by omega)
        have hpl := pow_le k hk9
        have hdp : c % 128 * 128 ^ k < 18446744073709551616 := by
          by_cases h9 : k = 9
          · subst h9; have : c ≤ 1 := by omega
            have : c % 128 ≤ 1 := by omega
            omega
          · have h8 := Nat.pow_le_pow_right (n := 128) (by omega) (show k ≤ 8 by omega)
            have : c % 128 * 128 ^ k ≤ 127 * 128 ^ 8 := Nat.mul_le_mul (by omega) h8
            omega
        have HOr := Lib.hid (or_place k v (c % 128) hv hdp hpl)
        have HW := Lib.hid (u64_small (c % 128) (by omega))
        have hnew : v + c % 128 * 128 ^ k < 128 ^ (k + 1) := by
          rw [Nat.pow_succ]
          have : c % 128 * 128 ^ k ≤ 127 * 128 ^ k := Nat.mul_le_mul_right _ (by omega)
          omega
        have HNew := Lib.hid hnew
        clear hnew hdp hpl hv
        by_cases hc1 : c < 128
        · have HR := Lib.hid (HE.out.trans (Wire.rdFrom_last hf hc1))
          clear HE HNew
          generalize c % 128 = d at *
          by_cases h9 : k = 9
          · subst h9
            have t2 : ((c : Int) == 0) = false := by simp; omega
            have t3 : decide ((1 : Int) < (c : Int)) = false := by simp; omega
            go_wp2
            go_ret3
            exact ⟨by rw [HR.out]; unfold rdVal; rw [← HOr.out, ← HW.out]; rfl, rfl⟩
          · have t4 : ((k : Int) == 9) = false := by simp; omega
            by_cases h0 : k = 0
            · subst h0
              have HO0 := Lib.hid (show bits BinOp.or IntKind.u64 (v : Int) (d : Int) = ((v + d * 128 ^ 0 : Nat) : Int) by
                have := HOr.out
                rwa [show (d : Int) * 2 ^ (7 * 0) = (d : Int) by simp, HW.out] at this)
              go_wp2
              go_ret3
              exact ⟨by rw [HR.out]; unfold rdVal; rw [← HO0.out]; rfl, rfl⟩
            · have t2 : ((c : Int) == 0) = false := by simp; omega
              go_wp2
              go_ret3
              exact ⟨by rw [HR.out]; unfold rdVal; rw [← HOr.out, ← HW.out]; rfl, rfl⟩
        · have HR := Lib.hid (HE.out.trans (Wire.rdFrom_more hf hc1))
          clear HE
          generalize c % 128 = d at *
          have t4 : ((k : Int) == 9) = false := by simp; omega
          have t2 : ((c : Int) == 0) = false := by simp; omega
          by_cases h0 : k = 0
          · subst h0
            have HO0 := Lib.hid (show bits BinOp.or IntKind.u64 (v : Int) (d : Int) = ((v + d * 128 ^ 0 : Nat) : Int) by
                have := HOr.out
                rwa [show (d : Int) * 2 ^ (7 * 0) = (d : Int) by simp, HW.out] at this)
            go_wp2
            go_round
            case rel => exact ⟨1, _, by omega, by omega, HNew.out, by rw [← HO0.out], rfl, HR.out⟩
            case measure => simp [intOf]; omega
          · go_wp2
            go_round
            case rel => exact ⟨k + 1, _, by omega, by omega, HNew.out, by rw [← HOr.out, ← HW.out], by go_num, HR.out⟩
            case measure => simp [intOf]; omega
    · have hn : (bl s).drop k = [] := List.drop_of_length_le (by rw [bl_length]; omega)
      rw [hn] at HE
      clear hn
      go_wp2
      go_ret3
      exact ⟨by rw [HE.out]; rfl, rfl⟩
end Go.Proofs.YtooeahpkhocaeaaGreatDoor
/- The contracts of folded and unfolded. Conditions: a number of 64 bits. -/
namespace Go.Proofs.YtooeahpkhocaeaaGreatDoor
open Go.RowKit
set_option maxRecDepth 100000

theorem not64 (E : Nat) (h : E < 18446744073709551616) : bits BinOp.xor IntKind.u64 IntKind.u64.max (E : Int) = ((18446744073709551615 - E : Nat) : Int) := by
  have e : IntKind.u64.max = ((18446744073709551615 : Nat) : Int) := by decide
  rw [e, u64_xor_nat _ _ (by decide) h]
  congr 1
  apply Nat.eq_of_testBit_eq
  intro i
  rw [Nat.testBit_xor, show (18446744073709551615 : Nat) = 2 ^ 64 - 1 by decide, Nat.testBit_two_pow_sub_one, show 2 ^ 64 - 1 - E = 2 ^ 64 - (E + 1) by omega, Nat.testBit_two_pow_sub_succ (by omega)]
  by_cases hi : i < 64
  · simp [hi]
  · have : E.testBit i = false := Nat.testBit_lt_two_pow (Nat.lt_of_lt_of_le h (by
      have : 2 ^ 64 ≤ 2 ^ i := Nat.pow_le_pow_right (by omega) (by omega)
      simpa using this))
    simp [hi, this]
theorem u64_wrap (n : Int) : IntKind.u64.wrap n = n % 18446744073709551616 := by
  simp [IntKind.wrap, IntKind.signed, IntKind.bits]
theorem folded_any (n : Int) (w : World) (h1 : -9223372036854775808 ≤ n) (h2 : n ≤ 9223372036854775807) :
    Calls Tryz.prog 73 #[.int .i64 n] w fun e w' => e = .returned (.int .u64 (Wire.fold n : Nat)) ∧ w = w' := by
  by_cases h : 0 ≤ n
  · have HE := Lib.hid (show 2 * n = (Wire.fold n : Nat) by unfold Wire.fold; rw [if_pos h]; omega)
    go_enter Tryz.func73, Tryz.ntmps73
    go_wp2
    go_ret
    exact ⟨congrArg (fun n => Ending.returned (.int .u64 n)) HE.out, rfl⟩
  · have HE := Lib.hid (show bits BinOp.xor IntKind.u64 IntKind.u64.max (IntKind.u64.wrap (2 * IntKind.u64.wrap n)) = (Wire.fold n : Nat) by
      have e : IntKind.u64.wrap (2 * IntKind.u64.wrap n) = ((2 * n + 18446744073709551616).toNat : Int) := by
        rw [u64_wrap, u64_wrap]; omega
      rw [e, not64 _ (by omega)]
      unfold Wire.fold
      rw [if_neg h]
      omega)
    go_enter Tryz.func73, Tryz.ntmps73
    go_wp2
    go_ret
    exact ⟨congrArg (fun n => Ending.returned (.int .u64 n)) HE.out, rfl⟩
end Go.Proofs.YtooeahpkhocaeaaGreatDoor
