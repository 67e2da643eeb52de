/- Layer 3: Top, rootOf, Root. Conditions: the table of constants lies as it was laid; leaves of at most 100000 bytes. -/
import Derived.Test.YtooeahpkhocaeaaDoorTSum
namespace Go.Proofs.YtooeahpkhocaeaaDoor
open Go.RowKit
set_option maxRecDepth 100000

theorem sha_bytes (l : List Nat) : Sha.Bytes (Sha.sha l) := by
  have h := Sha.run_ok ((l ++ Sha.ending l.length).length / 64) (l := l ++ Sha.ending l.length) Sha.init_ok
  intro x hx
  unfold Sha.sha Sha.out at hx
  obtain ⟨n, hn, hxn⟩ := List.mem_flatMap.1 hx
  clear hx
  generalize Sha.run ((l ++ Sha.ending l.length).length / 64) Sha.init (l ++ Sha.ending l.length) = s at *
  have hlt : n < 4294967296 := by
    simp only [Sha.St.list, List.mem_cons, List.not_mem_nil, or_false] at hn
    rcases hn with rfl | rfl | rfl | rfl | rfl | rfl | rfl | rfl
    · exact h.a
    · exact h.b
    · exact h.c
    · exact h.d
    · exact h.e
    · exact h.f
    · exact h.g
    · exact h.h
  have hx' : x = n / 16777216 ∨ x = n / 65536 % 256 ∨ x = n / 256 % 256 ∨ x = n % 256 := by simpa [Sha.be4] using hxn
  omega
theorem top_sha (l : List (List Nat)) : ∃ m, Tree.top l = Sha.sha m := by
  by_cases h : l.length < 2
  · match l, h with
    | [], _ => exact ⟨_, Tree.top_nil⟩
    | [s], _ => exact ⟨_, Tree.top_one s⟩
    | _ :: _ :: _, h => simp at h; omega
  · exact ⟨_, Tree.top_more (by omega)⟩
theorem top_len (l : List (List Nat)) : (Tree.top l).length = 32 := by
  obtain ⟨m, h⟩ := top_sha l
  rw [h]; exact Sha.Holds.sumText
theorem top_bytes (l : List (List Nat)) : Sha.Bytes (Tree.top l) := by
  obtain ⟨m, h⟩ := top_sha l
  rw [h]; exact sha_bytes m
section
variable {P : Program} {L : List (Nat × Value)} {w : World} {ty : TypeId}
theorem runs_slice0k {t e : TypeId} {x hi mx : Operand} {g o' m c k : Nat} {i j : Int} (hx : vals L x = some (.slice (some ⟨g, o', none⟩) m c)) (hhi : vals L hi = some (.int .i64 i)) (hmx : vals L mx = some (.int .i64 j)) (hi' : i = (k : Int)) (hj : j = (k : Int)) (hu : P.underlying t = some (.slice e)) (hs : (P.info? e).isSome = true) (hkc : k ≤ c) :
    Runs P (.slice t x none (some hi) (some mx)) ty L w (Is (.slice (some ⟨g, o', none⟩) k k) w) := fun o a K Q ho _ hL hK => by
  have ex := hL x (by simp [Op.operands]) _ hx
  have eh := hL hi (by simp [Op.operands]) _ hhi
  have em := hL mx (by simp [Op.operands]) _ hmx
  subst hi' hj
  obtain ⟨ie, hie⟩ := Option.isSome_iff_exists.1 hs
  have hadd : (⟨g, o', none⟩ : Addr).add 0 = ⟨g, o', none⟩ := rfl
  unfold Oper.wp
  have : (execOp a.eval o).run P w = .ok (.value (.slice (some ⟨g, o', none⟩) k k)) w := by
    simp [execOp, ho, ex, eh, em, Instr.sliceAt, run_underlying hu, Instr.slice, Instr.sliceBounds, Instr.sliceBound, asIntOf, hkc, sizeOf, typeInfo, hie, hadd]
  rw [this]
  exact hK _ _ ⟨rfl, rfl⟩
theorem runs_slicekn {t e : TypeId} {x lo hi mx : Operand} {g o' m c l h : Nat} {i j k : Int} (hx : vals L x = some (.slice (some ⟨g, o', none⟩) m c)) (hlo : vals L lo = some (.int .i64 i)) (hhi : vals L hi = some (.int .i64 j)) (hmx : vals L mx = some (.int .i64 k)) (hi' : i = (l : Int)) (hj : j = (h : Int)) (hk : k = (h : Int)) (hu : P.underlying t = some (.slice e)) (hs : (P.info? e).map (·.size) = some 1) (hlh : l < h) (hhc : h ≤ c) :
    Runs P (.slice t x (some lo) (some hi) (some mx)) ty L w (Is (.slice (some ⟨g, o' + l, none⟩) (h - l) (h - l)) w) := fun o a K Q ho _ hL hK => by
  have ex := hL x (by simp [Op.operands]) _ hx
  have el := hL lo (by simp [Op.operands]) _ hlo
  have eh := hL hi (by simp [Op.operands]) _ hhi
  have em := hL mx (by simp [Op.operands]) _ hmx
  subst hi' hj hk
  obtain ⟨ie, hie⟩ : ∃ ie, P.info? e = some ie := by
    cases h : P.info? e with
    | none => rw [h] at hs; cases hs
    | some ie => exact ⟨ie, rfl⟩
  have hsz : ie.size = 1 := by rw [hie] at hs; simpa using hs
  have hadd : (⟨g, o', none⟩ : Addr).add l = ⟨g, o' + l, none⟩ := by unfold Addr.add; split <;> simp_all
  have h3 : ¬ h = l := by omega
  have h4 : l ≤ h := by omega
  unfold Oper.wp
  have : (execOp a.eval o).run P w = .ok (.value (.slice (some ⟨g, o' + l, none⟩) (h - l) (h - l))) w := by
    simp [execOp, ho, ex, el, eh, em, Instr.sliceAt, run_underlying hu, Instr.slice, Instr.sliceBounds, Instr.sliceBound, asIntOf, hhc, h4, sizeOf, typeInfo, hie, hsz, h3, hadd]
  rw [this]
  exact hK _ _ ⟨rfl, rfl⟩
end
/-- The value v is a slice of the strings ss. -/
def Strs (w : World) (v : Value) (ss : List ByteArray) : Prop :=
  ∃ (A : Option Addr) (c : Nat), v = .slice A ss.length c ∧ ss.length ≤ c ∧ c ≤ maxLen ∧ (0 < ss.length → ∃ b o, A = some ⟨b, o, none⟩ ∧ b < w.heap.size ∧ ∀ i, i < ss.length → w.cell? ⟨b, o + i, none⟩ = some (.string (ss.getD i ByteArray.empty)))
theorem Strs.kept {w w' : World} {v : Value} {ss : List ByteArray} (h : Strs w v ss) (k : Below w.heap.size w w') : Strs w' v ss := by
  obtain ⟨A, c, rfl, h1, h2, h3⟩ := h
  refine ⟨A, c, rfl, h1, h2, fun hp => ?_⟩
  obtain ⟨b, o, rfl, hb, hr⟩ := h3 hp
  exact ⟨b, o, rfl, Nat.lt_of_lt_of_le hb k.size, fun i hi => by rw [k.cell (p := ⟨b, o + i, none⟩) hb]; exact hr i hi⟩
/-- A part of it. -/
theorem strs_part {w : World} {b o : Nat} {ss : List ByteArray} (hb : b < w.heap.size) (h : ∀ i, i < ss.length → w.cell? ⟨b, o + i, none⟩ = some (.string (ss.getD i ByteArray.empty))) (l n : Nat) (hl : l + n ≤ ss.length) (hm : n ≤ maxLen) : Strs w (.slice (some ⟨b, o + l, none⟩) n n) ((ss.drop l).take n) := by
  have hlen : ((ss.drop l).take n).length = n := by simp; omega
  refine ⟨_, n, by rw [hlen], by omega, hm, fun _ => ⟨b, o + l, rfl, hb, fun i hi => ?_⟩⟩
  rw [show o + l + i = o + (l + i) by omega, h (l + i) (by omega)]
  simp only [List.getD_eq_getElem?_getD, List.getElem?_take, List.getElem?_drop, if_pos (show i < n by omega)]
theorem hash_post {f : FuncId} {args : Array Value} {w : World} {l : List Nat} (C : World → Prop) (hc : Calls Tryd.prog f args w fun e w' => e = .returned (.agg (U8 l).toArray) ∧ Below w.heap.size w w') (hC : ∀ w', Below w.heap.size w w' → C w') :
    Calls Tryd.prog f args w fun e w' => ∃ v, e = .returned v ∧ v = .agg (U8 l).toArray ∧ C w' := hc.mono (by rintro e w' ⟨rfl, h⟩; exact ⟨_, rfl, rfl, hC w' h⟩)
set_option maxRecDepth 100000 in
set_option maxHeartbeats 1000000 in
theorem top_any : ∀ (n : Nat) (ss : List ByteArray) (v : Value) (w : World), ss.length = n → Strs w v ss → (∀ s ∈ ss, s.size ≤ 100000) → n ≤ 1000000 → Kept w →
    Calls Tryd.prog 45 #[v] w fun e w' => e = .returned (.agg (U8 (Tree.top (ss.map bl))).toArray) ∧ Below w.heap.size w w' := by
  intro n
  induction n using Nat.strongRecOn with
  | _ n ih =>
    intro ss v w hn hs hsz hnm hk
    refine calls_qx (args := [v]) 32 Tryd.func45 rfl (by kernel_rfl) (by simp) (fun a hS => ?_)
    refine qx_seq (reg_seq ?_)
    refine seq_op hS (by decide) alloc_hash (fun v1 w1 a1 hp1 hS => ?_)
    obtain ⟨rfl, rfl⟩ := hp1
    have hH1 := Has.new w 23 (U8 (List.replicate 32 0))
    have hB1 : Below w.heap.size w (w.alloc (.cells (U8 (List.replicate 32 0)).toArray 23)) := (Below.refl _ _).alloc (Nat.le_refl _) _
    have hz1 : (w.alloc (.cells (U8 (List.replicate 32 0)).toArray 23)).heap.size = w.heap.size + 1 := by simp
    generalize w.alloc (.cells (U8 (List.replicate 32 0)).toArray 23) = w1 at *
    have hs1 := hs.kept hB1
    have hk1 := hk.below hB1 hk.pos
    obtain ⟨A, c, rfl, hc1, hc2, hA⟩ := hs1
    have hlen := top_len (ss.map bl)
    have fin : ∀ (w5 : World) (a5 : Act) (L : List (Nat × Value)), Below w1.heap.size w1 w5 → Sees 32 L a5 → look L 2 = some (.pointer (some ⟨w.heap.size, 0, none⟩)) → ∀ u, Has w5 w.heap.size 23 u → u.length = 32 →
        Rets Tryd.prog Tryd.f45 (fun e w' => e = .returned (.agg (U8 (Tree.top (ss.map bl))).toArray) ∧ Below w.heap.size w w') a5 (w5.setRow w.heap.size (U8 (Tree.top (ss.map bl))).toArray) := fun w5 a5 L hB5 hS hL u hu _ =>
      retRow (t := 0) (p := 2) (by kernel_rfl) hS hL (has_setRow (cs := U8 (Tree.top (ss.map bl))) hu) rfl undHash rfl (by rw [infHash]; simp [hlen]) ⟨rfl, below_row (hB1.trans (hB5.mono (by omega))) (Nat.le_refl _) _⟩
    refine nil_ok (qx_seq (qx_seq (reg_seq ?_)))
    refine seq_is hS (by decide) (runs_move rfl) (fun a1 hS => ?_)
    refine seq_is hS (by decide) (runs_len rfl undStrs) (fun a1 hS => ?_)
    refine nil_ok (qx_block (qx_seq (reg_seq ?_)))
    by_cases h0 : ss.length = 0
    · refine seq_is hS (by decide) (runs_eql (r := true) rfl rfl (by rw [h0]; rfl)) (fun a1 hS => ?_)
      refine seq_is hS (by decide) (runs_assign rfl) (fun a1 hS => ?_)
      refine nil_ok (wp_cond_true (hS.eval rfl) (qx_seq (reg_seq ?_)))
      have hps : ss = [] := List.length_eq_zero_iff.1 h0
      have ht : Tree.top (ss.map bl) = Sha.sha [2] := by rw [hps]; exact Tree.top_nil
      have hsum := sum_any 2 [] (.slice none 0 0) w1 (by omega) ⟨none, 0, [], rfl, by simp, by unfold maxLen; omega, rfl, fun h => by simp at h, fun i u l hu => by simp at hu⟩ (fun l hl => by simp at hl) hk1 (by simp) (by simp)
      rw [show (2 :: ([] : List (List Nat)).flatten) = [2] from rfl, ← ht] at hsum
      refine seq_op hS (by decide) (runs_call (args := [.int .u8 2, .slice none 0 0]) goes49 rfl (hash_post (fun w' => Below w1.heap.size w1 w') hsum (fun _ h => h))) (fun v5 w5 a5 hp5 hS => ?_)
      obtain ⟨rfl, hB5⟩ := hp5
      have hH5 := hH1.below hB5 hH1.lt
      refine seq_none hS (runs_storeRow rfl rfl hH5 (by simp [hlen]) (agg_all _) (by rw [infHash]; simp [hlen])) (fun v6 w6 a6 hp6 hS => ?_)
      obtain ⟨rfl, rfl⟩ := hp6
      exact nil_ok (qx_ret (fin w5 a6 _ hB5 hS rfl _ hH5 (by simp)))
    · refine seq_is hS (by decide) (runs_eql (r := false) rfl rfl (by rw [beq_eq_false_iff_ne]; omega)) (fun a1 hS => ?_)
      refine seq_is hS (by decide) (runs_assign rfl) (fun a1 hS => ?_)
      refine nil_ok (wp_cond_false (hS.eval rfl) (qx_seq (reg_seq ?_)))
      obtain ⟨b, o, rfl, hb, hcell⟩ := hA (by omega)
      by_cases h1 : ss.length = 1
      · refine seq_is hS (by decide) (runs_eql (r := true) rfl rfl (by rw [h1]; rfl)) (fun a1 hS => ?_)
        refine seq_is hS (by decide) (runs_assign rfl) (fun a1 hS => ?_)
        refine nil_ok (wp_cond_true (hS.eval rfl) (qx_seq (reg_seq ?_)))
        obtain ⟨s, hss⟩ : ∃ s, ss = [s] := List.length_eq_one_iff.1 h1
        have ht : Tree.top (ss.map bl) = Tree.leaf (bl s) := by rw [hss]; exact Tree.top_one _
        have hc0 := hcell 0 (by omega)
        rw [hss] at hc0
        have hs0 : s.size ≤ 100000 := hsz s (by rw [hss]; simp)
        have hleaf := leaf_any s w1 hs0 hk1
        rw [← ht] at hleaf
        refine seq_is hS (by decide) (runs_move rfl) (fun a1 hS => ?_)
        refine seq_is hS (by decide) (runs_indexAddr (j := 0) rfl rfl undStrs infStr1 rfl (by omega)) (fun a1 hS => ?_)
        refine seq_is hS (by decide) (runs_load rfl (by kernel_rfl) hc0) (fun a1 hS => ?_)
        refine seq_op hS (by decide) (runs_call (args := [.string s]) goes50 rfl (hash_post (fun w' => Below w1.heap.size w1 w') hleaf (fun _ h => h))) (fun v5 w5 a5 hp5 hS => ?_)
        obtain ⟨rfl, hB5⟩ := hp5
        have hH5 := hH1.below hB5 hH1.lt
        refine seq_none hS (runs_storeRow rfl rfl hH5 (by simp [hlen]) (agg_all _) (by rw [infHash]; simp [hlen])) (fun v6 w6 a6 hp6 hS => ?_)
        obtain ⟨rfl, rfl⟩ := hp6
        exact nil_ok (qx_ret (fin w5 a6 _ hB5 hS rfl _ hH5 (by simp)))
      · refine seq_is hS (by decide) (runs_eql (r := false) rfl rfl (by rw [beq_eq_false_iff_ne]; omega)) (fun a1 hS => ?_)
        refine seq_is hS (by decide) (runs_assign rfl) (fun a1 hS => ?_)
        refine nil_ok (wp_cond_false (hS.eval rfl) (wp_skip ?_))
        have h2 : 2 ≤ ss.length := by omega
        have hhl := Tree.half_lt h2
        have hhp := Tree.half_pos ss.length
        have ht : Tree.top (ss.map bl) = Tree.node (Tree.top ((ss.map bl).take (Tree.half ss.length))) (Tree.top ((ss.map bl).drop (Tree.half ss.length))) := by
          have := Tree.top_more (l := ss.map bl) (by simpa using h2)
          rwa [List.length_map] at this
        have hhz : halfZ (ss.length : Int) = Tree.half ss.length := by unfold halfZ; rw [if_neg (by omega), Int.toNat_natCast]
        have hhalf := half_any (ss.length : Int) w1 (by omega)
        rw [hhz] at hhalf
        generalize Tree.half ss.length = k at *
        refine qx_seq (reg_seq ?_)
        refine seq_is hS (by decide) (runs_move rfl) (fun a1 hS => ?_)
        refine seq_is hS (by decide) (runs_len rfl undStrs) (fun a1 hS => ?_)
        refine seq_is hS (by decide) (runs_call (args := [.int .i64 (ss.length : Int)]) (Post := Is (.int .i64 (k : Int)) w1) goes51 rfl (hhalf.mono (by rintro e w' ⟨rfl, rfl⟩; exact ⟨_, rfl, rfl, rfl⟩))) (fun a1 hS => ?_)
        refine seq_is hS (by decide) (runs_assign rfl) (fun a1 hS => ?_)
        have hml : ss.length ≤ maxLen := by omega
        have hp1 := strs_part hb hcell 0 k (by omega) (by omega)
        have hp2 := strs_part hb hcell k (ss.length - k) (by omega) (by omega)
        rw [Nat.add_zero, List.drop_zero] at hp1
        have ht2 : (ss.drop k).take (ss.length - k) = ss.drop k := List.take_of_length_le (by simp)
        rw [ht2] at hp2
        have c1 : ∀ w', Below w1.heap.size w1 w' → Calls Tryd.prog 45 [Value.slice (some ⟨b, o, none⟩) k k].toArray w' fun e w2 => ∃ v, e = .returned v ∧ v = .agg (U8 (Tree.top ((ss.map bl).take k))).toArray ∧ Below w1.heap.size w1 w2 := fun w' hB' => by
          have := ih k (by omega) (ss.take k) _ w' (by simp; omega) (hp1.kept hB') (fun s h => hsz s (List.mem_of_mem_take h)) (by omega) (hk1.below hB' hk1.pos)
          rw [List.map_take] at this
          exact hash_post _ this (fun _ h => hB'.trans (h.mono hB'.size))
        have c2 : ∀ w', Below w1.heap.size w1 w' → Calls Tryd.prog 45 [Value.slice (some ⟨b, o + k, none⟩) (ss.length - k) (ss.length - k)].toArray w' fun e w2 => ∃ v, e = .returned v ∧ v = .agg (U8 (Tree.top ((ss.map bl).drop k))).toArray ∧ Below w1.heap.size w1 w2 := fun w' hB' => by
          have := ih (ss.length - k) (by omega) (ss.drop k) _ w' (by simp) (hp2.kept hB') (fun s h => hsz s (List.mem_of_mem_drop h)) (by omega) (hk1.below hB' hk1.pos)
          rw [List.map_drop] at this
          exact hash_post _ this (fun _ h => hB'.trans (h.mono hB'.size))
        have c3 : ∀ w', Below w1.heap.size w1 w' → Calls Tryd.prog 52 [Value.agg (U8 (Tree.top ((ss.map bl).take k))).toArray, .agg (U8 (Tree.top ((ss.map bl).drop k))).toArray].toArray w' fun e w2 => ∃ v, e = .returned v ∧ v = .agg (U8 (Tree.top (ss.map bl))).toArray ∧ Below w1.heap.size w1 w2 := fun w' hB' => by
          have := node_any _ _ w' (top_len ((ss.map bl).take k)) (top_len ((ss.map bl).drop k)) (top_bytes _) (top_bytes _) (hk1.below hB' hk1.pos)
          rw [← ht] at this
          exact hash_post _ this (fun _ h => hB'.trans (h.mono hB'.size))
        refine nil_ok (qx_seq (reg_tail (fun w' => Below w1.heap.size w1 w') 14 1 mixed rfl (by kernel_rfl) hS (Below.refl _ _) (fun _ h => h.drew) ?_))
        refine qs_is rfl (fun w' hw => runs_move rfl) ?_
        refine qs_is rfl (fun w' hw => runs_move rfl) ?_
        refine qs_is rfl (fun w' hw => runs_move rfl) ?_
        refine qs_is rfl (fun w' hw => runs_slice0k rfl rfl rfl rfl rfl undStrs rfl (by omega)) ?_
        refine qs_op rfl (fun w' hw => runs_call (args := [.slice (some ⟨b, o, none⟩) k k]) goes45 rfl (c1 w' hw)) ?_
        refine qs_is rfl (fun w' hw => runs_move rfl) ?_
        refine qs_is rfl (fun w' hw => runs_move rfl) ?_
        refine qs_is rfl (fun w' hw => runs_move rfl) ?_
        refine qs_is rfl (fun w' hw => runs_len rfl undStrs) ?_
        refine qs_is rfl (fun w' hw => runs_move rfl) ?_
        refine qs_is rfl (fun w' hw => runs_len rfl undStrs) ?_
        refine qs_is rfl (fun w' hw => runs_slicekn rfl rfl rfl rfl rfl rfl rfl undStrs infStr1 (by omega) (by omega)) ?_
        refine qs_op rfl (fun w' hw => runs_call (args := [.slice (some ⟨b, o + k, none⟩) (ss.length - k) (ss.length - k)]) goes45 rfl (c2 w' hw)) ?_
        refine qs_op rfl (fun w' hw => runs_call (args := [.agg (U8 (Tree.top ((ss.map bl).take k))).toArray, .agg (U8 (Tree.top ((ss.map bl).drop k))).toArray]) goes52 rfl (c3 w' hw)) ?_
        refine (fun a5 w5 hS5 hB5 => ?_)
        have hH5 := hH1.below hB5 hH1.lt
        refine tail_none 14 (by kernel_rfl) rfl hS5 (runs_storeRow rfl rfl hH5 (by simp [hlen]) (agg_all _) (by rw [infHash]; simp [hlen])) (fun v7 w7 a7 hp7 hS7 => ⟨trivial, ?_⟩)
        obtain ⟨rfl, rfl⟩ := hp7
        refine wpAnyH_done (by kernel_rfl) ?_ _
        exact qx_ret (fin w5 a7 _ hB5 hS7 rfl _ hH5 (by simp))
set_option maxRecDepth 100000 in
set_option maxHeartbeats 1000000 in
theorem rootOf_any (n : Nat) (t : List Nat) (w : World) (hn : n < 9223372036854775808) (ht : t.length = 32) (hbt : Sha.Bytes t) (hk : Kept w) :
    Calls Tryd.prog 44 #[.int .i64 (n : Int), .agg (U8 t).toArray] w fun e w' => e = .returned (.agg (U8 (Tree.root n t)).toArray) ∧ Below w.heap.size w w' := by
  refine calls_qx (args := [.int .i64 (n : Int), .agg (U8 t).toArray]) 19 Tryd.func44 rfl (by kernel_rfl) (by simp) (fun a hS => ?_)
  obtain ⟨ib, hib, hzb0, hzbs, hzbb⟩ := info_parts infBytes
  have hl10 := Wire.num_len10 n (by omega)
  refine qx_seq (reg_seq ?_)
  refine seq_op hS (by decide) (runs_box rfl) (fun v1 w1 a1 hp1 hS => ?_)
  obtain ⟨rfl, rfl⟩ := hp1
  have hX1 : Has (w.alloc (.cells (Value.agg (U8 t).toArray).cells 23)) w.heap.size 23 (U8 t) := Has.new w 23 (U8 t)
  have hB1 : Below w.heap.size w (w.alloc (.cells (Value.agg (U8 t).toArray).cells 23)) := (Below.refl _ _).alloc (Nat.le_refl _) _
  have hz1 : (w.alloc (.cells (Value.agg (U8 t).toArray).cells 23)).heap.size = w.heap.size + 1 := by simp
  generalize w.alloc (.cells (Value.agg (U8 t).toArray).cells 23) = w1 at *
  refine seq_op hS (by decide) alloc_hash (fun v1 w3 a1 hp1 hS => ?_)
  obtain ⟨rfl, rfl⟩ := hp1
  have hH2 := Has.new w1 23 (U8 (List.replicate 32 0))
  have hB2 : Below w1.heap.size w1 (w1.alloc (.cells (U8 (List.replicate 32 0)).toArray 23)) := (Below.refl _ _).alloc (Nat.le_refl _) _
  have hz2 : (w1.alloc (.cells (U8 (List.replicate 32 0)).toArray 23)).heap.size = w1.heap.size + 1 := by simp
  generalize w1.alloc (.cells (U8 (List.replicate 32 0)).toArray 23) = w2 at *
  refine nil_ok (qx_seq (reg_seq ?_))
  refine seq_op hS (by decide) (runs_call (args := []) (Post := fun v w' => v = .pointer (some ⟨w2.heap.size, 0, none⟩) ∧ w' = w2.alloc (.cells #[.slice none 0 0] 73)) goes19 rfl ((newOut_any w2).mono (by rintro e w' ⟨rfl, rfl⟩; exact ⟨_, rfl, rfl, rfl⟩))) (fun v1 w3 a1 hp1 hS => ?_)
  obtain ⟨rfl, rfl⟩ := hp1
  have hO3 := out_new w2
  have hB3 : Below w2.heap.size w2 (w2.alloc (.cells #[.slice none 0 0] 73)) := (Below.refl _ _).alloc (Nat.le_refl _) _
  have hz3 : (w2.alloc (.cells #[.slice none 0 0] 73)).heap.size = w2.heap.size + 1 := by simp
  generalize w2.alloc (.cells #[.slice none 0 0] 73) = w3 at *
  refine seq_is hS (by decide) (runs_assign rfl) (fun a1 hS => ?_)
  refine nil_ok (qx_seq (reg_seq ?_))
  refine seq_is hS (by decide) (runs_move rfl) (fun a1 hS => ?_)
  refine seq_is hS (by decide) (runs_move rfl) (fun a1 hS => ?_)
  refine seq_is hS (by decide) (runs_convInt rfl rfl undU64 (IntWalk.u64_in _ (by omega))) (fun a1 hS => ?_)
  refine seq_op hS (by decide) (runs_call (args := [.pointer (some ⟨w2.heap.size, 0, none⟩), .int .u64 (n : Int)]) (Post := fun _ w' => Wrote w3 w2.heap.size (.slice none 0 0) ([] ++ Wire.num n) w') goes20 rfl ((outNum_any w2.heap.size n _ [] w3 (by omega) hO3 (by simp)).mono (by rintro e w' ⟨rfl, h⟩; exact ⟨_, rfl, h⟩))) (fun v1 w4 a1 hp1 hS => ?_)
  obtain ⟨v4, hO4, hF4, hL4⟩ := hp1
  rw [List.nil_append] at hO4
  have hB4 : Below w2.heap.size w3 w4 := hF4.below (Nat.le_refl _) (by omega) (fun k hk => by simp [Value.ownBlock] at hk)
  have hX4 : Has w4 w.heap.size 23 (U8 t) := ((hX1.below hB2 (by omega)).below hB3 (by omega)).below hB4 (by omega)
  refine nil_ok (qx_seq (reg_seq ?_))
  refine seq_is hS (by decide) (runs_move rfl) (fun a1 hS => ?_)
  refine seq_is hS (by decide) (runs_loadRow rfl hX4 undHash rfl (by rw [infHash]; simp [ht])) (fun a1 hS => ?_)
  refine seq_op hS (by decide) (runs_call (args := [.pointer (some ⟨w2.heap.size, 0, none⟩), .agg (U8 t).toArray]) (Post := fun _ w' => Wrote w4 w2.heap.size v4 (Wire.num n ++ t) w') goes21 rfl ((outHash_any w2.heap.size t v4 _ w4 ht hO4 (by omega)).mono (by rintro e w' ⟨rfl, h⟩; exact ⟨_, rfl, h⟩))) (fun v1 w5 a1 hp1 hS => ?_)
  obtain ⟨v5, hO5, hF5, hL5⟩ := hp1
  have hB5 : Below w2.heap.size w4 w5 := hF5.below (Nat.le_refl _) (by have := hB4.size; omega) (fun k hk => by
    rcases hL4 with h | ⟨j, h, hj⟩
    · rw [h] at hk; simp [Value.ownBlock] at hk
    · rw [h] at hk; injection hk with hk; omega)
  refine nil_ok (qx_seq (reg_seq ?_))
  refine seq_is hS (by decide) (runs_move rfl) (fun a1 hS => ?_)
  refine seq_is hS (by decide) (runs_call (args := [.pointer (some ⟨w2.heap.size, 0, none⟩)]) (Post := Is (.string (S (Wire.num n ++ t))) w5) goes22 rfl ((done_any w2.heap.size v5 _ w5 hO5).mono (by rintro e w' ⟨rfl, rfl⟩; exact ⟨_, rfl, rfl, rfl⟩))) (fun a1 hS => ?_)
  have hbn : Sha.Bytes (Wire.num n ++ t) := bytes_append (Wire.num_bytes n) hbt
  obtain ⟨w6, c6, hcv, hz6, hB6, hS6⟩ := conv_str w5 (S (Wire.num n ++ t)) (by rw [S_size, List.length_append]; unfold maxLen; omega)
  rw [bl_S hbn] at hS6
  rw [S_size] at hcv hS6
  refine seq_is hS (by decide) (runs_conv rfl hcv) (fun a1 hS => ?_)
  refine seq_op hS (by decide) (runs_buildSlice (pv := [(0, .slice (some ⟨w5.heap.size, 0, none⟩) (Wire.num n ++ t).length c6)]) rfl undParts hib hzb0 hzbs (by omega) (by omega) (cells := #[.slice (some ⟨w5.heap.size, 0, none⟩) (Wire.num n ++ t).length c6]) (by kernel_rfl)) (fun v1 w7 a1 hp1 hS => ?_)
  obtain ⟨rfl, rfl⟩ := hp1
  have hP := parts_of hS6
  have hB7 : Below w6.heap.size w6 (w6.alloc (.cells #[.slice (some ⟨w5.heap.size, 0, none⟩) (Wire.num n ++ t).length c6] 45)) := (Below.refl _ _).alloc (Nat.le_refl _) _
  generalize w6.alloc (.cells #[.slice (some ⟨w5.heap.size, 0, none⟩) (Wire.num n ++ t).length c6] 45) = w7 at *
  have s4 := hB4.size
  have s5 := hB5.size
  have hB27 : Below w2.heap.size w2 w7 := (((hB3.trans hB4).trans hB5).trans (hB6.mono (by omega))).trans (hB7.mono (by omega))
  have hBw7 : Below w.heap.size w w7 := (hB1.trans (hB2.mono (by omega))).trans (hB27.mono (by omega))
  have hH7 : Has w7 w1.heap.size 23 (U8 (List.replicate 32 0)) := hH2.below hB27 (by omega)
  have hsum := sum_any 3 [Wire.num n ++ t] _ w7 (by omega) hP (fun l hl => by rw [List.mem_singleton.1 hl]; exact hbn) (hk.below hBw7 hk.pos) (by simp; omega) (by simp)
  rw [show [Wire.num n ++ t].flatten = Wire.num n ++ t by simp] at hsum
  refine seq_op hS (by decide) (runs_call (args := [.int .u8 3, .slice (some ⟨w6.heap.size, 0, none⟩) 1 1]) goes49 rfl (hash_post (fun w' => Below w7.heap.size w7 w') hsum (fun _ h => h))) (fun v8 w8 a8 hp8 hS => ?_)
  obtain ⟨rfl, hB8⟩ := hp8
  have hH8 := hH7.below hB8 hH7.lt
  have hlen : (Sha.sha (3 :: (Wire.num n ++ t))).length = 32 := Sha.Holds.sumText
  refine seq_none hS (runs_storeRow rfl rfl hH8 (by simp [hlen]) (agg_all _) (by rw [infHash]; simp [hlen])) (fun v6 w6 a6 hp6 hS => ?_)
  obtain ⟨rfl, rfl⟩ := hp6
  exact nil_ok (qx_ret (retRow (t := 0) (p := 4) (by kernel_rfl) hS rfl (has_setRow (cs := U8 (Sha.sha (3 :: (Wire.num n ++ t)))) hH8) rfl undHash rfl (by rw [infHash]; simp [hlen]) ⟨rfl, below_row (hBw7.trans (hB8.mono hBw7.size)) (by omega) _⟩))
set_option maxRecDepth 100000 in
theorem root_any (ss : List ByteArray) (v : Value) (w : World) (hs : Strs w v ss) (hsz : ∀ s ∈ ss, s.size ≤ 100000) (hnm : ss.length ≤ 1000000) (hk : Kept w) :
    Calls Tryd.prog 40 #[v] w fun e w' => e = .returned (.agg (U8 (Tree.root ss.length (Tree.top (ss.map bl)))).toArray) ∧ Below w.heap.size w w' := by
  refine calls_qx (args := [v]) 8 Tryd.func40 rfl (by kernel_rfl) (by simp) (fun a hS => ?_)
  refine qx_seq (reg_seq ?_)
  refine seq_op hS (by decide) alloc_hash (fun v1 w1 a1 hp1 hS => ?_)
  obtain ⟨rfl, rfl⟩ := hp1
  have hH1 := Has.new w 23 (U8 (List.replicate 32 0))
  have hB1 : Below w.heap.size w (w.alloc (.cells (U8 (List.replicate 32 0)).toArray 23)) := (Below.refl _ _).alloc (Nat.le_refl _) _
  generalize w.alloc (.cells (U8 (List.replicate 32 0)).toArray 23) = w1 at *
  have hs1 := hs.kept hB1
  have hk1 := hk.below hB1 hk.pos
  have htop := top_any ss.length ss v w1 rfl hs1 hsz hnm hk1
  obtain ⟨A, c, rfl, _⟩ := hs1
  refine nil_ok (qx_seq (reg_seq ?_))
  refine seq_is hS (by decide) (runs_move rfl) (fun a1 hS => ?_)
  refine seq_is hS (by decide) (runs_len rfl undStrs) (fun a1 hS => ?_)
  refine seq_is hS (by decide) (runs_move rfl) (fun a1 hS => ?_)
  refine seq_op hS (by decide) (runs_call (args := [.slice A ss.length c]) goes45 rfl (hash_post (fun w' => Below w1.heap.size w1 w') htop (fun _ h => h))) (fun v2 w2 a2 hp2 hS => ?_)
  obtain ⟨rfl, hB2⟩ := hp2
  have hroot := rootOf_any ss.length _ w2 (by omega) (top_len (ss.map bl)) (top_bytes _) (hk1.below hB2 hk1.pos)
  refine seq_op hS (by decide) (runs_call (args := [.int .i64 (ss.length : Int), .agg (U8 (Tree.top (ss.map bl))).toArray]) goes44 rfl (hash_post (fun w' => Below w2.heap.size w2 w') hroot (fun _ h => h))) (fun v3 w3 a3 hp3 hS => ?_)
  obtain ⟨rfl, hB3⟩ := hp3
  have hH3 := (hH1.below hB2 hH1.lt).below hB3 (Nat.lt_of_lt_of_le hH1.lt hB2.size)
  have hlen : (Tree.root ss.length (Tree.top (ss.map bl))).length = 32 := Sha.Holds.sumText
  refine seq_none hS (runs_storeRow rfl rfl hH3 (by simp [hlen]) (agg_all _) (by rw [infHash]; simp [hlen])) (fun v6 w6 a6 hp6 hS => ?_)
  obtain ⟨rfl, rfl⟩ := hp6
  exact nil_ok (qx_ret (retRow (t := 0) (p := 2) (by kernel_rfl) hS rfl (has_setRow (cs := U8 (Tree.root ss.length (Tree.top (ss.map bl)))) hH3) rfl undHash rfl (by rw [infHash]; simp [hlen]) ⟨rfl, below_row ((hB1.trans (hB2.mono hB1.size)).trans (hB3.mono (Nat.le_trans hB1.size hB2.size))) (Nat.le_refl _) _⟩))
end Go.Proofs.YtooeahpkhocaeaaDoor
