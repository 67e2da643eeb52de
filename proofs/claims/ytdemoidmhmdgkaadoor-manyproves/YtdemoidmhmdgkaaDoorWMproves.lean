/- The walk of ManyAll. Conditions: the table of constants lies as it was laid. -/
import Derived.Test.YtdemoidmhmdgkaaDoorMAwake
import Derived.Test.YtdemoidmhmdgkaaDoorMRTop
namespace Go.Proofs.YtdemoidmhmdgkaaDoor
open Go.RowKit Many
set_option maxRecDepth 100000

theorem rise_from (n : Nat) : ∀ (k lo : Nat), lo + k = n → Rise lo n ((List.range k).map (· + lo))
  | 0, _, _ => trivial
  | k + 1, lo, h => by
    rw [List.range_succ_eq_map, List.map_cons, List.map_map]
    refine ⟨by omega, by omega, ?_⟩
    have := rise_from n k (lo + 1) (by omega)
    rw [show (0 + lo + 1) = lo + 1 by omega]
    exact (List.map_congr_left (fun x _ => by simp only [Function.comp]; omega) : (List.range k).map ((· + lo) ∘ Nat.succ) = (List.range k).map (· + (lo + 1))) ▸ this
theorem rise_range (n : Nat) : Rise 0 n (List.range n) := by
  have := rise_from n n 0 (by omega)
  simpa using this
theorem all_none_aux : ∀ (n first : Nat) (l : List Nat), 1 ≤ n → l.length = n → Rise first (first + n) l → (parts first n l).length = 0 := by
  intro n
  induction n using Nat.strongRecOn with
  | _ n ih =>
    intro first l h1 hl hr
    have hne : l ≠ [] := by intro h; subst h; simp at hl; omega
    by_cases hn : n < 2
    · rw [parts_small hne hn]; rfl
    · have hh := Tree.half_lt (n := n) (by omega)
      have hp := Tree.half_pos n
      have h3 := rise_take (first + Tree.half n) hr
      have h4 := rise_drop (first + Tree.half n) hr
      have l3 := rise_len h3
      have l4 := rise_len h4
      have hsum : (l.take (belowN (first + Tree.half n) l)).length + (l.drop (belowN (first + Tree.half n) l)).length = n := by rw [← List.length_append, List.take_append_drop, hl]
      rw [parts_more hne hn, List.length_append, ih _ hh first _ hp (by omega) h3, ih (n - Tree.half n) (by omega) _ _ (by omega) (by omega) (by rwa [show first + Tree.half n + (n - Tree.half n) = first + n by omega])]
theorem all_none (l : List (List Nat)) (h : 0 < l.length) : (provesL l (List.range l.length)).length = 0 := by
  unfold provesL
  rw [List.length_map]
  exact all_none_aux l.length 0 _ h (by simp) (by rw [Nat.zero_add]; exact rise_range _)
/-- A proof proves its leaves. -/
theorem all_good (l : List (List Nat)) (at_ : List Nat) (hr : Rise 0 l.length at_) (hn : l.length ≤ 65536) : checkM (Tree.root l.length (Tree.top l)) l.length (ofN at_) (at_.map (fun x => l.getD x [])) (provesL l at_) = true := by
  have hrp : risesB (l.length : Int) (-1) (ofN at_) = true := rises_of l.length at_ (-1) hr (by omega)
  have ha : askB (l.length : Int) (ofN at_) = true := by
    unfold askB
    rw [hrp, show decide ((0 : Int) ≤ l.length) = true by simp, show decide ((l.length : Int) ≤ 65536) = true by simp; omega]; rfl
  have hz : sizeZ (l.length : Int) (ofN at_) = (parts 0 l.length at_).length := by unfold sizeZ; rw [if_pos ha, toN_of]; simp
  unfold checkM
  rw [if_pos ⟨ha, by simp [ofN], by rw [hz]; simp [provesL]⟩, toN_of, Int.toNat_natCast]
  have := chk_proof l l.length 0 at_ (by rwa [Nat.zero_add]) (by omega)
  unfold provesL
  rw [this, List.drop_zero, List.take_length]; simp
set_option maxHeartbeats 4000000 in
theorem all_walk (v : Value) (ss : List ByteArray) (w : World) (hs : Strs w v ss) (hk : Kept w) : Calls Tryd.prog 8 #[v] w fun e w' => e = .returned (.bool true) ∧ Below w.heap.size w w' := by
  obtain ⟨A, c, rfl, hs0⟩ := id hs
  refine calls_qx (args := [.slice A ss.length c]) 97 Tryd.func8 rfl (by kernel_rfl) (by simp) (fun a hS => ?_)
  refine qx_seq (reg_seq ?_)
  refine seq_is hS (by decide) (runs_assign rfl) (fun a1 hS => ?_)
  refine nil_ok (qx_seq (qx_seq (reg_seq ?_)))
  refine seq_op hS (by decide) (runs_call (args := []) goes19 rfl (awakeM_call w hk)) (fun v1 w1 a1 hp1 hS => ?_)
  obtain ⟨rfl, hB1⟩ := hp1
  have hk1 := hk.below hB1 hk.pos
  have hs1 := hs.kept hB1
  refine seq_is hS (by decide) (runs_not (b := true) rfl) (fun a1 hS => ?_)
  refine seq_is hS (by decide) (runs_move rfl) (fun a1 hS => ?_)
  refine seq_yis hS (by decide) rfl (by decide) rfl (runs_move rfl) (fun a1 hS => ?_)
  refine seq_yis hS (by decide) rfl (by decide) rfl (runs_call (args := [.slice A ss.length c]) goes12 rfl (few_call ss _ w1 hs1)) (fun a1 hS => ?_)
  have last : ∀ (L : List (Nat × Value)) (a9 : Act) (N : Act → World → Prop) (X : Nat → Act → World → Prop), Sees 97 L a9 → ((Tryd.f8.body.bind (regionIn 2)).getD .skip).wp Tryd.prog (Qx (fun a' w' => Code.ret.wp Tryd.prog (Qx N X (Rets Tryd.prog Tryd.f8 (fun e w' => e = .returned (.bool true) ∧ Below w.heap.size w w'))) a' w') X (Rets Tryd.prog Tryd.f8 (fun e w' => e = .returned (.bool true) ∧ Below w.heap.size w w'))) a9 w1 := fun L a9 N X hS => by
    refine reg_seq ?_
    refine seq_op hS (by decide) (runs_call (args := []) goes19 rfl (awakeM_call w1 hk1)) (fun v2 w2 a2 hp2 hS => ?_)
    obtain ⟨rfl, hB2⟩ := hp2
    refine seq_is hS (by decide) (runs_assign rfl) (fun a1 hS => ?_)
    exact nil_ok (qx_ret (ret1 (t := 2) (by kernel_rfl) hS rfl ⟨rfl, hB1.trans (hB2.mono hB1.size)⟩))
  cases hf : fewB ss with
  | false =>
    rw [hf] at hS
    refine seq_yis hS (by decide) rfl (by decide) rfl (runs_not (b := false) rfl) (fun a1 hS => ?_)
    refine seq_is hS (by decide) (runs_pick rfl rfl) (fun a1 hS => ?_)
    exact nil_ok (wp_cond_true (hS.eval rfl) (qx_seq (last _ _ _ _ hS)))
  | true =>
    rw [hf] at hS
    simp only [fewB, Bool.and_eq_true, List.all_eq_true, decide_eq_true_eq] at hf
    obtain ⟨hsz, hn20⟩ := hf
    have hsz1 : ∀ s ∈ ss, s.size ≤ 100000 := fun s h => by have := hsz s h; omega
    have hsz2 : ∀ s ∈ ss, s.size ≤ 900 := fun s h => by have := hsz s h; omega
    obtain ⟨i9, hi9, hz9, hzs9, hzb9⟩ := info_parts infStr
    obtain ⟨i3, hi3, hz3, hzs3, hzb3⟩ := info_parts infInt
    obtain ⟨ih, hih, hzh, hszh, hbh⟩ := info_parts infHashb
    refine seq_yis hS (by decide) rfl (by decide) rfl (runs_not (b := true) rfl) (fun a1 hS => ?_)
    refine seq_is hS (by decide) (runs_pick rfl rfl) (fun a1 hS => ?_)
    refine nil_ok (wp_cond_false (hS.eval rfl) (wp_skip ?_))
    refine qx_seq (reg_seq ?_)
    refine seq_op hS (by decide) (runs_buildNone undInts hi3) (fun v w2 a1 hpw2 hS => ?_)
    obtain ⟨rfl, rfl⟩ := hpw2
    have hB2 : Below w1.heap.size w1 (w1.alloc (.cells #[] 3)) := (Below.refl _ _).alloc (Nat.le_refl _) _
    have hO2 : (w1.alloc (.cells #[] 3)).ownsRow w1.heap.size 3 1 (.slice (some ⟨w1.heap.size, 0, none⟩) 0 0) 0 ((ofN (List.range 0)).map (Value.int .i64)) := World.ownsRow_made w1 #[] 0 (Nat.le_refl _) (by unfold maxLen; omega) (by simp)
    generalize w1.alloc (.cells #[] 3) = w2 at *
    refine seq_is hS (by decide) (runs_assign rfl) (fun a1 hS => ?_)
    refine nil_ok (qx_seq (qx_seq (reg_seq ?_)))
    refine seq_is hS (by decide) (runs_assign rfl) (fun a1 hS => ?_)
    refine nil_ok (qx_for (fun k a w' => ∃ i v3, i ≤ ss.length ∧ k = ss.length - i ∧ Below w1.heap.size w1 w' ∧ w'.ownsRow w1.heap.size 3 1 v3 i ((ofN (List.range i)).map (Value.int .i64)) ∧ (∃ g c', v3 = .slice (some ⟨g, 0, none⟩) i c') ∧ Sees 97 [(4, .int .i64 (i : Int)), (3, v3), (0, .slice A ss.length c)] a) ss.length ⟨0, _, by omega, by omega, hB2, hO2, ⟨_, _, rfl⟩, hS.only _ ⟨rfl, rfl, rfl, trivial⟩⟩ ?_)
    rintro k a w' ⟨i, v3, hi, rfl, hBi, hOi, ⟨g3, c3', rfl⟩, hS⟩
    refine reg_seq ?_
    refine seq_is hS (by decide) (runs_move rfl) (fun a1 hS => ?_)
    refine seq_is hS (by decide) (runs_move rfl) (fun a1 hS => ?_)
    refine seq_is hS (by decide) (runs_len rfl undStrs) (fun a1 hS => ?_)
    by_cases hlt : i < ss.length
    · refine seq_is hS (by decide) (runs_lss (r := true) rfl rfl (by rw [decide_eq_true_eq]; omega)) (fun a1 hS => ?_)
      refine nil_ok ⟨_, hS.eval rfl, fun h => by simp at h, fun _ => ?_⟩
      refine qx_seq (qx_block (reg_seq ?_))
      refine seq_is hS (by decide) (runs_move rfl) (fun a1 hS => ?_)
      refine seq_is hS (by decide) (runs_move rfl) (fun a1 hS => ?_)
      refine seq_op hS (by decide) (runs_buildSlice (pv := [(0, .int .i64 (i : Int))]) rfl undInts hi3 hz3 hzs3 (by omega) (by omega) (cells := #[.int .i64 (i : Int)]) (by kernel_rfl)) (fun v4 w4 a4 hp4 hS => ?_)
      obtain ⟨rfl, rfl⟩ := hp4
      have hN4 : Has (w'.alloc (.cells #[.int .i64 (i : Int)] 3)) w'.heap.size 3 [.int .i64 (i : Int)] := Has.new w' 3 [.int .i64 (i : Int)]
      have hB4 : Below w'.heap.size w' (w'.alloc (.cells #[.int .i64 (i : Int)] 3)) := (Below.refl _ _).alloc (Nat.le_refl _) _
      generalize w'.alloc (.cells #[.int .i64 (i : Int)] 3) = w4 at *
      have hO4 := owns_kept hOi hB4
      have hB14 : Below w1.heap.size w1 w4 := hBi.trans (hB4.mono hBi.size)
      refine seq_op hS (by decide) (runs_append undInts hi3 hz3 hzs3 hzb3 rfl rfl hO4 rfl rfl (news := [.int .i64 (i : Int)]) (fun j u hj => by rw [add_zero_addr, Nat.zero_add, hN4.cell]; exact hj) (by simp [Value.oneCell']) (by unfold maxLen; omega) (by omega) hB14.size (by omega)) (fun v5 w5 a5 hp5 hS => ?_)
      obtain ⟨hO5, hgr5, hne5⟩ := hp5
      have hB15 : Below w1.heap.size w1 w5 := below_grown hB14 hgr5 (fun g hg => (hO4.lt g hg).1) hB14.size
      obtain ⟨g5, c5', rfl, _⟩ := own_form hO5 hne5
      refine seq_is hS (by decide) (runs_assign rfl) (fun a1 hS => ?_)
      refine nil_ok (reg_seq ?_)
      refine seq_is hS (by decide) (runs_move rfl) (fun a1 hS => ?_)
      refine seq_is hS (by decide) (runs_add rfl rfl ((IntWalk.i64_in _ (by omega)).trans (show (i : Int) + 1 = ((i + 1 : Nat) : Int) by omega))) (fun a1 hS => ?_)
      refine seq_is hS (by decide) (runs_assign rfl) (fun a1 hS => ?_)
      refine nil_ok ⟨ss.length - (i + 1), by omega, i + 1, _, by omega, rfl, hB15, ?_, ⟨_, _, rfl⟩, hS.only _ ⟨rfl, rfl, rfl, trivial⟩⟩
      rw [show (ofN (List.range (i + 1))).map (Value.int .i64) = (ofN (List.range i)).map (Value.int .i64) ++ [.int .i64 (i : Int)] by simp [ofN, List.range_succ]]
      exact hO5
    · refine seq_is hS (by decide) (runs_lss (r := false) rfl rfl (by rw [decide_eq_false_iff_not]; omega)) (fun a1 hS => ?_)
      refine nil_ok ⟨_, hS.eval rfl, fun _ => ?_, fun h => by simp at h⟩
      obtain rfl : i = ss.length := by omega
      have hA3 : Ints w' (.slice (some ⟨g3, 0, none⟩) ss.length c3') (ofN (List.range ss.length)) := ints_own hOi (by simp [ofN])
      have hra : risesB (ss.length : Int) (-1) (ofN (List.range ss.length)) = true := rises_of ss.length _ (-1) (rise_range ss.length) (by omega)
      have hrn : risesB (ss.length : Int) (-1) (ofN []) = true := rfl
      have hk' := hk1.below hBi hk1.pos
      have hs' := hs1.kept hBi
      generalize ha : List.range ss.length = al at *
      have hal : (ofN al).length = ss.length := by simp [ofN, ← ha]
      refine qx_seq (reg_seq ?_)
      refine seq_op hS (by decide) (runs_buildNone undStrs hi9) (fun v w6 a1 hpw6 hS => ?_)
      obtain ⟨rfl, rfl⟩ := hpw6
      have hB6 : Below w'.heap.size w' (w'.alloc (.cells #[] 9)) := (Below.refl _ _).alloc (Nat.le_refl _) _
      generalize w'.alloc (.cells #[] 9) = w6 at *
      refine seq_is hS (by decide) (runs_move rfl) (fun a1 hS => ?_)
      refine seq_op hS (by decide) (copy_strs (hs'.kept hB6) (by omega) rfl rfl) (fun v7 w7 a1 hpw7 hS => ?_)
      obtain ⟨hs7, hB7⟩ := hpw7
      refine seq_is hS (by decide) (runs_move rfl) (fun a1 hS => ?_)
      refine seq_op hS (by decide) (runs_call (args := [v7, .slice (some ⟨g3, 0, none⟩) ss.length c3']) (Post := fun v w2 => ∃ pv : Value, v = .tuple #[pv, .int .i64 0] ∧ Hashes w2 pv (provesL (ss.map bl) al) ∧ Below w7.heap.size w7 w2) goes20 rfl ((proveM_yes ss v7 _ al w7 hs7 (hA3.kept (hB6.trans (hB7.mono hB6.size))) hra hsz1 (by omega) (hk'.below (hB6.trans (hB7.mono hB6.size)) hk'.pos)).mono (by rintro e w2 ⟨pv, rfl, h1, h2⟩; exact ⟨_, rfl, pv, rfl, h1, h2⟩))) (fun v8 w8 a8 hp8 hS => ?_)
      obtain ⟨pv, rfl, hP8, hB8⟩ := hp8
      have hB88 : Below w'.heap.size w' w8 := (hB6.trans (hB7.mono hB6.size)).trans (hB8.mono (Nat.le_trans hB6.size hB7.size))
      refine seq_is hS (by decide) (runs_move rfl) (fun a1 hS => ?_)
      refine seq_is hS (by decide) (runs_extract rfl rfl) (fun a1 hS => ?_)
      refine seq_is hS (by decide) (runs_extract rfl rfl) (fun a1 hS => ?_)
      refine seq_is hS (by decide) (runs_assign rfl) (fun a1 hS => ?_)
      refine seq_is hS (by decide) (runs_assign rfl) (fun a1 hS => ?_)
      refine nil_ok (qx_seq (reg_seq ?_))
      refine seq_op hS (by decide) (runs_buildNone undStrs hi9) (fun v w9 a1 hpw9 hS => ?_)
      obtain ⟨rfl, rfl⟩ := hpw9
      have hB9 : Below w8.heap.size w8 (w8.alloc (.cells #[] 9)) := (Below.refl _ _).alloc (Nat.le_refl _) _
      generalize w8.alloc (.cells #[] 9) = w9 at *
      refine seq_is hS (by decide) (runs_move rfl) (fun a1 hS => ?_)
      refine seq_op hS (by decide) (copy_strs (hs'.kept (hB88.trans (hB9.mono hB88.size))) (by omega) rfl rfl) (fun v10 w10 a1 hpw10 hS => ?_)
      obtain ⟨hs10, hB10⟩ := hpw10
      refine seq_op hS (by decide) (runs_call (args := [v10, .slice none 0 0]) (Post := fun v w2 => ∃ qv : Value, v = .tuple #[qv, .int .i64 0] ∧ Hashes w2 qv (provesL (ss.map bl) []) ∧ Below w10.heap.size w10 w2) goes20 rfl ((proveM_yes ss v10 (.slice none 0 0) [] w10 hs10 ⟨none, 0, rfl, by simp [ofN], by unfold maxLen; omega, fun h => by simp [ofN] at h⟩ hrn hsz1 (by omega) (hk'.below (hB88.trans ((hB9.trans (hB10.mono hB9.size)).mono hB88.size)) hk'.pos)).mono (by rintro e w2 ⟨qv, rfl, h1, h2⟩; exact ⟨_, rfl, qv, rfl, h1, h2⟩))) (fun v11 w11 a11 hp11 hS => ?_)
      obtain ⟨qv, rfl, hQ11, hB11⟩ := hp11
      have hB811 : Below w8.heap.size w8 w11 := (hB9.trans (hB10.mono hB9.size)).trans (hB11.mono (Nat.le_trans hB9.size hB10.size))
      have hB11' : Below w'.heap.size w' w11 := hB88.trans (hB811.mono hB88.size)
      refine seq_is hS (by decide) (runs_move rfl) (fun a1 hS => ?_)
      refine seq_is hS (by decide) (runs_extract rfl rfl) (fun a1 hS => ?_)
      refine seq_is hS (by decide) (runs_extract rfl rfl) (fun a1 hS => ?_)
      refine seq_is hS (by decide) (runs_assign rfl) (fun a1 hS => ?_)
      refine seq_is hS (by decide) (runs_assign rfl) (fun a1 hS => ?_)
      refine nil_ok (qx_seq (reg_seq ?_))
      refine seq_op hS (by decide) (runs_buildNone undStrs hi9) (fun v w12 a1 hpw12 hS => ?_)
      obtain ⟨rfl, rfl⟩ := hpw12
      have hB12 : Below w11.heap.size w11 (w11.alloc (.cells #[] 9)) := (Below.refl _ _).alloc (Nat.le_refl _) _
      generalize w11.alloc (.cells #[] 9) = w12 at *
      refine seq_is hS (by decide) (runs_move rfl) (fun a1 hS => ?_)
      refine seq_op hS (by decide) (copy_strs (hs'.kept (hB11'.trans (hB12.mono hB11'.size))) (by omega) rfl rfl) (fun v13 w13 a1 hpw13 hS => ?_)
      obtain ⟨hs13, hB13⟩ := hpw13
      refine seq_op hS (by decide) (runs_call (args := [v13]) goes13 rfl (hash_post (fun w2 => Below w13.heap.size w13 w2) (root_any ss v13 w13 hs13 hsz1 (by omega) (hk'.below (hB11'.trans ((hB12.trans (hB13.mono hB12.size)).mono hB11'.size)) hk'.pos)) (fun _ h => h))) (fun v14 w14 a14 hp14 hS => ?_)
      obtain ⟨rfl, hB14⟩ := hp14
      have hB1114 : Below w11.heap.size w11 w14 := (hB12.trans (hB13.mono hB12.size)).trans (hB14.mono (Nat.le_trans hB12.size hB13.size))
      have hrl : (Tree.root ss.length (Tree.top (ss.map bl))).length = 32 := root_len _ _
      obtain ⟨r, hr⟩ : ∃ x, x = Tree.root ss.length (Tree.top (ss.map bl)) := ⟨_, rfl⟩
      rw [← hr] at hS hrl
      refine seq_op hS (by decide) (alloc_hash) (fun v15 w15 a15 hp15 hS => ?_)
      obtain ⟨rfl, rfl⟩ := hp15
      have hT15 := Has.new w14 26 (U8 (List.replicate 32 0))
      have hB15 : Below w14.heap.size w14 (w14.alloc (.cells (U8 (List.replicate 32 0)).toArray 26)) := (Below.refl _ _).alloc (Nat.le_refl _) _
      generalize w14.alloc (.cells (U8 (List.replicate 32 0)).toArray 26) = w15 at *
      refine seq_none hS (runs_storeRow rfl rfl hT15 (by simp [hrl]) (agg_all _) (by rw [infHash]; simp [hrl])) (fun v16 w16 a16 hp16 hS => ?_)
      obtain ⟨rfl, rfl⟩ := hp16
      have hT16 := has_setRow (cs := U8 r) hT15
      have hB16 : Below w14.heap.size w14 (w15.setRow w14.heap.size (U8 r).toArray) := below_row hB15 (Nat.le_refl _) _
      generalize w15.setRow w14.heap.size (U8 r).toArray = w16 at *
      have hB1116 : Below w11.heap.size w11 w16 := hB1114.trans (hB16.mono hB1114.size)
      have hB16' : Below w'.heap.size w' w16 := hB11'.trans (hB1116.mono hB11'.size)
      have hs16 := hs'.kept hB16'
      have hk16 := hk'.below hB16' hk'.pos
      have hP16 := hP8.kept (hB811.trans (hB1116.mono hB811.size))
      have hQ16 := hQ11.kept hB1116
      have hA16 := hA3.kept hB16'
      have hpl : 0 < ss.length → (provesL (ss.map bl) al).length = 0 := fun h => by rw [← ha]; have := all_none (ss.map bl) (by simpa using h); rwa [List.length_map] at this
      have hpb : (provesL (ss.map bl) al).length ≤ 1 := by
        by_cases h : 0 < ss.length
        · have := hpl h; omega
        · rw [← ha, show ss.length = 0 by omega]
          unfold provesL
          rw [List.length_map, List.range_zero, parts_nil]; simp
      have hgoodA := all_good (ss.map bl) al (by rw [List.length_map, ← ha]; exact rise_range _) (by simp; omega)
      have hgoodN := all_good (ss.map bl) [] trivial (by simp; omega)
      have hpickA : al.map (fun x => (ss.map bl).getD x []) = ss.map bl := by
        rw [← ha]
        apply List.ext_getElem (by simp)
        intro j h1 h2
        simp at h1
        simp [h1]
      rw [hpickA] at hgoodA
      rw [List.map_nil] at hgoodN
      rw [List.length_map, ← hr] at hgoodA hgoodN
      have hqs : provesL (ss.map bl) [] = [Tree.top (ss.map bl)] := by
        unfold provesL
        rw [parts_nil]
        show [Tree.top (((ss.map bl).drop 0).take (ss.map bl).length)] = _
        rw [List.drop_zero, List.take_length]
      rw [hqs] at hQ16 hgoodN
      have htl := top_len (ss.map bl)
      obtain ⟨t, ht⟩ : ∃ x, x = Tree.top (ss.map bl) := ⟨_, rfl⟩
      rw [← ht] at hQ16 hgoodN htl
      generalize provesL (ss.map bl) al = ps at *
      obtain ⟨A4, c4, rfl, _⟩ := id hP16
      obtain ⟨A8, c8, rfl, _, _, _, hA8⟩ := id hQ16
      obtain ⟨b8, o8, rfl, hb8, hr8⟩ := hA8 (by simp)
      have hr8' : w16.rangeAt b8 o8 (U8 t) := by simpa using hr8
      have hS := hS.only [(0, .slice A ss.length c), (3, .slice (some ⟨g3, 0, none⟩) ss.length c3'), (5, .slice A4 ps.length c4), (6, .int .i64 0), (7, .slice (some ⟨b8, o8, none⟩) 1 c8), (8, .int .i64 0), (9, .pointer (some ⟨w14.heap.size, 0, none⟩))] ⟨rfl, rfl, rfl, rfl, rfl, rfl, rfl, trivial⟩
      have next : ∀ (a9 : Act) (w17 : World), Below w16.heap.size w16 w17 → Sees 97 [(0, .slice A ss.length c), (3, .slice (some ⟨g3, 0, none⟩) ss.length c3'), (5, .slice A4 ps.length c4), (6, .int .i64 0), (7, .slice (some ⟨b8, o8, none⟩) 1 c8), (8, .int .i64 0), (9, .pointer (some ⟨w14.heap.size, 0, none⟩))] a9 → ∀ (N : Act → World → Prop) (X : Nat → Act → World → Prop), (Code.seq ((Tryd.f8.body.bind (regionIn 13)).getD .skip) .ret).wp Tryd.prog (Qx N X (Rets Tryd.prog Tryd.f8 (fun e w' => e = .returned (.bool true) ∧ Below w.heap.size w w'))) a9 w17 := fun a9 w17 hB17 hS N X => by
        have hs17 := hs16.kept hB17
        have hk17 := hk16.below hB17 hk16.pos
        have hb17 : b8 < w17.heap.size := Nat.lt_of_lt_of_le hb8 hB17.size
        have hr17 := range_below hr8' hB17 hb8
        refine qx_seq ?_
        refine reg_guard (fun w' => Below w17.heap.size w17 w') [.inl (.slice (some ⟨b8, o8, none⟩) 1 c8), .inl (.int .i64 1), .inl (.bool true), .inl (.bool true), .inl (.slice (some ⟨b8, o8, none⟩) 1 c8), .inl (.pointer (some ⟨b8, o8 + 0 * 32, none⟩)), .inl (.agg (U8 t).toArray), .inr (fun v _ => ∃ g, v = .slice (some ⟨g, 0, none⟩) 0 0), .inl (.slice A ss.length c), .inr (fun v w' => Strs w' v ss), .inl (.agg (U8 t).toArray), .inl (.bool true), .inl (.bool true), .inl (.bool true)] 14 0 mixed rfl (by kernel_rfl) hS (Below.refl _ _) (fun _ h => h.drew) ?_
        refine hs_is rfl (fun w' hw => runs_move rfl) ?_
        refine hs_is rfl (fun w' hw => runs_len rfl undHashes) ?_
        refine hs_is rfl (fun w' hw => runs_eql (r := true) rfl rfl rfl) ?_
        refine hs_is rfl (fun w' hw => runs_move rfl) ?_
        refine hs_yis rfl rfl (fun w' hw => runs_move rfl) ?_
        refine hs_yis rfl rfl (fun w' hw => runs_indexAddrN (j := 0) rfl rfl undHashes infHash rfl (by omega)) ?_
        refine hs_yis rfl rfl (fun w' hw => runs_loadMid rfl (by rw [Nat.zero_mul, Nat.add_zero]; exact range_below hr17 hw hb17) undHash rfl (by rw [infHash, U8_length, htl])) ?_
        refine hs_ypr rfl rfl (fun _ _ _ h _ => h) (fun w' hw hq => (runs_buildNone undStrs hi9).mono (by rintro v w2 ⟨rfl, rfl⟩; exact ⟨⟨_, rfl⟩, hw.alloc hw.size _, (Below.refl _ _).alloc (Nat.le_refl _) _⟩)) (fun v91 => ?_)
        refine hs_yis rfl rfl (fun w' hw => runs_move rfl) ?_
        refine hs_ypr rfl rfl (fun _ _ _ h hb => h.kept hb) (fun w' hw hq => (by obtain ⟨g, rfl⟩ := hq (7, _) List.mem_cons_self (by kernel_rfl); exact (copy_strs (hs17.kept hw) (by omega) rfl rfl).mono (by rintro u w2 ⟨h1, h2⟩; exact ⟨h1, hw.trans (h2.mono hw.size), h2⟩))) (fun v93 => ?_)
        refine hs_yval rfl rfl (fun w' hw hq => runs_call (args := [v93]) goes31 rfl (hash_post _ (by have := top_any ss.length ss v93 w' rfl (hq (9, _) List.mem_cons_self (by kernel_rfl)) hsz1 (by omega) (hk17.below hw hk17.pos); rwa [← ht] at this) (fun _ h => ⟨hw.trans (h.mono hw.size), h⟩))) ?_
        refine hs_yis rfl rfl (fun w' hw => runs_eqHash (r := true) rfl rfl htl htl (by simp)) ?_
        refine hs_is rfl (fun w' hw => runs_pick rfl rfl) ?_
        refine hs_is rfl (fun w' hw => runs_assign rfl) ?_
        refine (fun a5 w5 hS5 hB5 _ => ?_)
        refine wpAnyH_done (by kernel_rfl) ?_ _
        exact qx_ret (ret1 (t := 2) (by kernel_rfl) hS5 rfl ⟨rfl, hB1.trans ((hBi.trans ((hB16'.trans ((hB17.trans (hB5.mono hB17.size)).mono hB16'.size)).mono hBi.size)).mono hB1.size)⟩)
      by_cases hn0 : 0 < ss.length
      · refine qx_seq (qx_seq ?_)
        refine reg_guard (fun w' => Below w16.heap.size w16 w') [.inl (.int .i64 0), .inl (.bool false), .inl (.bool false), .inl (.int .i64 0), .inl (.bool false), .inl (.bool false), .inl (.bool false), .inl (.slice A ss.length c), .inl (.int .i64 ((ss.length : Nat) : Int)), .inl (.bool true), .inl (.bool true), .inl (.slice A4 ps.length c4), .inl (.int .i64 ((ps.length : Nat) : Int)), .inl (.bool false), .inl (.bool false), .inl (.bool false), .inl (.bool false), .inl (.agg (U8 r).toArray), .inl (.slice A ss.length c), .inl (.int .i64 ((ss.length : Nat) : Int)), .inl (.slice (some ⟨g3, 0, none⟩) ss.length c3'), .inr (fun v _ => ∃ g, v = .slice (some ⟨g, 0, none⟩) 0 0), .inl (.slice A ss.length c), .inr (fun v w' => Strs w' v ss), .inl (.slice A4 ps.length c4), .inl (.bool true), .inl (.bool false), .inl (.bool false), .inl (.bool false), .inl (.agg (U8 r).toArray), .inl (.slice A ss.length c), .inl (.int .i64 ((ss.length : Nat) : Int)), .inl (.slice (some ⟨b8, o8, none⟩) 1 c8), .inl (.bool true), .inl (.bool false), .inl (.bool false)] 36 0 mixed rfl (by kernel_rfl) hS (Below.refl _ _) (fun _ h => h.drew) ?_
        refine hs_is rfl (fun w' hw => runs_move rfl) ?_
        refine hs_is rfl (fun w' hw => runs_neq (r := false) rfl rfl rfl) ?_
        refine hs_is rfl (fun w' hw => runs_move rfl) ?_
        refine hs_yis rfl rfl (fun w' hw => runs_move rfl) ?_
        refine hs_yis rfl rfl (fun w' hw => runs_neq (r := false) rfl rfl rfl) ?_
        refine hs_is rfl (fun w' hw => runs_pick rfl rfl) ?_
        refine hs_is rfl (fun w' hw => runs_move rfl) ?_
        refine hs_yis rfl rfl (fun w' hw => runs_move rfl) ?_
        refine hs_yis rfl rfl (fun w' hw => runs_len rfl undStrs) ?_
        refine hs_yis rfl rfl (fun w' hw => runs_gtr (r := true) rfl rfl (by rw [decide_eq_true_eq]; omega)) ?_
        refine hs_yis rfl rfl (fun w' hw => runs_move rfl) ?_
        refine hs_yis rfl rfl (fun w' hw => runs_move rfl) ?_
        refine hs_yis rfl rfl (fun w' hw => runs_len rfl undHashes) ?_
        refine hs_yis rfl rfl (fun w' hw => runs_neq (r := false) rfl rfl (by rw [hpl hn0]; rfl)) ?_
        refine hs_yis rfl rfl (fun w' hw => runs_pick rfl rfl) ?_
        refine hs_is rfl (fun w' hw => runs_pick rfl rfl) ?_
        refine hs_is rfl (fun w' hw => runs_move rfl) ?_
        refine hs_yis rfl rfl (fun w' hw => runs_loadRow rfl (hT16.below hw hT16.lt) undHash rfl (by rw [infHash]; simp [hrl])) ?_
        refine hs_yis rfl rfl (fun w' hw => runs_move rfl) ?_
        refine hs_yis rfl rfl (fun w' hw => runs_len rfl undStrs) ?_
        refine hs_yis rfl rfl (fun w' hw => runs_move rfl) ?_
        refine hs_ypr rfl rfl (fun _ _ _ h _ => h) (fun w' hw hq => (runs_buildNone undStrs hi9).mono (by rintro v w2 ⟨rfl, rfl⟩; exact ⟨⟨_, rfl⟩, hw.alloc hw.size _, (Below.refl _ _).alloc (Nat.le_refl _) _⟩)) (fun v69 => ?_)
        refine hs_yis rfl rfl (fun w' hw => runs_move rfl) ?_
        refine hs_ypr rfl rfl (fun _ _ _ h hb => h.kept hb) (fun w' hw hq => (by obtain ⟨g, rfl⟩ := hq (21, _) List.mem_cons_self (by kernel_rfl); exact (copy_strs (hs16.kept hw) (by omega) rfl rfl).mono (by rintro u w2 ⟨h1, h2⟩; exact ⟨h1, hw.trans (h2.mono hw.size), h2⟩))) (fun v71 => ?_)
        refine hs_yis rfl rfl (fun w' hw => runs_move rfl) ?_
        refine hs_yval rfl rfl (fun w' hw hq => runs_call (args := [.agg (U8 r).toArray, .int .i64 ((ss.length : Nat) : Int), .slice (some ⟨g3, 0, none⟩) ss.length c3', v71, .slice A4 ps.length c4]) goes26 rfl (bool_post _ (by have := checkM_any r ss.length (ofN al) ss ps _ v71 _ w' hrl (hA16.kept hw) (hq (23, _) List.mem_cons_self (by kernel_rfl)) (hP16.kept hw) hsz1 (by omega) (by omega) (hk16.below hw hk16.pos); rwa [hgoodA] at this) (fun _ h => ⟨hw.trans (h.mono hw.size), h⟩))) ?_
        refine hs_yis rfl rfl (fun w' hw => runs_not (b := true) rfl) ?_
        refine hs_is rfl (fun w' hw => runs_pick rfl rfl) ?_
        refine hs_is rfl (fun w' hw => runs_move rfl) ?_
        refine hs_yis rfl rfl (fun w' hw => runs_loadRow rfl (hT16.below hw hT16.lt) undHash rfl (by rw [infHash]; simp [hrl])) ?_
        refine hs_yis rfl rfl (fun w' hw => runs_move rfl) ?_
        refine hs_yis rfl rfl (fun w' hw => runs_len rfl undStrs) ?_
        refine hs_yis rfl rfl (fun w' hw => runs_move rfl) ?_
        refine hs_yval rfl rfl (fun w' hw hq => runs_call (args := [.agg (U8 r).toArray, .int .i64 ((ss.length : Nat) : Int), .slice none 0 0, .slice none 0 0, .slice (some ⟨b8, o8, none⟩) 1 c8]) goes26 rfl (bool_post _ (by have := checkM_any r ss.length (ofN []) [] [t] (.slice none 0 0) (.slice none 0 0) _ w' hrl ⟨none, 0, rfl, by simp [ofN], by unfold maxLen; omega, fun h => by simp [ofN] at h⟩ ⟨none, 0, rfl, by simp, by unfold maxLen; omega, fun h => by simp at h⟩ (hQ16.kept hw) (by simp) (by simp) (by simp) (hk16.below hw hk16.pos); rwa [show List.map bl [] = [] from rfl, hgoodN] at this) (fun _ h => ⟨hw.trans (h.mono hw.size), h⟩))) ?_
        refine hs_yis rfl rfl (fun w' hw => runs_not (b := true) rfl) ?_
        refine hs_is rfl (fun w' hw => runs_pick rfl rfl) ?_
        refine (fun a5 w5 hS5 hB5 _ => ?_)
        refine wpAnyH_done (by kernel_rfl) ?_ _
        exact wp_cond_false (hS5.eval rfl) (wp_skip (next _ _ hB5 (hS5.only _ ⟨rfl, rfl, rfl, rfl, rfl, rfl, rfl, trivial⟩) _ _))
      · refine qx_seq (qx_seq ?_)
        refine reg_guard (fun w' => Below w16.heap.size w16 w') [.inl (.int .i64 0), .inl (.bool false), .inl (.bool false), .inl (.int .i64 0), .inl (.bool false), .inl (.bool false), .inl (.bool false), .inl (.slice A ss.length c), .inl (.int .i64 ((ss.length : Nat) : Int)), .inl (.bool false), .inl (.bool false), .inl undef, .inl undef, .inl undef, .inl (.bool false), .inl (.bool false), .inl (.bool false), .inl (.agg (U8 r).toArray), .inl (.slice A ss.length c), .inl (.int .i64 ((ss.length : Nat) : Int)), .inl (.slice (some ⟨g3, 0, none⟩) ss.length c3'), .inr (fun v _ => ∃ g, v = .slice (some ⟨g, 0, none⟩) 0 0), .inl (.slice A ss.length c), .inr (fun v w' => Strs w' v ss), .inl (.slice A4 ps.length c4), .inl (.bool true), .inl (.bool false), .inl (.bool false), .inl (.bool false), .inl (.agg (U8 r).toArray), .inl (.slice A ss.length c), .inl (.int .i64 ((ss.length : Nat) : Int)), .inl (.slice (some ⟨b8, o8, none⟩) 1 c8), .inl (.bool true), .inl (.bool false), .inl (.bool false)] 36 0 mixed rfl (by kernel_rfl) hS (Below.refl _ _) (fun _ h => h.drew) ?_
        refine hs_is rfl (fun w' hw => runs_move rfl) ?_
        refine hs_is rfl (fun w' hw => runs_neq (r := false) rfl rfl rfl) ?_
        refine hs_is rfl (fun w' hw => runs_move rfl) ?_
        refine hs_yis rfl rfl (fun w' hw => runs_move rfl) ?_
        refine hs_yis rfl rfl (fun w' hw => runs_neq (r := false) rfl rfl rfl) ?_
        refine hs_is rfl (fun w' hw => runs_pick rfl rfl) ?_
        refine hs_is rfl (fun w' hw => runs_move rfl) ?_
        refine hs_yis rfl rfl (fun w' hw => runs_move rfl) ?_
        refine hs_yis rfl rfl (fun w' hw => runs_len rfl undStrs) ?_
        refine hs_yis rfl rfl (fun w' hw => runs_gtr (r := false) rfl rfl (by rw [decide_eq_false_iff_not]; omega)) ?_
        refine hs_yis rfl rfl (fun w' hw => runs_move rfl) ?_
        refine hs_no rfl rfl rfl ?_
        refine hs_no rfl rfl rfl ?_
        refine hs_no rfl rfl rfl ?_
        refine hs_yis rfl rfl (fun w' hw => runs_pick rfl rfl) ?_
        refine hs_is rfl (fun w' hw => runs_pick rfl rfl) ?_
        refine hs_is rfl (fun w' hw => runs_move rfl) ?_
        refine hs_yis rfl rfl (fun w' hw => runs_loadRow rfl (hT16.below hw hT16.lt) undHash rfl (by rw [infHash]; simp [hrl])) ?_
        refine hs_yis rfl rfl (fun w' hw => runs_move rfl) ?_
        refine hs_yis rfl rfl (fun w' hw => runs_len rfl undStrs) ?_
        refine hs_yis rfl rfl (fun w' hw => runs_move rfl) ?_
        refine hs_ypr rfl rfl (fun _ _ _ h _ => h) (fun w' hw hq => (runs_buildNone undStrs hi9).mono (by rintro v w2 ⟨rfl, rfl⟩; exact ⟨⟨_, rfl⟩, hw.alloc hw.size _, (Below.refl _ _).alloc (Nat.le_refl _) _⟩)) (fun v69 => ?_)
        refine hs_yis rfl rfl (fun w' hw => runs_move rfl) ?_
        refine hs_ypr rfl rfl (fun _ _ _ h hb => h.kept hb) (fun w' hw hq => (by obtain ⟨g, rfl⟩ := hq (21, _) List.mem_cons_self (by kernel_rfl); exact (copy_strs (hs16.kept hw) (by omega) rfl rfl).mono (by rintro u w2 ⟨h1, h2⟩; exact ⟨h1, hw.trans (h2.mono hw.size), h2⟩))) (fun v71 => ?_)
        refine hs_yis rfl rfl (fun w' hw => runs_move rfl) ?_
        refine hs_yval rfl rfl (fun w' hw hq => runs_call (args := [.agg (U8 r).toArray, .int .i64 ((ss.length : Nat) : Int), .slice (some ⟨g3, 0, none⟩) ss.length c3', v71, .slice A4 ps.length c4]) goes26 rfl (bool_post _ (by have := checkM_any r ss.length (ofN al) ss ps _ v71 _ w' hrl (hA16.kept hw) (hq (23, _) List.mem_cons_self (by kernel_rfl)) (hP16.kept hw) hsz1 (by omega) (by omega) (hk16.below hw hk16.pos); rwa [hgoodA] at this) (fun _ h => ⟨hw.trans (h.mono hw.size), h⟩))) ?_
        refine hs_yis rfl rfl (fun w' hw => runs_not (b := true) rfl) ?_
        refine hs_is rfl (fun w' hw => runs_pick rfl rfl) ?_
        refine hs_is rfl (fun w' hw => runs_move rfl) ?_
        refine hs_yis rfl rfl (fun w' hw => runs_loadRow rfl (hT16.below hw hT16.lt) undHash rfl (by rw [infHash]; simp [hrl])) ?_
        refine hs_yis rfl rfl (fun w' hw => runs_move rfl) ?_
        refine hs_yis rfl rfl (fun w' hw => runs_len rfl undStrs) ?_
        refine hs_yis rfl rfl (fun w' hw => runs_move rfl) ?_
        refine hs_yval rfl rfl (fun w' hw hq => runs_call (args := [.agg (U8 r).toArray, .int .i64 ((ss.length : Nat) : Int), .slice none 0 0, .slice none 0 0, .slice (some ⟨b8, o8, none⟩) 1 c8]) goes26 rfl (bool_post _ (by have := checkM_any r ss.length (ofN []) [] [t] (.slice none 0 0) (.slice none 0 0) _ w' hrl ⟨none, 0, rfl, by simp [ofN], by unfold maxLen; omega, fun h => by simp [ofN] at h⟩ ⟨none, 0, rfl, by simp, by unfold maxLen; omega, fun h => by simp at h⟩ (hQ16.kept hw) (by simp) (by simp) (by simp) (hk16.below hw hk16.pos); rwa [show List.map bl [] = [] from rfl, hgoodN] at this) (fun _ h => ⟨hw.trans (h.mono hw.size), h⟩))) ?_
        refine hs_yis rfl rfl (fun w' hw => runs_not (b := true) rfl) ?_
        refine hs_is rfl (fun w' hw => runs_pick rfl rfl) ?_
        refine (fun a5 w5 hS5 hB5 _ => ?_)
        refine wpAnyH_done (by kernel_rfl) ?_ _
        exact wp_cond_false (hS5.eval rfl) (wp_skip (next _ _ hB5 (hS5.only _ ⟨rfl, rfl, rfl, rfl, rfl, rfl, rfl, trivial⟩) _ _))
end Go.Proofs.YtdemoidmhmdgkaaDoor
/- The walk of ManyProves. Conditions: the table of constants lies as it was laid. -/
namespace Go.Proofs.YtdemoidmhmdgkaaDoor
open Go.RowKit Many
set_option maxRecDepth 100000

theorem runs_neBool {L : List (Nat × Value)} {w : World} {ty t' : TypeId} {x y : Operand} {a b r : Bool} (hx : vals L x = some (.bool a)) (hy : vals L y = some (.bool b)) (hr : (!(a == b)) = r) : Runs Tryd.prog (.binOp .neq 4 x y t') ty L w (Is (.bool r) w) :=
  runs_bin hx hy rfl (by rw [run_neq_bool w 4 a b (by kernel_rfl), hr])
set_option maxHeartbeats 4000000 in
theorem mproves_walk (lv : Value) (ss : List ByteArray) (atv : Value) (xs : List Int) (w : World) (hL : Strs w lv ss) (hx : Ints w atv xs) (hk : Kept w) : Calls Tryd.prog 5 #[lv, atv] w fun e w' => e = .returned (.bool true) ∧ Below w.heap.size w w' := by
  obtain ⟨A1, c1, rfl, _⟩ := id hx
  obtain ⟨A, c, rfl, _⟩ := id hL
  refine calls_qx (args := [.slice A ss.length c, .slice A1 xs.length c1]) 95 Tryd.func5 rfl (by kernel_rfl) (by simp) (fun a hS => ?_)
  refine qx_seq (reg_seq ?_)
  refine seq_is hS (by decide) (runs_assign rfl) (fun a1 hS => ?_)
  refine nil_ok (qx_seq (qx_seq (reg_seq ?_)))
  refine seq_op hS (by decide) (runs_call (args := []) goes19 rfl (awakeM_call w hk)) (fun v1 w1 a1 hp1 hS => ?_)
  obtain ⟨rfl, hB1⟩ := hp1
  have hk1 := hk.below hB1 hk.pos
  have hs1 := hL.kept hB1
  have hx1 := hx.kept hB1
  refine seq_is hS (by decide) (runs_not (b := true) rfl) (fun a1 hS => ?_)
  refine seq_is hS (by decide) (runs_move rfl) (fun a1 hS => ?_)
  refine seq_yis hS (by decide) rfl (by decide) rfl (runs_move rfl) (fun a1 hS => ?_)
  refine seq_yis hS (by decide) rfl (by decide) rfl (runs_call (args := [.slice A ss.length c]) goes12 rfl (few_call ss _ w1 hs1)) (fun a1 hS => ?_)
  have last : ∀ (L : List (Nat × Value)) (a9 : Act) (N : Act → World → Prop) (X : Nat → Act → World → Prop), Sees 95 L a9 → ((Tryd.f5.body.bind (regionIn 2)).getD .skip).wp Tryd.prog (Qx (fun a' w' => Code.ret.wp Tryd.prog (Qx N X (Rets Tryd.prog Tryd.f5 (fun e w' => e = .returned (.bool true) ∧ Below w.heap.size w w'))) a' w') X (Rets Tryd.prog Tryd.f5 (fun e w' => e = .returned (.bool true) ∧ Below w.heap.size w w'))) a9 w1 := fun L a9 N X hS => by
    refine reg_seq ?_
    refine seq_op hS (by decide) (runs_call (args := []) goes19 rfl (awakeM_call w1 hk1)) (fun v2 w2 a2 hp2 hS => ?_)
    obtain ⟨rfl, hB2⟩ := hp2
    refine seq_is hS (by decide) (runs_assign rfl) (fun a1 hS => ?_)
    exact nil_ok (qx_ret (ret1 (t := 4) (by kernel_rfl) hS rfl ⟨rfl, hB1.trans (hB2.mono hB1.size)⟩))
  cases hf : fewB ss with
  | false =>
    rw [hf] at hS
    refine seq_yis hS (by decide) rfl (by decide) rfl (runs_not (b := false) rfl) (fun a1 hS => ?_)
    refine seq_is hS (by decide) (runs_pick rfl rfl) (fun a1 hS => ?_)
    refine seq_is hS (by decide) (runs_move rfl) (fun a1 hS => ?_)
    refine seq_no hS (by decide) rfl (by decide) rfl rfl (fun a1 hS => ?_)
    refine seq_no hS (by decide) rfl (by decide) rfl rfl (fun a1 hS => ?_)
    refine seq_no hS (by decide) rfl (by decide) rfl rfl (fun a1 hS => ?_)
    refine seq_is hS (by decide) (runs_pick rfl rfl) (fun a1 hS => ?_)
    exact nil_ok (wp_cond_true (hS.eval rfl) (qx_seq (last _ _ _ _ hS)))
  | true =>
    rw [hf] at hS
    simp only [fewB, Bool.and_eq_true, List.all_eq_true, decide_eq_true_eq] at hf
    obtain ⟨hsz, hn20⟩ := hf
    have hsz1 : ∀ s ∈ ss, s.size ≤ 100000 := fun s h => by have := hsz s h; omega
    have hsz2 : ∀ s ∈ ss, s.size ≤ 900 := fun s h => by have := hsz s h; omega
    obtain ⟨i9, hi9, hz9, hzs9, hzb9⟩ := info_parts infStr
    obtain ⟨i3, hi3, hz3, hzs3, hzb3⟩ := info_parts infInt
    obtain ⟨ih, hih, hzh, hszh, hbh⟩ := info_parts infHashb
    refine seq_yis hS (by decide) rfl (by decide) rfl (runs_not (b := true) rfl) (fun a1 hS => ?_)
    refine seq_is hS (by decide) (runs_pick rfl rfl) (fun a1 hS => ?_)
    refine seq_is hS (by decide) (runs_move rfl) (fun a1 hS => ?_)
    refine seq_yis hS (by decide) rfl (by decide) rfl (runs_move rfl) (fun a1 hS => ?_)
    refine seq_yis hS (by decide) rfl (by decide) rfl (runs_len rfl undInts) (fun a1 hS => ?_)
    by_cases h1 : 30 < xs.length
    · refine seq_yis hS (by decide) rfl (by decide) rfl (runs_gtr (r := true) rfl rfl (by rw [decide_eq_true_eq]; omega)) (fun a1 hS => ?_)
      refine seq_is hS (by decide) (runs_pick rfl rfl) (fun a1 hS => ?_)
      exact nil_ok (wp_cond_true (hS.eval rfl) (qx_seq (last _ _ _ _ hS)))
    refine seq_yis hS (by decide) rfl (by decide) rfl (runs_gtr (r := false) rfl rfl (by rw [decide_eq_false_iff_not]; omega)) (fun a1 hS => ?_)
    refine seq_is hS (by decide) (runs_pick rfl rfl) (fun a1 hS => ?_)
    refine nil_ok (wp_cond_false (hS.eval rfl) (wp_skip ?_))
    refine qx_seq (reg_seq ?_)
    refine seq_op hS (by decide) (runs_buildNone undStrs hi9) (fun v w2 a1 hpw2 hS => ?_)
    obtain ⟨rfl, rfl⟩ := hpw2
    have hB2 : Below w1.heap.size w1 (w1.alloc (.cells #[] 9)) := (Below.refl _ _).alloc (Nat.le_refl _) _
    generalize w1.alloc (.cells #[] 9) = w2 at *
    refine seq_is hS (by decide) (runs_move rfl) (fun a1 hS => ?_)
    refine seq_op hS (by decide) (copy_strs (hs1.kept hB2) (by omega) rfl rfl) (fun v3 w3 a1 hpw3 hS => ?_)
    obtain ⟨hs3, hB3⟩ := hpw3
    refine seq_op hS (by decide) (runs_buildNone undInts hi3) (fun v w4 a1 hpw4 hS => ?_)
    obtain ⟨rfl, rfl⟩ := hpw4
    have hB4 : Below w3.heap.size w3 (w3.alloc (.cells #[] 3)) := (Below.refl _ _).alloc (Nat.le_refl _) _
    generalize w3.alloc (.cells #[] 3) = w4 at *
    refine seq_is hS (by decide) (runs_move rfl) (fun a1 hS => ?_)
    refine seq_op hS (by decide) (copy_ints (hx1.kept ((hB2.trans (hB3.mono hB2.size)).trans (hB4.mono (Nat.le_trans hB2.size hB3.size)))) (by omega) rfl rfl) (fun v5 w5 a1 hpw5 hS => ?_)
    obtain ⟨hx5, hB5⟩ := hpw5
    have hB13 : Below w1.heap.size w1 w3 := hB2.trans (hB3.mono hB2.size)
    have hB35 : Below w3.heap.size w3 w5 := hB4.trans (hB5.mono hB4.size)
    have hB15 : Below w1.heap.size w1 w5 := hB13.trans (hB35.mono hB13.size)
    have hs5 := hs3.kept hB35
    have hk5 := hk1.below hB15 hk1.pos
    cases hr : risesB (ss.length : Int) (-1) xs with
    | false =>
      refine seq_op hS (by decide) (runs_call (args := [v3, v5]) (Post := fun v w' => v = .tuple #[.slice none 0 0, .int .i64 40] ∧ Below w5.heap.size w5 w') goes20 rfl ((proveM_no ss v3 v5 xs w5 hs5 hx5 hr).mono (by rintro e w' ⟨rfl, h⟩; exact ⟨_, rfl, rfl, h⟩))) (fun v6 w6 a6 hp6 hS => ?_)
      obtain ⟨rfl, hB6⟩ := hp6
      have hB16 : Below w1.heap.size w1 w6 := hB15.trans (hB6.mono hB15.size)
      have hx6 := hx1.kept hB16
      refine seq_is hS (by decide) (runs_move rfl) (fun a1 hS => ?_)
      refine seq_is hS (by decide) (runs_extract rfl rfl) (fun a1 hS => ?_)
      refine seq_is hS (by decide) (runs_extract rfl rfl) (fun a1 hS => ?_)
      refine seq_is hS (by decide) (runs_assign rfl) (fun a1 hS => ?_)
      refine seq_is hS (by decide) (runs_assign rfl) (fun a1 hS => ?_)
      refine nil_ok (qx_seq (reg_seq ?_))
      refine seq_is hS (by decide) (runs_move rfl) (fun a1 hS => ?_)
      refine seq_is hS (by decide) (runs_len rfl undStrs) (fun a1 hS => ?_)
      refine seq_is hS (by decide) (runs_move rfl) (fun a1 hS => ?_)
      refine seq_is hS (by decide) (runs_call (args := [.int .i64 ((ss.length : Nat) : Int), .slice A1 xs.length c1]) goes21 rfl (by have := refRises_call ss.length xs _ w6 hx6; rwa [hr] at this)) (fun a1 hS => ?_)
      refine seq_is hS (by decide) (runs_assign rfl) (fun a1 hS => ?_)
      refine nil_ok (qx_seq (qx_seq (reg_seq ?_)))
      refine seq_is hS (by decide) (runs_move rfl) (fun a1 hS => ?_)
      refine seq_is hS (by decide) (runs_len rfl undStrs) (fun a1 hS => ?_)
      refine seq_op hS (by decide) (runs_buildNone undInts hi3) (fun v w7 a1 hpw7 hS => ?_)
      obtain ⟨rfl, rfl⟩ := hpw7
      have hB7 : Below w6.heap.size w6 (w6.alloc (.cells #[] 3)) := (Below.refl _ _).alloc (Nat.le_refl _) _
      generalize w6.alloc (.cells #[] 3) = w7 at *
      refine seq_is hS (by decide) (runs_move rfl) (fun a1 hS => ?_)
      refine seq_op hS (by decide) (copy_ints (hx6.kept hB7) (by omega) rfl rfl) (fun v8 w8 a1 hpw8 hS => ?_)
      obtain ⟨hx8, hB8⟩ := hpw8
      refine seq_is hS (by decide) (runs_call (args := [.int .i64 ((ss.length : Nat) : Int), v8]) goes22 rfl (by have := rises_call ss.length xs _ w8 hx8; rwa [hr] at this)) (fun a1 hS => ?_)
      refine seq_is hS (by decide) (runs_move rfl) (fun a1 hS => ?_)
      refine seq_is hS (by decide) (runs_neBool (r := false) rfl rfl rfl) (fun a1 hS => ?_)
      have hB68 : Below w6.heap.size w6 w8 := hB7.trans (hB8.mono hB7.size)
      have hB18 : Below w1.heap.size w1 w8 := hB16.trans (hB68.mono hB16.size)
      refine nil_ok (wp_cond_false (hS.eval rfl) (wp_skip ?_))
      refine qx_seq (qx_seq (reg_seq ?_))
      refine seq_is hS (by decide) (runs_move rfl) (fun a1 hS => ?_)
      refine seq_is hS (by decide) (runs_not (b := false) rfl) (fun a1 hS => ?_)
      refine nil_ok (wp_cond_true (hS.eval rfl) (qx_seq (reg_seq ?_)))
      refine seq_is hS (by decide) (runs_move rfl) (fun a1 hS => ?_)
      refine seq_is hS (by decide) (runs_len rfl undHashes) (fun a1 hS => ?_)
      refine seq_is hS (by decide) (runs_eql (r := true) rfl rfl rfl) (fun a1 hS => ?_)
      refine seq_is hS (by decide) (runs_move rfl) (fun a1 hS => ?_)
      refine seq_yis hS (by decide) rfl (by decide) rfl (runs_move rfl) (fun a1 hS => ?_)
      refine seq_yis hS (by decide) rfl (by decide) rfl (runs_eql (r := true) rfl rfl rfl) (fun a1 hS => ?_)
      refine seq_is hS (by decide) (runs_pick rfl rfl) (fun a1 hS => ?_)
      refine seq_is hS (by decide) (runs_move rfl) (fun a1 hS => ?_)
      refine seq_yis hS (by decide) rfl (by decide) rfl (runs_move rfl) (fun a1 hS => ?_)
      refine seq_yis hS (by decide) rfl (by decide) rfl (runs_len rfl undStrs) (fun a1 hS => ?_)
      refine seq_yes hS (by decide) rfl (by decide) rfl (runs_buildNone undInts hi3) (fun v w9 a1 hpw9 hS => ?_)
      obtain ⟨rfl, rfl⟩ := hpw9
      have hB9 : Below w8.heap.size w8 (w8.alloc (.cells #[] 3)) := (Below.refl _ _).alloc (Nat.le_refl _) _
      generalize w8.alloc (.cells #[] 3) = w9 at *
      refine seq_yis hS (by decide) rfl (by decide) rfl (runs_move rfl) (fun a1 hS => ?_)
      refine seq_yes hS (by decide) rfl (by decide) rfl (copy_ints (hx1.kept (hB18.trans (hB9.mono hB18.size))) (by omega) rfl rfl) (fun v10 w10 a1 hpw10 hS => ?_)
      obtain ⟨hx10, hB10⟩ := hpw10
      refine seq_yis hS (by decide) rfl (by decide) rfl (runs_call (args := [.int .i64 ((ss.length : Nat) : Int), v10]) (Post := Is (.int .i64 0) w10) goes23 rfl (by have := size_call ss.length xs _ w10 hx10; rwa [show sizeZ (ss.length : Int) xs = 0 by unfold sizeZ askB; rw [hr]; simp] at this)) (fun a1 hS => ?_)
      refine seq_yis hS (by decide) rfl (by decide) rfl (runs_eql (r := true) rfl rfl rfl) (fun a1 hS => ?_)
      refine seq_is hS (by decide) (runs_pick rfl rfl) (fun a1 hS => ?_)
      refine seq_is hS (by decide) (runs_assign rfl) (fun a1 hS => ?_)
      exact nil_ok (qx_ret (ret1 (t := 4) (by kernel_rfl) hS rfl ⟨rfl, hB1.trans ((hB18.trans ((hB9.trans (hB10.mono hB9.size)).mono hB18.size)).mono hB1.size)⟩))
    | true =>
      obtain ⟨hex, hrn⟩ := of_toN hr
      rw [Int.toNat_natCast] at hrn
      have hmem := hrn.mem
      have htl : (toN xs).length = xs.length := by simp [toN]
      generalize toN xs = l at *
      subst hex
      refine seq_op hS (by decide) (runs_call (args := [v3, v5]) (Post := fun v w' => ∃ pv : Value, v = .tuple #[pv, .int .i64 0] ∧ Hashes w' pv (provesL (ss.map bl) l) ∧ Below w5.heap.size w5 w') goes20 rfl ((proveM_yes ss v3 v5 l w5 hs5 hx5 hr hsz1 (by omega) hk5).mono (by rintro e w' ⟨pv, rfl, h1, h2⟩; exact ⟨_, rfl, pv, rfl, h1, h2⟩))) (fun v6 w6 a6 hp6 hS => ?_)
      obtain ⟨pv, rfl, hP6, hB6⟩ := hp6
      have hB16 : Below w1.heap.size w1 w6 := hB15.trans (hB6.mono hB15.size)
      have hx6 := hx1.kept hB16
      refine seq_is hS (by decide) (runs_move rfl) (fun a1 hS => ?_)
      refine seq_is hS (by decide) (runs_extract rfl rfl) (fun a1 hS => ?_)
      refine seq_is hS (by decide) (runs_extract rfl rfl) (fun a1 hS => ?_)
      refine seq_is hS (by decide) (runs_assign rfl) (fun a1 hS => ?_)
      refine seq_is hS (by decide) (runs_assign rfl) (fun a1 hS => ?_)
      refine nil_ok (qx_seq (reg_seq ?_))
      refine seq_is hS (by decide) (runs_move rfl) (fun a1 hS => ?_)
      refine seq_is hS (by decide) (runs_len rfl undStrs) (fun a1 hS => ?_)
      refine seq_is hS (by decide) (runs_move rfl) (fun a1 hS => ?_)
      refine seq_is hS (by decide) (runs_call (args := [.int .i64 ((ss.length : Nat) : Int), .slice A1 (ofN l).length c1]) goes21 rfl (by have := refRises_call ss.length (ofN l) _ w6 hx6; rwa [hr] at this)) (fun a1 hS => ?_)
      refine seq_is hS (by decide) (runs_assign rfl) (fun a1 hS => ?_)
      refine nil_ok (qx_seq (qx_seq (reg_seq ?_)))
      refine seq_is hS (by decide) (runs_move rfl) (fun a1 hS => ?_)
      refine seq_is hS (by decide) (runs_len rfl undStrs) (fun a1 hS => ?_)
      refine seq_op hS (by decide) (runs_buildNone undInts hi3) (fun v w7 a1 hpw7 hS => ?_)
      obtain ⟨rfl, rfl⟩ := hpw7
      have hB7 : Below w6.heap.size w6 (w6.alloc (.cells #[] 3)) := (Below.refl _ _).alloc (Nat.le_refl _) _
      generalize w6.alloc (.cells #[] 3) = w7 at *
      refine seq_is hS (by decide) (runs_move rfl) (fun a1 hS => ?_)
      refine seq_op hS (by decide) (copy_ints (hx6.kept hB7) (by omega) rfl rfl) (fun v8 w8 a1 hpw8 hS => ?_)
      obtain ⟨hx8, hB8⟩ := hpw8
      refine seq_is hS (by decide) (runs_call (args := [.int .i64 ((ss.length : Nat) : Int), v8]) goes22 rfl (by have := rises_call ss.length (ofN l) _ w8 hx8; rwa [hr] at this)) (fun a1 hS => ?_)
      refine seq_is hS (by decide) (runs_move rfl) (fun a1 hS => ?_)
      refine seq_is hS (by decide) (runs_neBool (r := false) rfl rfl rfl) (fun a1 hS => ?_)
      have hB68 : Below w6.heap.size w6 w8 := hB7.trans (hB8.mono hB7.size)
      have hB18 : Below w1.heap.size w1 w8 := hB16.trans (hB68.mono hB16.size)
      refine nil_ok (wp_cond_false (hS.eval rfl) (wp_skip ?_))
      refine qx_seq (qx_seq (reg_seq ?_))
      refine seq_is hS (by decide) (runs_move rfl) (fun a1 hS => ?_)
      refine seq_is hS (by decide) (runs_not (b := true) rfl) (fun a1 hS => ?_)
      refine nil_ok (wp_cond_false (hS.eval rfl) (wp_skip ?_))
      have hgood := all_good (ss.map bl) l (by rwa [List.length_map]) (by simp; omega)
      have hpickE : l.map (fun x => (ss.map bl).getD x []) = (l.map (fun x => ss.getD x ByteArray.empty)).map bl := by
        rw [List.map_map]
        apply List.map_congr_left
        intro x hxm
        have := (hmem x hxm).2
        simp [this]
      rw [hpickE, List.length_map] at hgood
      have hask : askB (ss.length : Int) (ofN l) = true := by
        unfold askB
        rw [hr, show decide ((0 : Int) ≤ ss.length) = true by simp, show decide ((ss.length : Int) ≤ 65536) = true by simp; omega]; rfl
      have hz : sizeZ (ss.length : Int) (ofN l) = (provesL (ss.map bl) l).length := by unfold sizeZ provesL; rw [if_pos hask, toN_of]; simp
      have hple := parts_le' ss.length 0 l
      have hql : (provesL (ss.map bl) l).length ≤ 21 := by unfold provesL; rw [List.length_map, List.length_map]; omega
      have hpick2 : ∀ s ∈ l.map (fun x => ss.getD x ByteArray.empty), s.size ≤ 100000 := fun s h => by
        obtain ⟨x, hxm, rfl⟩ := List.mem_map.1 h
        have hx' := (hmem x hxm).2
        rw [List.getD_eq_getElem?_getD, List.getElem?_eq_getElem hx']
        exact hsz1 _ (List.getElem_mem hx')
      have hprv := fun w' (hB : Below w1.heap.size w1 w') => refProveM_any ss l _ _ w' (hs1.kept hB) (hx1.kept hB) hrn hsz2 (by omega)
      generalize provesL (ss.map bl) l = qs at *
      have hP8 := hP6.kept hB68
      obtain ⟨A4, c4, rfl, _⟩ := id hP8
      have hrl : (Tree.root ss.length (Tree.top (ss.map bl))).length = 32 := root_len _ _
      obtain ⟨r, hrr⟩ : ∃ x, x = Tree.root ss.length (Tree.top (ss.map bl)) := ⟨_, rfl⟩
      rw [← hrr] at hgood hrl
      refine qx_seq (reg_seq ?_)
      have hS := hS.only [(0, .slice A ss.length c), (1, .slice A1 (ofN l).length c1), (5, .slice A4 qs.length c4), (6, .int .i64 0)] ⟨rfl, rfl, rfl, rfl, trivial⟩
      refine seq_is hS (by decide) (runs_move rfl) (fun a1 hS => ?_)
      refine seq_is hS (by decide) (runs_eql (r := true) rfl rfl rfl) (fun a1 hS => ?_)
      refine seq_is hS (by decide) (runs_move rfl) (fun a1 hS => ?_)
      refine seq_yis hS (by decide) rfl (by decide) rfl (runs_move rfl) (fun a1 hS => ?_)
      refine seq_yis hS (by decide) rfl (by decide) rfl (runs_move rfl) (fun a1 hS => ?_)
      refine seq_yis hS (by decide) rfl (by decide) rfl (runs_move rfl) (fun a1 hS => ?_)
      refine seq_yes hS (by decide) rfl (by decide) rfl (runs_call (args := [.slice A ss.length c, .slice A1 (ofN l).length c1]) goes25 rfl (hprv w8 hB18)) (fun v9 w9 a9 hp9 hS => ?_)
      obtain ⟨hQ9, hB9⟩ := hp9
      have hB19 : Below w1.heap.size w1 w9 := hB18.trans (hB9.mono hB18.size)
      have hP9 := hP8.kept hB9
      refine seq_yes hS (by decide) rfl (by decide) rfl (runs_call (args := [.slice A4 qs.length c4, v9]) goes24 rfl (bool_post (fun w' => Below w9.heap.size w9 w') (by have := refSame_any qs qs _ v9 w9 hP9 hQ9; rwa [beq_self_eq_true] at this) (fun _ h => h))) (fun v10 w10 a10 hp10 hS => ?_)
      obtain ⟨rfl, hB10⟩ := hp10
      have hB110 : Below w1.heap.size w1 w10 := hB19.trans (hB10.mono hB19.size)
      have hP10 := hP9.kept hB10
      refine seq_is hS (by decide) (runs_pick rfl rfl) (fun a1 hS => ?_)
      refine seq_is hS (by decide) (runs_move rfl) (fun a1 hS => ?_)
      refine seq_yis hS (by decide) rfl (by decide) rfl (runs_move rfl) (fun a1 hS => ?_)
      refine seq_yis hS (by decide) rfl (by decide) rfl (runs_len rfl undStrs) (fun a1 hS => ?_)
      refine seq_yes hS (by decide) rfl (by decide) rfl (runs_buildNone undInts hi3) (fun v w11 a1 hpw11 hS => ?_)
      obtain ⟨rfl, rfl⟩ := hpw11
      have hB11 : Below w10.heap.size w10 (w10.alloc (.cells #[] 3)) := (Below.refl _ _).alloc (Nat.le_refl _) _
      generalize w10.alloc (.cells #[] 3) = w11 at *
      refine seq_yis hS (by decide) rfl (by decide) rfl (runs_move rfl) (fun a1 hS => ?_)
      refine seq_yes hS (by decide) rfl (by decide) rfl (copy_ints (hx1.kept (hB110.trans (hB11.mono hB110.size))) (by omega) rfl rfl) (fun v12 w12 a1 hpw12 hS => ?_)
      obtain ⟨hx12, hB12⟩ := hpw12
      have hB1012 : Below w10.heap.size w10 w12 := hB11.trans (hB12.mono hB11.size)
      have hB112 : Below w1.heap.size w1 w12 := hB110.trans (hB1012.mono hB110.size)
      refine seq_yis hS (by decide) rfl (by decide) rfl (runs_call (args := [.int .i64 ((ss.length : Nat) : Int), v12]) (Post := Is (.int .i64 ((qs.length : Nat) : Int)) w12) goes23 rfl (by have := size_call ss.length (ofN l) _ w12 hx12; rwa [hz] at this)) (fun a1 hS => ?_)
      refine seq_yis hS (by decide) rfl (by decide) rfl (runs_move rfl) (fun a1 hS => ?_)
      refine seq_yis hS (by decide) rfl (by decide) rfl (runs_len rfl undHashes) (fun a1 hS => ?_)
      refine seq_yis hS (by decide) rfl (by decide) rfl (runs_eql (r := true) rfl rfl (beq_iff_eq.2 rfl)) (fun a1 hS => ?_)
      refine seq_is hS (by decide) (runs_pick rfl rfl) (fun a1 hS => ?_)
      refine seq_is hS (by decide) (runs_move rfl) (fun a1 hS => ?_)
      refine seq_yis hS (by decide) rfl (by decide) rfl (runs_move rfl) (fun a1 hS => ?_)
      refine seq_yes hS (by decide) rfl (by decide) rfl (runs_call (args := [.slice A ss.length c]) goes27 rfl (hash_post (fun w' => Below w12.heap.size w12 w') (by have := refRootH_any ss _ w12 (hs1.kept hB112) hsz2 (by omega); rwa [← hrr] at this) (fun _ h => h))) (fun v13 w13 a13 hp13 hS => ?_)
      obtain ⟨rfl, hB13⟩ := hp13
      have hB113 : Below w1.heap.size w1 w13 := hB112.trans (hB13.mono hB112.size)
      have hP13 := hP10.kept (hB1012.trans (hB13.mono hB1012.size))
      refine seq_yis hS (by decide) rfl (by decide) rfl (runs_move rfl) (fun a1 hS => ?_)
      refine seq_yis hS (by decide) rfl (by decide) rfl (runs_len rfl undStrs) (fun a1 hS => ?_)
      refine seq_yes hS (by decide) rfl (by decide) rfl (runs_buildNone undInts hi3) (fun v w14 a1 hpw14 hS => ?_)
      obtain ⟨rfl, rfl⟩ := hpw14
      have hB14 : Below w13.heap.size w13 (w13.alloc (.cells #[] 3)) := (Below.refl _ _).alloc (Nat.le_refl _) _
      generalize w13.alloc (.cells #[] 3) = w14 at *
      refine seq_yis hS (by decide) rfl (by decide) rfl (runs_move rfl) (fun a1 hS => ?_)
      refine seq_yes hS (by decide) rfl (by decide) rfl (copy_ints (hx1.kept (hB113.trans (hB14.mono hB113.size))) (by omega) rfl rfl) (fun v15 w15 a1 hpw15 hS => ?_)
      obtain ⟨hx15, hB15⟩ := hpw15
      have hB1315 : Below w13.heap.size w13 w15 := hB14.trans (hB15.mono hB14.size)
      have hB115 : Below w1.heap.size w1 w15 := hB113.trans (hB1315.mono hB113.size)
      refine seq_yis hS (by decide) rfl (by decide) rfl (runs_move rfl) (fun a1 hS => ?_)
      refine seq_yis hS (by decide) rfl (by decide) rfl (runs_move rfl) (fun a1 hS => ?_)
      refine seq_yes hS (by decide) rfl (by decide) rfl (runs_call (args := [.slice A ss.length c, .slice A1 (ofN l).length c1]) goes28 rfl (pick_any ss l _ _ w15 (hs1.kept hB115) (hx1.kept hB115) (fun x h => (hmem x h).2) (by omega))) (fun v16 w16 a16 hp16 hS => ?_)
      obtain ⟨hO16, hB16', _⟩ := hp16
      have hS16 := strs_own hO16 (by simp)
      have hB116 : Below w1.heap.size w1 w16 := hB115.trans (hB16'.mono hB115.size)
      have hP16 := hP13.kept (hB1315.trans (hB16'.mono hB1315.size))
      refine seq_yis hS (by decide) rfl (by decide) rfl (runs_move rfl) (fun a1 hS => ?_)
      refine seq_yes hS (by decide) rfl (by decide) rfl (runs_call (args := [.agg (U8 r).toArray, .int .i64 ((ss.length : Nat) : Int), v15, v16, .slice A4 qs.length c4]) goes26 rfl (bool_post (fun w' => Below w16.heap.size w16 w') (by have := checkM_any r ss.length (ofN l) (l.map (fun x => ss.getD x ByteArray.empty)) qs v15 v16 _ w16 hrl (hx15.kept hB16') hS16 hP16 hpick2 (by omega) (by simp; omega) (hk1.below hB116 hk1.pos); rwa [hgood] at this) (fun _ h => h))) (fun v17 w17 a17 hp17 hS => ?_)
      obtain ⟨rfl, hB17⟩ := hp17
      refine seq_is hS (by decide) (runs_pick rfl rfl) (fun a1 hS => ?_)
      refine seq_is hS (by decide) (runs_assign rfl) (fun a1 hS => ?_)
      exact nil_ok (qx_ret (ret1 (t := 4) (by kernel_rfl) hS rfl ⟨rfl, hB1.trans ((hB116.trans (hB17.mono hB116.size)).mono hB1.size)⟩))
end Go.Proofs.YtdemoidmhmdgkaaDoor
