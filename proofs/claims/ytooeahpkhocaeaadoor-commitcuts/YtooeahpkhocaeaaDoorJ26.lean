/- Layer 11: the program's rows and bytes. Conditions: at most 10000 messages, each field within 64 bits. -/
import Derived.Test.YtooeahpkhocaeaaDoorJ25
import Derived.Test.YtooeahpkhocaeaaDoorJ00
import Derived.Test.YtooeahpkhocaeaaDoorJ15
import Derived.Test.YtooeahpkhocaeaaDoorJ19
namespace Go.Proofs.YtooeahpkhocaeaaDoor
open Go.RowKit
set_option maxRecDepth 100000

theorem goes48 : Goes Tryd.prog 48 := goes_of Tryd.func48 (by kernel_rfl) rfl
set_option maxHeartbeats 1000000 in
theorem brow_any (m : E) (hf : (-9223372036854775808 ≤ m.1 ∧ m.1 ≤ 9223372036854775807) ∧ (-9223372036854775808 ≤ m.2.1 ∧ m.2.1 ≤ 9223372036854775807) ∧ -9223372036854775808 ≤ m.2.2 ∧ m.2.2 ≤ 9223372036854775807) (w : World) : Ans 48 [.agg (encE m).toArray] w (fun u w' => u = .string (S (rowM m)) ∧ Below w.heap.size w w') := by
  refine calls_qx (args := [.agg (encE m).toArray]) 29 Tryd.func48 rfl (by kernel_rfl) (by simp) (fun a hS => ?_)
  have hB := Below.refl w.heap.size w
  refine qx_seq (reg_seq ?_)
  refine seq_op hS (by decide) (runs_boxB (cs := encE m) rfl rfl) (fun v1 w1 a1 hp hS => ?_)
  obtain ⟨rfl, hM1, hB1⟩ := hp
  have hB := hB.trans (hB1.mono hB.size)
  refine sI hS (runs_assign rfl) fun _ hS => ?_
  refine nil_ok (qx_seq (qx_seq (reg_seq ?_)))
  refine sI hS (runs_fieldK fo41_0 rfl) fun _ hS => ?_
  refine sI hS (runs_load rfl pl3 (hM1.at rfl)) fun _ hS => ?_
  by_cases n1 : m.1 < 0
  · skip
    refine sI hS (lssT rfl rfl (by omega)) fun _ hS => ?_
    refine sI hS (runs_move rfl) fun _ hS => ?_
    refine sN hS fun _ hS => ?_
    refine sN hS fun _ hS => ?_
    refine sN hS fun _ hS => ?_
    refine sI hS (runs_pick rfl rfl) fun _ hS => ?_
    refine nil_ok (wp_cond_true (hS.eval rfl) (qx_seq (reg_seq ?_)))
    refine sI hS (runs_assign rfl) fun _ hS => ?_
    exact nil_ok (qx_ret (ret1 (t := 2) (by kernel_rfl) hS rfl ⟨_, rfl, by unfold rowM; rw [if_pos (by omega)]; rfl, hB⟩))
  refine sI hS (lssF rfl rfl (by omega)) fun _ hS => ?_
  refine sI hS (runs_move rfl) fun _ hS => ?_
  refine sY hS (runs_fieldK fo41_1 rfl) fun _ hS => ?_
  refine sY hS (runs_load rfl pl3 (hM1.at rfl)) fun _ hS => ?_
  by_cases n2 : m.2.1 < 0
  · skip
    refine sY hS (lssT rfl rfl (by omega)) fun _ hS => ?_
    refine sI hS (runs_pick rfl rfl) fun _ hS => ?_
    refine nil_ok (wp_cond_true (hS.eval rfl) (qx_seq (reg_seq ?_)))
    refine sI hS (runs_assign rfl) fun _ hS => ?_
    exact nil_ok (qx_ret (ret1 (t := 2) (by kernel_rfl) hS rfl ⟨_, rfl, by unfold rowM; rw [if_pos (by omega)]; rfl, hB⟩))
  refine sY hS (lssF rfl rfl (by omega)) fun _ hS => ?_
  refine sI hS (runs_pick rfl rfl) fun _ hS => ?_
  refine nil_ok (wp_cond_false (hS.eval rfl) (wp_skip (qx_seq (?_))))
  obtain ⟨q1, q2, q3⟩ := hf
  have l1 := Wire.num_len10 m.1.toNat (by omega)
  have l2 := Wire.num_len10 m.2.1.toNat (by omega)
  have hrow : [] ++ Wire.num m.1.toNat ++ Wire.num m.2.1.toNat ++ Wire.num (Wire.fold m.2.2) = rowM m := by unfold rowM; rw [if_neg (by omega), List.nil_append]
  have hBpre0 := hB
  have hB := Below.refl w1.heap.size w1
  have hM1b := hM1
  refine reg_seq ?_
  refine seq_op hS (by decide) (runs_call (args := []) goes19 rfl (wr_new w1)) (fun v3 w3 a1 hp hS => ?_)
  obtain ⟨rfl, hW, hK3⟩ := hp
  have hB := hB.trans hK3
  have hM1 := hM1b.below hB hM1b.lt
  refine sI hS (runs_assign rfl) fun _ hS => ?_
  refine nil_ok (qx_seq (reg_seq ?_))
  refine sI hS (runs_move rfl) fun _ hS => ?_
  refine sI hS (runs_fieldK fo41_0 rfl) fun _ hS => ?_
  refine sI hS (runs_load rfl pl3 (hM1.at rfl)) fun _ hS => ?_
  refine sI hS (runs_convInt (r := ((m.1.toNat : Nat) : Int)) rfl (by decide) undB64 (by simp [IntKind.wrap, IntKind.bits, IntKind.signed]; omega)) fun _ hS => ?_
  refine seq_op hS (by decide) (runs_call (args := [.pointer (some ⟨w1.heap.size, 0, none⟩), .int .u64 ((m.1.toNat : Nat) : Int)]) goes20 rfl (wr_num hW (by omega) (by simp only [List.length_nil]; omega))) (fun v4 w4 a1 hp hS => ?_)
  obtain ⟨hW, hK4⟩ := hp
  have hB := hB.trans hK4
  have hM1 := hM1b.below hB hM1b.lt
  refine nil_ok (qx_seq (reg_seq ?_))
  refine sI hS (runs_move rfl) fun _ hS => ?_
  refine sI hS (runs_fieldK fo41_1 rfl) fun _ hS => ?_
  refine sI hS (runs_load rfl pl3 (hM1.at rfl)) fun _ hS => ?_
  refine sI hS (runs_convInt (r := ((m.2.1.toNat : Nat) : Int)) rfl (by decide) undB64 (by simp [IntKind.wrap, IntKind.bits, IntKind.signed]; omega)) fun _ hS => ?_
  refine seq_op hS (by decide) (runs_call (args := [.pointer (some ⟨w1.heap.size, 0, none⟩), .int .u64 ((m.2.1.toNat : Nat) : Int)]) goes20 rfl (wr_num hW (by omega) (by simp only [List.length_append, List.length_nil]; omega))) (fun v5 w5 a1 hp hS => ?_)
  obtain ⟨hW, hK5⟩ := hp
  have hB := hB.trans hK5
  have hM1 := hM1b.below hB hM1b.lt
  refine nil_ok (qx_seq (reg_seq ?_))
  refine sI hS (runs_move rfl) fun _ hS => ?_
  refine sI hS (runs_fieldK fo41_2 rfl) fun _ hS => ?_
  refine sI hS (runs_load rfl pl2 (hM1.at rfl)) fun _ hS => ?_
  refine seq_op hS (by decide) (runs_call (args := [.pointer (some ⟨w1.heap.size, 0, none⟩), .int .i64 m.2.2]) goes54 rfl (wr_int hW q3.1 q3.2 (by simp only [List.length_append, List.length_nil]; omega))) (fun v6 w6 a1 hp hS => ?_)
  obtain ⟨hW, hK6⟩ := hp
  have hB := hB.trans hK6
  refine nil_ok (qx_seq (reg_seq ?_))
  refine sI hS (runs_move rfl) fun _ hS => ?_
  refine sI hS (runs_call (args := [.pointer (some ⟨w1.heap.size, 0, none⟩)]) goes22 rfl ((wr_done hW).mono (by rintro e w3 ⟨u, rfl, rfl, rfl⟩; exact ⟨_, rfl, by rw [hrow], rfl⟩))) fun _ hS => ?_
  refine sI hS (runs_assign rfl) fun _ hS => ?_
  exact nil_ok (qx_ret (ret1 (t := 2) (by kernel_rfl) hS rfl ⟨_, rfl, rfl, hBpre0.trans (hB.mono hBpre0.size)⟩))
set_option maxHeartbeats 1000000 in
theorem browsO_any (l : List E) (hl : l.length ≤ 10000) (hf : FitsM l) (v : Value) (w : World) (hE : Edges w v l) : Ans 42 [v] w (fun u w' => w'.ownsRow w.heap.size 9 1 u l.length (((rowsM l).map S).map Value.string) ∧ Below w.heap.size w w') := by
  refine calls_qx (args := [v]) 20 Tryd.func42 rfl (by kernel_rfl) (by simp) (fun a hS => ?_)
  have hB := Below.refl w.heap.size w
  refine qx_seq (reg_seq ?_)
  refine sI hS (runs_assign rfl) fun _ hS => ?_
  refine nil_ok (qx_seq (reg_seq ?_))
  refine sI hS (runs_assign rfl) fun _ hS => ?_
  refine nil_ok (qx_seq (qx_seq (reg_seq ?_)))
  refine sI hS (runs_move rfl) fun _ hS => ?_
  refine seq_op hS (by decide) (runs_call (args := [v]) goes47 rfl (msort_any l hl v w hE)) (fun v1 w1 a1 hp hS => ?_)
  obtain ⟨hB1, hSB⟩ := hp
  have hSo := hSB.edges
  obtain ⟨A, c, rfl, hc1, hc2, hA⟩ := id hSo
  have hB := hB.trans (hB1.mono hB.size)
  refine sI hS (runs_len rfl und32) fun _ hS => ?_
  refine sI hS (runs_move rfl) fun _ hS => ?_
  refine nil_ok (?_)
  have hsl := sortM_length l
  have hfs := hf.sort
  have hBpre0 := hB
  have hB := Below.refl w1.heap.size w1
  have hSob := hSo
  refine qx_range (fun mm a w' => ∃ (i : Nat) (ov : Value), i ≤ (sortM l).length ∧ mm = (sortM l).length - i ∧ Below w1.heap.size w1 w' ∧ w'.ownsRow w1.heap.size 9 1 ov i (rowB ((sortM l).take i)) ∧ (i = 0 → ov = .slice none 0 0) ∧ Sees 20 [(9, .int .i64 (i : Int)), (8, .int .i64 (((sortM l).length : Nat) : Int)), (7, .slice A (sortM l).length c), (3, ov)] a) (sortM l).length ⟨0, _, by omega, by omega, hB, ⟨rfl, .inl ⟨rfl, rfl⟩⟩, (fun _ => rfl), hS.only _ ⟨rfl, rfl, rfl, rfl, trivial⟩⟩ ?_
  clear hS 
  rintro mm a wl1 ⟨i, ov, hi1, rfl, hBb1, hown, hz, hS⟩
  have hBsz1 := hBb1.size
  have hSo := hSob.kept hBb1
  have hB := Below.refl wl1.heap.size wl1
  refine reg_seq ?_
  by_cases hlt1 : i < (sortM l).length
  · skip
    refine sI hS (lssT rfl rfl (by omega)) fun _ hS => ?_
    refine nil_ok ⟨_, hS.eval rfl, fun h => by simp at h, fun _ => ?_⟩
    obtain ⟨x, hx⟩ : ∃ x, (sortM l)[i]? = some x := ⟨(sortM l)[i], by simp [hlt1]⟩
    obtain ⟨b, o, rfl, hbw, hr⟩ := edges_row hSo (by omega)
    have hrx := edges_at hr hx
    have hfx := hfs x (List.mem_of_getElem? hx)
    refine qx_seq (qx_block (qx_seq (reg_seq ?_)))
    refine sI hS (runs_indexAddrG (j := i) rfl rfl und32 sz41 rfl hlt1) fun _ hS => ?_
    refine sI hS (runs_loadM rfl hrx) fun _ hS => ?_
    refine seq_op hS (by decide) (runs_allocB (cs := [.int .i64 0, .int .i64 0, .int .i64 0]) zo41 rfl) (fun v3 w3 a1 hp hS => ?_)
    obtain ⟨rfl, hM3, hB3⟩ := hp
    have hLhM3 : wl1.heap.size ≤ wl1.heap.size := hB.size
    have hB := hB.trans (hB3.mono hB.size)
    refine seq_none hS (runs_storeB (cs := encE x) rfl rfl hM3 rfl rfl sz41) (fun v5 w5 a1 hp hS => ?_)
    obtain ⟨hM3, hU5⟩ := hp
    have hB := But.new hB hU5 (fun i e => by rw [e]; exact hLhM3) (Nat.le_refl _)
    refine nil_ok (reg_seq ?_)
    refine sI hS (runs_move rfl) fun _ hS => ?_
    refine sI hS (runs_loadRow rfl hM3 Tryd.underlying92 rfl (by rw [sz41]; rfl)) fun _ hS => ?_
    refine seq_op hS (by decide) (runs_call (args := [.agg (encE x).toArray]) goes48 rfl (brow_any x hfx w5)) (fun v7 w7 a1 hp hS => ?_)
    obtain ⟨rfl, hB7⟩ := hp
    have hB := hB.trans (hB7.mono hB.size)
    refine seq_op hS (by decide) (runs_oneSt (s := S (rowM x)) rfl) (fun v9 w9 a1 hp hS => ?_)
    obtain ⟨g2, rfl, hX, hB9⟩ := hp
    have hB := hB.trans (hB9.mono hB.size)
    refine seq_op hS (by decide) (push_ownSK (B := w1.heap.size) rfl (owns_kept hown hB) rfl hX (by omega) (Nat.le_trans hBsz1 hB.size) ((Nat.eq_zero_or_pos i).elim (fun h => .inr (fun g m c e => by rw [hz h] at e; cases e)) .inl)) (fun v11 w11 a1 hp hS => ?_)
    obtain ⟨hown3, hK3⟩ := hp
    refine sI hS (runs_assign rfl) fun _ hS => ?_
    refine nil_ok (reg_seq ?_)
    refine sI hS (runs_add (r := ((i + 1 : Nat) : Int)) rfl rfl (by simp [IntKind.wrap, IntKind.bits, IntKind.signed]; omega)) fun _ hS => ?_
    refine sI hS (runs_move rfl) fun _ hS => ?_
    exact nil_ok ⟨_, by omega, i + 1, v11, by omega, rfl, hBb1.trans ((hB.mono hBb1.size).trans hK3.1), by rw [rowB_snoc hx]; exact hown3, (fun h => by omega), hS.only _ ⟨rfl, rfl, rfl, rfl, trivial⟩⟩
  refine sI hS (lssF rfl rfl (by omega)) fun _ hS => ?_
  obtain rfl : i = (sortM l).length := by omega
  refine nil_ok ⟨_, hS.eval rfl, fun _ => ?_, fun h => by simp at h⟩
  have hB := hBb1
  rw [List.take_length, rowB_sort, hsl] at hown
  have hown := owns_mono hown hBpre0.size
  refine qx_seq (reg_seq ?_)
  refine sI hS (runs_move rfl) fun _ hS => ?_
  refine sI hS (runs_assign rfl) fun _ hS => ?_
  exact nil_ok (qx_ret (ret1 (t := 2) (by kernel_rfl) hS rfl ⟨_, rfl, hown, hBpre0.trans (hB.mono hBpre0.size)⟩))
theorem brows_c : RowsC := fun l v w hE hl hf => (browsO_any l hl hf v w hE).mono (by rintro e w' ⟨u, rfl, h1, h2⟩; exact ⟨_, rfl, strs_ownR h1 (by rw [List.length_map, rowsM_length]), h2⟩)
set_option maxRecDepth 100000 in
set_option maxHeartbeats 1000000 in
theorem broot_c : RootC := fun l v w hE hl hf hk => by
  refine calls_qx (args := [v]) 6 Tryd.func31 rfl (by kernel_rfl) (by simp) (fun a hS => ?_)
  refine qx_seq (reg_seq ?_)
  refine seq_op hS (by decide) alloc_hash (fun v1 w1 a1 hp1 hS => ?_)
  obtain ⟨rfl, rfl⟩ := hp1
  have hH1 := Has.new w 23 (U8 (List.replicate 32 0))
  have hB1 : Below w.heap.size w (w.alloc (.cells (U8 (List.replicate 32 0)).toArray 23)) := (Below.refl _ _).alloc (Nat.le_refl _) _
  generalize w.alloc (.cells (U8 (List.replicate 32 0)).toArray 23) = w1 at *
  have hE1 := hE.kept hB1
  have hk1 := hk.below hB1 hk.pos
  refine nil_ok (qx_seq (reg_seq ?_))
  refine seq_is hS (by decide) (runs_move rfl) (fun a1 hS => ?_)
  refine seq_op hS (by decide) (runs_call (args := [v]) goes42 rfl (brows_c l v w1 hE1 hl hf)) (fun v2 w2 a2 hp2 hS => ?_)
  obtain ⟨hR, hB2⟩ := hp2
  have hroot := root_any ((rowsM l).map S) v2 w2 hR (fun s hs => Nat.le_trans (rowsS_small hf s hs) (by omega)) (by rw [List.length_map, rowsM_length]; omega) (hk1.below hB2 hk1.pos)
  rw [rowsS_root] at hroot
  refine seq_op hS (by decide) (runs_call (args := [v2]) goes40 rfl (hash_post (fun w' => Below w2.heap.size w2 w') hroot (fun _ h => h))) (fun v3 w3 a3 hp3 hS => ?_)
  obtain ⟨rfl, hB3⟩ := hp3
  have hH3 := (hH1.below hB2 hH1.lt).below hB3 (Nat.lt_of_lt_of_le hH1.lt hB2.size)
  have hlen : (rootM l).length = 32 := rootM_len l
  refine seq_none hS (runs_storeRow (cs := (U8 (rootM l)).toArray) rfl rfl hH3 (by simp [hlen]) (agg_all _) (by rw [infHash]; simp [hlen])) (fun v6 w6 a6 hp6 hS => ?_)
  obtain ⟨rfl, rfl⟩ := hp6
  exact nil_ok (qx_ret (retRow (t := 0) (p := 2) (by kernel_rfl) hS rfl (has_setRow (cs := U8 (rootM l)) hH3) rfl undHash rfl (by rw [infHash]; simp [hlen]) ⟨_, rfl, rfl, below_row ((hB1.trans (hB2.mono hB1.size)).trans (hB3.mono (Nat.le_trans hB1.size hB2.size))) (Nat.le_refl _) _⟩))
end Go.Proofs.YtooeahpkhocaeaaDoor
/- Layer 12: how a commitment lies in memory. No condition. -/
namespace Go.Proofs.YtooeahpkhocaeaaDoor
open Go.RowKit
set_option maxRecDepth 100000

def cmc (c : Cm) (v : Value) : List Value := .int .i64 c.w :: .int .i64 c.st :: (U8 c.root ++ [v])
theorem cmc_len {c : Cm} {v : Value} (h : c.root.length = 32) : (cmc c v).length = 35 := by simp [cmc, h]
theorem cm_v {c : Cm} {v : Value} (h : c.root.length = 32) : (cmc c v)[34]? = some v := by
  show (U8 c.root ++ [v])[32]? = some v
  rw [List.getElem?_append_right (by rw [U8_length]; omega), U8_length, h]; rfl
theorem cm_root {w : World} {g : Nat} {t : TypeId} {c : Cm} {v : Value} (hg : Has w g t (cmc c v)) (h : c.root.length = 32) : w.rangeAt g (0 + 2) (U8 c.root) := by
  have := hg.range 2 32
  rw [show ((cmc c v).drop 2).take 32 = U8 c.root by
    show (U8 c.root ++ [v]).take 32 = _
    rw [List.take_left' (by rw [U8_length, h])]] at this
  exact this
theorem cm_one {c : Cm} {v : Value} (hv : v.oneCell' = true) : (cmc c v).all (·.oneCell') = true := by
  have := U8_one c.root
  simp only [cmc, List.all_cons, List.all_append, List.all_nil, hv, Bool.and_true, Bool.and_eq_true]
  exact ⟨rfl, rfl, List.all_eq_true.2 this⟩
theorem cm_set {c : Cm} {v v' : Value} (h : c.root.length = 32) : (cmc c v).set 34 v' = cmc c v' := by
  show .int .i64 c.w :: .int .i64 c.st :: (U8 c.root ++ [v]).set 32 v' = _
  rw [List.set_append_right _ _ (by rw [U8_length]; omega), U8_length, h]; rfl
theorem noCm_len : noCm.root.length = 32 := by decide
theorem szC : (Tryd.prog.info? 26).map (·.size) = some 35 := by kernel_rfl
theorem zoC : zeroOf Tryd.prog 26 = some (.agg (cmc noCm (.slice none 0 0)).toArray) := by kernel_rfl
theorem foC_0 : fieldOff Tryd.prog 26 0 = some 0 := by kernel_rfl
theorem foC_1 : fieldOff Tryd.prog 26 1 = some 1 := by kernel_rfl
theorem foC_2 : fieldOff Tryd.prog 26 2 = some 2 := by kernel_rfl
theorem foC_3 : fieldOff Tryd.prog 26 3 = some 34 := by kernel_rfl
theorem pl924 : (match Tryd.prog.underlying 24 with | some (.struct _) => true | some (.array _ _) => true | none => true | _ => false) = false := by kernel_rfl
theorem s1_924 : (Tryd.prog.info? 24).map (·.size) = some 1 := by kernel_rfl
theorem undHs : Tryd.prog.underlying 24 = some (.slice 23) := by kernel_rfl
theorem undLMM : Tryd.prog.underlying 39 = some (.slice 40) := by kernel_rfl
theorem undLV : Tryd.prog.underlying 38 = some (.slice 88) := by kernel_rfl
theorem infLM : (Tryd.prog.info? 40).map (fun i => (i.zero, i.size, i.bytes)) = some (some (.slice none 0 0), 1, 24) := by kernel_rfl
theorem szLM : (Tryd.prog.info? 40).map (·.size) = some 1 := by kernel_rfl
theorem plLM : (match Tryd.prog.underlying 40 with | some (.struct _) => true | some (.array _ _) => true | none => true | _ => false) = false := by kernel_rfl
theorem built_C3a (a b : Int) (bs : List (List Nat)) (x0 x1 x2 x3 x4 x5 x6 x7 x8 x9 x10 x11 x12 x13 x14 x15 x16 x17 x18 x19 x20 x21 x22 x23 x24 x25 x26 x27 x28 x29 x30 x31 : Nat) : Tryd.prog.built 26 [(0, .int .i64 a), (1, .int .i64 b), (2, .agg (U8 [x0, x1, x2, x3, x4, x5, x6, x7, x8, x9, x10, x11, x12, x13, x14, x15, x16, x17, x18, x19, x20, x21, x22, x23, x24, x25, x26, x27, x28, x29, x30, x31]).toArray)] = some (cmc ⟨a, b, [x0, x1, x2, x3, x4, x5, x6, x7, x8, x9, x10, x11, x12, x13, x14, x15, x16, x17, x18, x19, x20, x21, x22, x23, x24, x25, x26, x27, x28, x29, x30, x31], bs⟩ (.slice none 0 0)).toArray := by kernel_rfl
theorem built_C3 {a b : Int} {r : List Nat} {bs : List (List Nat)} (h : r.length = 32) : Tryd.prog.built 26 [(0, .int .i64 a), (1, .int .i64 b), (2, .agg (U8 r).toArray)] = some (cmc ⟨a, b, r, bs⟩ (.slice none 0 0)).toArray := by
  match r, h with
  | [x0, x1, x2, x3, x4, x5, x6, x7, x8, x9, x10, x11, x12, x13, x14, x15, x16, x17, x18, x19, x20, x21, x22, x23, x24, x25, x26, x27, x28, x29, x30, x31], _ => exact built_C3a a b bs x0 x1 x2 x3 x4 x5 x6 x7 x8 x9 x10 x11 x12 x13 x14 x15 x16 x17 x18 x19 x20 x21 x22 x23 x24 x25 x26 x27 x28 x29 x30 x31
/-- The value u is the commitment c. -/
def CmV (w : World) (u : Value) (c : Cm) : Prop := ∃ v, u = .agg (cmc c v).toArray ∧ Hashes w v c.bs ∧ c.root.length = 32 ∧ Sha.Bytes c.root
theorem CmV.kept {w w' : World} {u : Value} {c : Cm} (h : CmV w u c) (k : Below w.heap.size w w') : CmV w' u c := by
  obtain ⟨v, rfl, h1, h2, h3⟩ := h
  exact ⟨v, rfl, h1.kept k, h2, h3⟩
theorem CmV.ok {w : World} {u : Value} {c : Cm} (h : CmV w u c) : c.Ok := by
  obtain ⟨v, rfl, ⟨_, _, _, _, _, h5, _⟩, h2, h3⟩ := h
  exact ⟨⟨h2, h3⟩, h5⟩
theorem hashes_nil (w : World) : Hashes w (.slice none 0 0) [] := ⟨none, 0, rfl, Nat.le_refl _, by unfold maxLen; omega, by simp, fun h => absurd h (by simp)⟩
theorem cmv_no (w : World) : CmV w (.agg (cmc noCm (.slice none 0 0)).toArray) noCm := ⟨_, rfl, hashes_nil w, by decide, by unfold Sha.Bytes noCm zero32; intro x hx; rw [List.mem_replicate] at hx; omega⟩
/-- A slice of slices of messages. -/
def Outs (w : World) (v : Value) (ls : List (List E)) : Prop :=
  ∃ (A : Option Addr) (c : Nat) (vs : List Value), v = .slice A ls.length c ∧ ls.length ≤ c ∧ c ≤ maxLen ∧ vs.length = ls.length ∧ (0 < ls.length → ∃ b o, A = some ⟨b, o, none⟩ ∧ b < w.heap.size ∧ w.rangeAt b o vs) ∧ ∀ (i : Nat) (l : List E), ls[i]? = some l → ∃ u, vs[i]? = some u ∧ Edges w u l
theorem Outs.kept {w w' : World} {v : Value} {ls : List (List E)} (h : Outs w v ls) (k : Below w.heap.size w w') : Outs w' v ls := by
  obtain ⟨A, c, vs, rfl, h1, h2, h3, h4, h5⟩ := h
  refine ⟨A, c, vs, rfl, h1, h2, h3, fun hp => ?_, fun i l hi => ?_⟩
  · obtain ⟨b, o, rfl, hb, hr⟩ := h4 hp
    exact ⟨b, o, rfl, Nat.lt_of_lt_of_le hb k.size, range_below hr k hb⟩
  · obtain ⟨u, hu, hE⟩ := h5 i l hi
    exact ⟨u, hu, hE.kept k⟩
def putC (c : Cm) : ByteArray := if rightC c = true then S (bytesC c) else S []
def chkC (c : Cm) : Int := if rightC c = true then 0 else 120
theorem chkC_ok {c : Cm} (h : rightC c = true) : chkC c = 0 := if_pos h
theorem chkC_bad {c : Cm} (h : ¬ rightC c = true) : chkC c = 120 := if_neg h
theorem bl_putC {c : Cm} (h : rightC c = true) (ho : c.Ok) : bl (putC c) = bytesC c := by unfold putC; rw [if_pos h, bl_S (bytesC_lt ho)]
theorem bytesC_len {c : Cm} (h : c.Ok) (hr : rightC c = true) : (bytesC c).length ≤ 2200 := by
  obtain ⟨h1, h2, h3, h4, h5, h6⟩ := (rightC_iff c).1 hr
  have f := flatten_len c.bs (fun x hx => (h.bs x hx).1)
  have l1 := Wire.num_len10 c.w.toNat (by omega)
  have l2 := Wire.num_len10 c.st.toNat (by omega)
  have l3 := Wire.num_len10 c.bs.length (by omega)
  have l4 := h.root.1
  unfold bytesC
  simp only [List.length_cons, List.length_append]
  omega
theorem putC_size {c : Cm} (h : c.Ok) : (putC c).size ≤ 2200 := by
  unfold putC
  by_cases hr : rightC c = true
  · rw [if_pos hr, S_size]; exact bytesC_len h hr
  · rw [if_neg hr, S_size]; simp
/-- What Make makes of vertices and messages; whether a commitment keeps them. -/
def makeM (a b : Int) (l : List Vx) (outs : List (List E)) : Cm := ⟨a, b, rootX l, outs.map rootM⟩
def keepsB (c : Cm) (l : List Vx) (outs : List (List E)) : Bool := decide (c.root = rootX l) && decide (c.bs = outs.map rootM)
/-- Its numbers are whole numbers of 64 bits. -/
def FitsC (c : Cm) : Prop := (-9223372036854775808 ≤ c.w ∧ c.w ≤ 9223372036854775807) ∧ -9223372036854775808 ≤ c.st ∧ c.st ≤ 9223372036854775807
theorem fitsC_right {c : Cm} (h : rightC c = true) : FitsC c := by
  obtain ⟨h1, h2, h3, h4, _, _⟩ := (rightC_iff c).1 h
  exact ⟨⟨by omega, by omega⟩, by omega, by omega⟩
def FitsO (outs : List (List E)) : Prop := ∀ m ∈ outs, m.length ≤ 10000 ∧ FitsM m
/-- What is asked of the program's calls. -/
def CPutC : Prop := ∀ (c : Cm) (u : Value) (w : World), CmV w u c → c.bs.length ≤ 10000 → FitsC c → Ans 9 [u] w (fun r w' => r = .tuple #[.string (putC c), .int .i64 (chkC c)] ∧ Below w.heap.size w w')
def CGetC : Prop := ∀ (s : ByteArray) (w : World), s.size ≤ 20000 → Ans 12 [.string s] w (fun r w' => ∃ u, r = .tuple #[u, .int .i64 ((getC (bl s)).2 : Int)] ∧ CmV w' u (getC (bl s)).1 ∧ Below w.heap.size w w')
def CMakeC : Prop := ∀ (a b : Int) (l : List Vx) (outs : List (List E)) (vl vo : Value) (w : World), -9223372036854775808 ≤ a ∧ a ≤ 9223372036854775807 → -9223372036854775808 ≤ b ∧ b ≤ 9223372036854775807 → Verts w vl l → l.length ≤ 10000 → Outs w vo outs → outs.length ≤ 10000 → FitsO outs → Kept w → Ans 16 [.int .i64 a, .int .i64 b, vl, vo] w (fun r w' => ∃ u, r = .tuple #[u, .int .i64 (chkC (makeM a b l outs))] ∧ CmV w' u (if rightC (makeM a b l outs) = true then makeM a b l outs else noCm) ∧ Below w.heap.size w w')
def CKeepsC : Prop := ∀ (c : Cm) (l : List Vx) (outs : List (List E)) (u vl vo : Value) (w : World), CmV w u c → c.bs.length ≤ 10000 → Verts w vl l → l.length ≤ 10000 → Outs w vo outs → outs.length ≤ 10000 → FitsO outs → Kept w → Ans 17 [u, vl, vo] w (fun r w' => r = .bool (keepsB c l outs) ∧ Below w.heap.size w w')
def RPutC : Prop := ∀ (c : Cm) (u : Value) (w : World), CmV w u c → rightC c = true → Ans 13 [u] w (fun r w' => r = .string (S (bytesC c)) ∧ Below w.heap.size w w')
def RGetC : Prop := ∀ (s : ByteArray) (w : World), s.size ≤ 20000 → Ans 15 [.string s] w (fun r w' => ∃ u, r = .tuple #[u, .int .i64 ((getC (bl s)).2 : Int)] ∧ CmV w' u (getC (bl s)).1 ∧ Below w.heap.size w w')
def CAwkC : Prop := ∀ (w : World), Kept w → Ans 8 [] w (fun u w' => u = .bool true ∧ Below w.heap.size w w')
end Go.Proofs.YtooeahpkhocaeaaDoor
