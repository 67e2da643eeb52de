/- Layer 8: Sort, To, From. Conditions: none of our own. -/
import Derived.Test.YtooeahpkhocaeaaGreatDoorJ26
import Derived.Test.YtooeahpkhocaeaaGreatDoorJ25
import Derived.Test.YtooeahpkhocaeaaGreatDoorTTop
import Derived.Test.YtooeahpkhocaeaaGreatDoorJ13
import Derived.Test.YtooeahpkhocaeaaGreatDoorJ24
import Derived.Test.YtooeahpkhocaeaaGreatDoorJ23
import Derived.Lib.BufferWrite
import Derived.Deep.WholeRow
import Derived.Test.YtooeahpkhocaeaaGreatDoorJ19
import Derived.Test.YtooeahpkhocaeaaGreatDoorJ20
import Derived.Test.YtooeahpkhocaeaaGreatDoorJ18
import Derived.Laws.BitsAllLaws
import Derived.Laws.StructEq
namespace Go.Proofs.YtooeahpkhocaeaaGreatDoor
open Go.RowKit
set_option maxRecDepth 100000

set_option maxHeartbeats 1000000 in
theorem ordered_any (es : List E) (hsm : es.length ≤ 10000) (B : Nat) (v : Value) (w : World) (hown : w.ownsRow B 81 3 v es.length (cellsE es)) : Ans 59 [v] w (fun u w' => Below B w w' ∧ EdgesB B w' u (sortM es)) := by
  refine calls_qx (args := [v]) 6 Tryz.func59 rfl (by kernel_rfl) (by simp) (fun a hS => ?_)
  refine qx_seq (reg_seq ?_)
  refine sI hS (runs_assign rfl) fun _ hS => ?_
  refine nil_ok (qx_seq (reg_seq ?_))
  refine sI hS (runs_move rfl) fun _ hS => ?_
  refine seq_op hS (by decide) (runs_call (args := [v, .func (.func 75) #[] #[]]) goes74 rfl (sort_any es hsm B v w hown)) (fun v1 w1 a1 hp hS => ?_)
  obtain ⟨hBs, hEs⟩ := hp
  refine nil_ok (qx_seq (reg_seq ?_))
  refine sI hS (runs_move rfl) fun _ hS => ?_
  refine sI hS (runs_assign rfl) fun _ hS => ?_
  exact nil_ok (qx_ret (ret1 (t := 2) (by kernel_rfl) hS rfl ⟨_, rfl, hBs, hEs⟩))
set_option maxHeartbeats 1000000 in
theorem msort_any (es : List E) (hsm : es.length ≤ 10000) (v : Value) (w : World) (hE : Edges w v es) : Ans 44 [v] w (fun u w' => Below w.heap.size w w' ∧ EdgesB w.heap.size w' u (sortM es)) := by
  refine calls_qx (args := [v]) 6 Tryz.func44 rfl (by kernel_rfl) (by simp) (fun a hS => ?_)
  have hB := Below.refl w.heap.size w
  refine qx_seq (reg_seq ?_)
  refine sI hS (runs_assign rfl) fun _ hS => ?_
  refine nil_ok (qx_seq (reg_seq ?_))
  refine sI hS (runs_move rfl) fun _ hS => ?_
  refine seq_op hS (by decide) (runs_call (args := [v, .func (.func 61) #[] #[]]) goes60 rfl (picked_any es hsm v 61 goes61 [] (fun _ => true) w hE (fun e w1 hw1 => sort1_any e w1))) (fun v1 w1 a1 hp hS => ?_)
  obtain ⟨hB1, hown⟩ := hp
  have hown := owns_mono hown hB.size
  have hB := hB.trans (hB1.mono hB.size)
  refine seq_op hS (by decide) (runs_call (args := [v1]) goes59 rfl (ordered_any (es.filter fun _ => true) (Nat.le_trans (List.length_filter_le _ _) hsm) w.heap.size v1 w1 hown)) (fun v3 w3 a1 hp hS => ?_)
  obtain ⟨hBs, hEs⟩ := hp
  rw [filter_tt] at hEs
  refine sI hS (runs_assign rfl) fun _ hS => ?_
  exact nil_ok (qx_ret (ret1 (t := 2) (by kernel_rfl) hS rfl ⟨_, rfl, hB.trans hBs, hEs⟩))
end Go.Proofs.YtooeahpkhocaeaaGreatDoor
/- Layer 11: the program's rows and bytes. Conditions: at most 10000 messages, each field within 64 bits. -/
namespace Go.Proofs.YtooeahpkhocaeaaGreatDoor
open Go.RowKit
set_option maxRecDepth 100000

theorem goes45 : Goes Tryz.prog 45 := goes_of Tryz.func45 (by kernel_rfl) rfl
set_option maxHeartbeats 1000000 in
theorem brow_any (m : E) (hf : (-9223372036854775808 ≤ m.1 ∧ m.1 ≤ 9223372036854775807) ∧ (-9223372036854775808 ≤ m.2.1 ∧ m.2.1 ≤ 9223372036854775807) ∧ -9223372036854775808 ≤ m.2.2 ∧ m.2.2 ≤ 9223372036854775807) (w : World) : Ans 45 [.agg (encE m).toArray] w (fun u w' => u = .string (S (rowM m)) ∧ Below w.heap.size w w') := by
  refine calls_qx (args := [.agg (encE m).toArray]) 29 Tryz.func45 rfl (by kernel_rfl) (by simp) (fun a hS => ?_)
  have hB := Below.refl w.heap.size w
  refine qx_seq (reg_seq ?_)
  refine seq_op hS (by decide) (runs_boxB (cs := encE m) rfl rfl) (fun v1 w1 a1 hp hS => ?_)
  obtain ⟨rfl, hM1, hB1⟩ := hp
  have hB := hB.trans (hB1.mono hB.size)
  refine sI hS (runs_assign rfl) fun _ hS => ?_
  refine nil_ok (qx_seq (qx_seq (reg_seq ?_)))
  refine sI hS (runs_fieldK fo41_0 rfl) fun _ hS => ?_
  refine sI hS (runs_load rfl pl3 (hM1.at rfl)) fun _ hS => ?_
  by_cases n1 : m.1 < 0
  · skip
    refine sI hS (lssT rfl rfl (by omega)) fun _ hS => ?_
    refine sI hS (runs_move rfl) fun _ hS => ?_
    refine sN hS fun _ hS => ?_
    refine sN hS fun _ hS => ?_
    refine sN hS fun _ hS => ?_
    refine sI hS (runs_pick rfl rfl) fun _ hS => ?_
    refine nil_ok (wp_cond_true (hS.eval rfl) (qx_seq (reg_seq ?_)))
    refine sI hS (runs_assign rfl) fun _ hS => ?_
    exact nil_ok (qx_ret (ret1 (t := 2) (by kernel_rfl) hS rfl ⟨_, rfl, by unfold rowM; rw [if_pos (by omega)]; rfl, hB⟩))
  refine sI hS (lssF rfl rfl (by omega)) fun _ hS => ?_
  refine sI hS (runs_move rfl) fun _ hS => ?_
  refine sY hS (runs_fieldK fo41_1 rfl) fun _ hS => ?_
  refine sY hS (runs_load rfl pl3 (hM1.at rfl)) fun _ hS => ?_
  by_cases n2 : m.2.1 < 0
  · skip
    refine sY hS (lssT rfl rfl (by omega)) fun _ hS => ?_
    refine sI hS (runs_pick rfl rfl) fun _ hS => ?_
    refine nil_ok (wp_cond_true (hS.eval rfl) (qx_seq (reg_seq ?_)))
    refine sI hS (runs_assign rfl) fun _ hS => ?_
    exact nil_ok (qx_ret (ret1 (t := 2) (by kernel_rfl) hS rfl ⟨_, rfl, by unfold rowM; rw [if_pos (by omega)]; rfl, hB⟩))
  refine sY hS (lssF rfl rfl (by omega)) fun _ hS => ?_
  refine sI hS (runs_pick rfl rfl) fun _ hS => ?_
  refine nil_ok (wp_cond_false (hS.eval rfl) (wp_skip (qx_seq (?_))))
  obtain ⟨q1, q2, q3⟩ := hf
  have l1 := Wire.num_len10 m.1.toNat (by omega)
  have l2 := Wire.num_len10 m.2.1.toNat (by omega)
  have hrow : [] ++ Wire.num m.1.toNat ++ Wire.num m.2.1.toNat ++ Wire.num (Wire.fold m.2.2) = rowM m := by unfold rowM; rw [if_neg (by omega), List.nil_append]
  have hBpre0 := hB
  have hB := Below.refl w1.heap.size w1
  have hM1b := hM1
  refine reg_seq ?_
  refine seq_op hS (by decide) (runs_call (args := []) goes20 rfl (wr_new w1)) (fun v3 w3 a1 hp hS => ?_)
  obtain ⟨rfl, hW, hK3⟩ := hp
  have hB := hB.trans hK3
  have hM1 := hM1b.below hB hM1b.lt
  refine sI hS (runs_assign rfl) fun _ hS => ?_
  refine nil_ok (qx_seq (reg_seq ?_))
  refine sI hS (runs_move rfl) fun _ hS => ?_
  refine sI hS (runs_fieldK fo41_0 rfl) fun _ hS => ?_
  refine sI hS (runs_load rfl pl3 (hM1.at rfl)) fun _ hS => ?_
  refine sI hS (runs_convInt (r := ((m.1.toNat : Nat) : Int)) rfl (by decide) undB64 (by simp [IntKind.wrap, IntKind.bits, IntKind.signed]; omega)) fun _ hS => ?_
  refine seq_op hS (by decide) (runs_call (args := [.pointer (some ⟨w1.heap.size, 0, none⟩), .int .u64 ((m.1.toNat : Nat) : Int)]) goes21 rfl (wr_num hW (by omega) (by simp only [List.length_nil]; omega))) (fun v4 w4 a1 hp hS => ?_)
  obtain ⟨hW, hK4⟩ := hp
  have hB := hB.trans hK4
  have hM1 := hM1b.below hB hM1b.lt
  refine nil_ok (qx_seq (reg_seq ?_))
  refine sI hS (runs_move rfl) fun _ hS => ?_
  refine sI hS (runs_fieldK fo41_1 rfl) fun _ hS => ?_
  refine sI hS (runs_load rfl pl3 (hM1.at rfl)) fun _ hS => ?_
  refine sI hS (runs_convInt (r := ((m.2.1.toNat : Nat) : Int)) rfl (by decide) undB64 (by simp [IntKind.wrap, IntKind.bits, IntKind.signed]; omega)) fun _ hS => ?_
  refine seq_op hS (by decide) (runs_call (args := [.pointer (some ⟨w1.heap.size, 0, none⟩), .int .u64 ((m.2.1.toNat : Nat) : Int)]) goes21 rfl (wr_num hW (by omega) (by simp only [List.length_append, List.length_nil]; omega))) (fun v5 w5 a1 hp hS => ?_)
  obtain ⟨hW, hK5⟩ := hp
  have hB := hB.trans hK5
  have hM1 := hM1b.below hB hM1b.lt
  refine nil_ok (qx_seq (reg_seq ?_))
  refine sI hS (runs_move rfl) fun _ hS => ?_
  refine sI hS (runs_fieldK fo41_2 rfl) fun _ hS => ?_
  refine sI hS (runs_load rfl pl2 (hM1.at rfl)) fun _ hS => ?_
  refine seq_op hS (by decide) (runs_call (args := [.pointer (some ⟨w1.heap.size, 0, none⟩), .int .i64 m.2.2]) goes57 rfl (wr_int hW q3.1 q3.2 (by simp only [List.length_append, List.length_nil]; omega))) (fun v6 w6 a1 hp hS => ?_)
  obtain ⟨hW, hK6⟩ := hp
  have hB := hB.trans hK6
  refine nil_ok (qx_seq (reg_seq ?_))
  refine sI hS (runs_move rfl) fun _ hS => ?_
  refine sI hS (runs_call (args := [.pointer (some ⟨w1.heap.size, 0, none⟩)]) goes23 rfl ((wr_done hW).mono (by rintro e w3 ⟨u, rfl, rfl, rfl⟩; exact ⟨_, rfl, by rw [hrow], rfl⟩))) fun _ hS => ?_
  refine sI hS (runs_assign rfl) fun _ hS => ?_
  exact nil_ok (qx_ret (ret1 (t := 2) (by kernel_rfl) hS rfl ⟨_, rfl, rfl, hBpre0.trans (hB.mono hBpre0.size)⟩))
set_option maxHeartbeats 1000000 in
theorem browsO_any (l : List E) (hl : l.length ≤ 10000) (hf : FitsM l) (v : Value) (w : World) (hE : Edges w v l) : Ans 32 [v] w (fun u w' => w'.ownsRow w.heap.size 9 1 u l.length (((rowsM l).map S).map Value.string) ∧ Below w.heap.size w w') := by
  refine calls_qx (args := [v]) 20 Tryz.func32 rfl (by kernel_rfl) (by simp) (fun a hS => ?_)
  have hB := Below.refl w.heap.size w
  refine qx_seq (reg_seq ?_)
  refine sI hS (runs_assign rfl) fun _ hS => ?_
  refine nil_ok (qx_seq (reg_seq ?_))
  refine sI hS (runs_assign rfl) fun _ hS => ?_
  refine nil_ok (qx_seq (qx_seq (reg_seq ?_)))
  refine sI hS (runs_move rfl) fun _ hS => ?_
  refine seq_op hS (by decide) (runs_call (args := [v]) goes44 rfl (msort_any l hl v w hE)) (fun v1 w1 a1 hp hS => ?_)
  obtain ⟨hB1, hSB⟩ := hp
  have hSo := hSB.edges
  obtain ⟨A, c, rfl, hc1, hc2, hA⟩ := id hSo
  have hB := hB.trans (hB1.mono hB.size)
  refine sI hS (runs_len rfl und32) fun _ hS => ?_
  refine sI hS (runs_move rfl) fun _ hS => ?_
  refine nil_ok (?_)
  have hsl := sortM_length l
  have hfs := hf.sort
  have hBpre0 := hB
  have hB := Below.refl w1.heap.size w1
  have hSob := hSo
  refine qx_range (fun mm a w' => ∃ (i : Nat) (ov : Value), i ≤ (sortM l).length ∧ mm = (sortM l).length - i ∧ Below w1.heap.size w1 w' ∧ w'.ownsRow w1.heap.size 9 1 ov i (rowB ((sortM l).take i)) ∧ (i = 0 → ov = .slice none 0 0) ∧ Sees 20 [(9, .int .i64 (i : Int)), (8, .int .i64 (((sortM l).length : Nat) : Int)), (7, .slice A (sortM l).length c), (3, ov)] a) (sortM l).length ⟨0, _, by omega, by omega, hB, ⟨rfl, .inl ⟨rfl, rfl⟩⟩, (fun _ => rfl), hS.only _ ⟨rfl, rfl, rfl, rfl, trivial⟩⟩ ?_
  clear hS 
  rintro mm a wl1 ⟨i, ov, hi1, rfl, hBb1, hown, hz, hS⟩
  have hBsz1 := hBb1.size
  have hSo := hSob.kept hBb1
  have hB := Below.refl wl1.heap.size wl1
  refine reg_seq ?_
  by_cases hlt1 : i < (sortM l).length
  · skip
    refine sI hS (lssT rfl rfl (by omega)) fun _ hS => ?_
    refine nil_ok ⟨_, hS.eval rfl, fun h => by simp at h, fun _ => ?_⟩
    obtain ⟨x, hx⟩ : ∃ x, (sortM l)[i]? = some x := ⟨(sortM l)[i], by simp [hlt1]⟩
    obtain ⟨b, o, rfl, hbw, hr⟩ := edges_row hSo (by omega)
    have hrx := edges_at hr hx
    have hfx := hfs x (List.mem_of_getElem? hx)
    refine qx_seq (qx_block (qx_seq (reg_seq ?_)))
    refine sI hS (runs_indexAddrG (j := i) rfl rfl und32 sz41 rfl hlt1) fun _ hS => ?_
    refine sI hS (runs_loadM rfl hrx) fun _ hS => ?_
    refine seq_op hS (by decide) (runs_allocB (cs := [.int .i64 0, .int .i64 0, .int .i64 0]) zo41 rfl) (fun v3 w3 a1 hp hS => ?_)
    obtain ⟨rfl, hM3, hB3⟩ := hp
    have hLhM3 : wl1.heap.size ≤ wl1.heap.size := hB.size
    have hB := hB.trans (hB3.mono hB.size)
    refine seq_none hS (runs_storeB (cs := encE x) rfl rfl hM3 rfl rfl sz41) (fun v5 w5 a1 hp hS => ?_)
    obtain ⟨hM3, hU5⟩ := hp
    have hB := But.new hB hU5 (fun i e => by rw [e]; exact hLhM3) (Nat.le_refl _)
    refine nil_ok (reg_seq ?_)
    refine sI hS (runs_move rfl) fun _ hS => ?_
    refine sI hS (runs_loadRow rfl hM3 Tryz.underlying81 rfl (by rw [sz41]; rfl)) fun _ hS => ?_
    refine seq_op hS (by decide) (runs_call (args := [.agg (encE x).toArray]) goes45 rfl (brow_any x hfx w5)) (fun v7 w7 a1 hp hS => ?_)
    obtain ⟨rfl, hB7⟩ := hp
    have hB := hB.trans (hB7.mono hB.size)
    refine seq_op hS (by decide) (runs_oneSt (s := S (rowM x)) rfl) (fun v9 w9 a1 hp hS => ?_)
    obtain ⟨g2, rfl, hX, hB9⟩ := hp
    have hB := hB.trans (hB9.mono hB.size)
    refine seq_op hS (by decide) (push_ownSK (B := w1.heap.size) rfl (owns_kept hown hB) rfl hX (by omega) (Nat.le_trans hBsz1 hB.size) ((Nat.eq_zero_or_pos i).elim (fun h => .inr (fun g m c e => by rw [hz h] at e; cases e)) .inl)) (fun v11 w11 a1 hp hS => ?_)
    obtain ⟨hown3, hK3⟩ := hp
    refine sI hS (runs_assign rfl) fun _ hS => ?_
    refine nil_ok (reg_seq ?_)
    refine sI hS (runs_add (r := ((i + 1 : Nat) : Int)) rfl rfl (by simp [IntKind.wrap, IntKind.bits, IntKind.signed]; omega)) fun _ hS => ?_
    refine sI hS (runs_move rfl) fun _ hS => ?_
    exact nil_ok ⟨_, by omega, i + 1, v11, by omega, rfl, hBb1.trans ((hB.mono hBb1.size).trans hK3.1), by rw [rowB_snoc hx]; exact hown3, (fun h => by omega), hS.only _ ⟨rfl, rfl, rfl, rfl, trivial⟩⟩
  refine sI hS (lssF rfl rfl (by omega)) fun _ hS => ?_
  obtain rfl : i = (sortM l).length := by omega
  refine nil_ok ⟨_, hS.eval rfl, fun _ => ?_, fun h => by simp at h⟩
  have hB := hBb1
  rw [List.take_length, rowB_sort, hsl] at hown
  have hown := owns_mono hown hBpre0.size
  refine qx_seq (reg_seq ?_)
  refine sI hS (runs_move rfl) fun _ hS => ?_
  refine sI hS (runs_assign rfl) fun _ hS => ?_
  exact nil_ok (qx_ret (ret1 (t := 2) (by kernel_rfl) hS rfl ⟨_, rfl, hown, hBpre0.trans (hB.mono hBpre0.size)⟩))
theorem brows_c : RowsC := fun l v w hE hl hf => (browsO_any l hl hf v w hE).mono (by rintro e w' ⟨u, rfl, h1, h2⟩; exact ⟨_, rfl, strs_ownR h1 (by rw [List.length_map, rowsM_length]), h2⟩)
set_option maxRecDepth 100000 in
set_option maxHeartbeats 1000000 in
theorem broot_c : RootC := fun l v w hE hl hf hk => by
  refine calls_qx (args := [v]) 6 Tryz.func15 rfl (by kernel_rfl) (by simp) (fun a hS => ?_)
  refine qx_seq (reg_seq ?_)
  refine seq_op hS (by decide) alloc_hash (fun v1 w1 a1 hp1 hS => ?_)
  obtain ⟨rfl, rfl⟩ := hp1
  have hH1 := Has.new w 25 (U8 (List.replicate 32 0))
  have hB1 : Below w.heap.size w (w.alloc (.cells (U8 (List.replicate 32 0)).toArray 25)) := (Below.refl _ _).alloc (Nat.le_refl _) _
  generalize w.alloc (.cells (U8 (List.replicate 32 0)).toArray 25) = w1 at *
  have hE1 := hE.kept hB1
  have hk1 := hk.below hB1 hk.pos
  refine nil_ok (qx_seq (reg_seq ?_))
  refine seq_is hS (by decide) (runs_move rfl) (fun a1 hS => ?_)
  refine seq_op hS (by decide) (runs_call (args := [v]) goes32 rfl (brows_c l v w1 hE1 hl hf)) (fun v2 w2 a2 hp2 hS => ?_)
  obtain ⟨hR, hB2⟩ := hp2
  have hroot := root_any ((rowsM l).map S) v2 w2 hR (fun s hs => Nat.le_trans (rowsS_small hf s hs) (by omega)) (by rw [List.length_map, rowsM_length]; omega) (hk1.below hB2 hk1.pos)
  rw [rowsS_root] at hroot
  refine seq_op hS (by decide) (runs_call (args := [v2]) goes30 rfl (hash_post (fun w' => Below w2.heap.size w2 w') hroot (fun _ h => h))) (fun v3 w3 a3 hp3 hS => ?_)
  obtain ⟨rfl, hB3⟩ := hp3
  have hH3 := (hH1.below hB2 hH1.lt).below hB3 (Nat.lt_of_lt_of_le hH1.lt hB2.size)
  have hlen : (rootM l).length = 32 := rootM_len l
  refine seq_none hS (runs_storeRow (cs := (U8 (rootM l)).toArray) rfl rfl hH3 (by simp [hlen]) (agg_all _) (by rw [infHash]; simp [hlen])) (fun v6 w6 a6 hp6 hS => ?_)
  obtain ⟨rfl, rfl⟩ := hp6
  exact nil_ok (qx_ret (retRow (t := 0) (p := 2) (by kernel_rfl) hS rfl (has_setRow (cs := U8 (rootM l)) hH3) rfl undHash rfl (by rw [infHash]; simp [hlen]) ⟨_, rfl, rfl, below_row ((hB1.trans (hB2.mono hB1.size)).trans (hB3.mono (Nat.le_trans hB1.size hB2.size))) (Nat.le_refl _) _⟩))
end Go.Proofs.YtooeahpkhocaeaaGreatDoor
/- A region that draws, in which what is read may be written later (l, s = f(l), g(s)). Conditions: one check on the region's shape. -/
namespace Go.Proofs.YtooeahpkhocaeaaGreatDoor
open Go.RowKit
set_option maxRecDepth 100000
set_option maxRecDepth 100000
end Go.Proofs.YtooeahpkhocaeaaGreatDoor
/- The contracts of In.read, In.Num, In.Int. Conditions: none. -/
namespace Go.Proofs.YtooeahpkhocaeaaGreatDoor
open Go.RowKit
set_option maxRecDepth 100000

theorem enter39 : ∀ args w, (callFunc 39 args).run Tryz.prog w = .ok (.enter 39 args) w := enter_of Tryz.func39 (by kernel_rfl) rfl
end Go.Proofs.YtooeahpkhocaeaaGreatDoor
/- The contract of In.Hash. No condition. -/
namespace Go.Proofs.YtooeahpkhocaeaaGreatDoor
open Go.RowKit
set_option maxRecDepth 100000

theorem hc_ok (s : ByteArray) (p : Nat) (w : World) (hs : 32 ≤ s.size) (h : Has w p 25 (U8 Z32)) :
    Calls Tryz.prog 39 #[.string s, .pointer (some ⟨p, 0, none⟩)] w fun e w' => e = .returned (.tuple #[.int .i64 ((32 : Nat) : Int), .int .i64 0]) ∧ w' = w.setRow p (U8 ((bl s).take 32)).toArray := by
  have hcp := run_copy_hash w p s (U8 Z32) 3 25 h rfl hs
  unfold goInt at hcp
  have t1 : decide ((s.size : Int) < 32) = false := by simp; omega
  clear h
  go_enter Tryz.func39, Tryz.ntmps39
  go_wp2
  go_ret2
  exact ⟨rfl, rfl⟩
theorem hc_bad (s : ByteArray) (p : Nat) (w : World) (hs : s.size < 32) :
    Calls Tryz.prog 39 #[.string s, .pointer (some ⟨p, 0, none⟩)] w fun e w' => e = .returned (.tuple #[.int .i64 ((0 : Nat) : Int), .int .i64 ((20 : Nat) : Int)]) ∧ w = w' := by
  go_enter Tryz.func39, Tryz.ntmps39
  go_wp2
  go_ret2
  exact ⟨rfl, rfl⟩
set_option maxRecDepth 100000 in
set_option maxHeartbeats 1000000 in
/-- Behind the reading: what was read is loaded, and laid as the result. -/
theorem inHash_any (b : Nat) (s : ByteArray) (x : Nat) (w : World) (h : In w b s x) :
    Calls Tryz.prog 26 #[.pointer (some ⟨b, 0, none⟩)] w fun e w' => e = .returned (.agg (U8 (hashRes s x).1).toArray) ∧ Did w b (hashRes s x).2.1 (hashRes s x).2.2 w' := by
  have hmf := mf
  obtain ⟨W, hW⟩ : ∃ W, (w.alloc (.cells (U8 Z32).toArray 25)).alloc (.cells (U8 Z32).toArray 25) = W := ⟨_, rfl⟩
  have hR : Has W w.heap.size 25 (U8 Z32) := by rw [← hW]; exact (Has.new w 25 (U8 Z32)).alloc _
  have hQ : Has W (w.heap.size + 1) 25 (U8 Z32) := by rw [← hW]; exact Has.new' _ 25 (U8 Z32) _ _ rfl (by simp)
  have hI : In W b s x := by rw [← hW]; exact (Has.alloc h _).alloc _
  have hF : Fr b nul w W := by rw [← hW]; exact ((Fr.refl _ _ _).alloc _).alloc _
  have hne : b ≠ w.heap.size + 1 := by have := h.lt; omega
  have hnr : b ≠ w.heap.size := by have := h.lt; omega
  have hall : Calls Tryz.prog 36 #[.pointer (some ⟨b, 0, none⟩), .func (.func 39) #[] #[.pointer (some ⟨w.heap.size + 1, 0, none⟩)]] W fun e w' => e = .returned (.tuple #[]) ∧ Did w b (hashRes s x).2.1 (hashRes s x).2.2 w' ∧ Has w' (w.heap.size + 1) 25 (U8 (hashRes s x).1) ∧ Has w' w.heap.size 25 (U8 Z32) := by
    by_cases hx : x ≠ 0
    · rw [show hashRes s x = (Z32, s, x) by unfold hashRes; rw [if_pos hx]]
      refine (read_not _ b s x W hx hI).mono ?_
      rintro e w1 ⟨rfl, rfl⟩
      exact ⟨rfl, ⟨hI, hF⟩, hQ, hR⟩
    · obtain rfl : x = 0 := by omega
      by_cases hs : s.size < 32
      · rw [show hashRes s 0 = (Z32, s, 20) by unfold hashRes; rw [if_neg (by omega), if_pos hs]]
        refine (read_bad 39 #[.pointer (some ⟨w.heap.size + 1, 0, none⟩)] b s 0 20 (fun w1 => w1 = W) W hI (by omega) enter39 ((hc_bad s (w.heap.size + 1) W hs).mono fun e w1 ⟨he, hw⟩ => ⟨he, by rw [← hw]; exact hI, hw.symm⟩)).mono ?_
        rintro e w2 ⟨rfl, w1, rfl, hI1, rfl⟩
        exact ⟨rfl, ⟨by unfold In; simpa using Has.set_ hI1 1 (.int .i64 ((20 : Nat) : Int)), hF.set 1 _⟩, hQ.far (by simpa using hne.symm) _, hR.far (by simpa using hnr.symm) _⟩
      · rw [show hashRes s 0 = ((bl s).take 32, cut s 32, 0) by unfold hashRes; rw [if_neg (by omega), if_neg hs]]
        refine (read_ok 39 #[.pointer (some ⟨w.heap.size + 1, 0, none⟩)] b s 32 (fun w1 => w1 = W.setRow (w.heap.size + 1) (U8 ((bl s).take 32)).toArray) W hI (by omega) enter39 ((hc_ok s (w.heap.size + 1) W (by omega) hQ).mono fun e w1 ⟨he, hw⟩ => ⟨he, by rw [hw]; exact (setRow_other W _ b _ hne).trans hI, hw⟩)).mono ?_
        rintro e w2 ⟨rfl, w1, rfl, hI1, rfl⟩
        refine ⟨rfl, ⟨by unfold In; simpa using Has.set_ hI1 0 (.string (cut s 32)), (fr_row hF (by omega) _).set 0 _⟩, Has.far (setRow_heap W _ _ _ 25 (0, 0) hQ) (by simpa using hne.symm) _, Has.far ((setRow_other W _ w.heap.size _ (by omega)).trans hR) (by simpa using hnr.symm) _⟩
  have HC := Lib.hid hall
  have HNr := Lib.hid hnr
  have HSz := Lib.hid (size30' (hash_len s x))
  have HLn := Lib.hid (hash_len s x)
  have HW := Lib.hid hW
  clear h hR hQ hI hF hne hnr hall hW
  generalize hashRes s x = r at *
  go_enter Tryz.func26, Tryz.ntmps26
  go_wp2_with fail
  change Calls Tryz.prog 36 _ ((w.alloc (.cells (U8 Z32).toArray 25)).alloc (.cells (U8 Z32).toArray 25)) _
  rw [HW.out]
  refine HC.out.mono ?_
  rintro e w2 ⟨rfl, hd, hq, hr⟩
  have HQ := Lib.hid hq
  have HR := Lib.hid hr
  have HD := Lib.hid hd
  clear hd hq hr HC
  go_wp2_with (first
    | (refine wpList_load_row rfl 25 (.tmp 3) rfl (w.heap.size + 1) rfl 25 _ (0, 0) (.array 32 5) HQ.out und30 rfl HSz.out ?_)
    | (refine wpList_store_row rfl 25 (.tmp 2) (.tmp 7) rfl w.heap.size _ rfl rfl 25 _ HR.out HSz.out (by rw [List.size_toArray, List.size_toArray, U8_length, U8_length, HLn.out]; rfl) (all_oneCell_toArray (U8_one _)) ?_))
  refine bodyPost_ret (results_cell_row rfl _ _ w.heap.size 25 _ (0, 0) (.array 32 5) rfl (setRow_heap w2 _ _ _ 25 _ HR.out) und30 rfl HSz.out) rfl ⟨rfl, ?_⟩
  exact ⟨(setRow_other w2 _ b _ HNr.out).trans HD.out.1, fr_row HD.out.2 (Nat.le_refl _) _⟩
end Go.Proofs.YtooeahpkhocaeaaGreatDoor
/- Laws of operations for this program: numbers of 32 and 64 bits, rows of whole numbers. No condition. -/
namespace Go.Proofs.YtooeahpkhocaeaaGreatDoor
open Go.RowKit

set_option maxRecDepth 100000

theorem und40 : Tryz.prog.underlying 44 = some (.int .u64) := by kernel_rfl
section
variable {ty : TypeId} {L : List (Nat × Value)} {w : World}
theorem runs_to64 {s : TypeId} {x : Operand} {k : IntKind} {a : Nat} (hx : vals L x = some (.int k (a : Int))) (hs : (Tryz.prog.underlying s).isSome = true) (h : a < 18446744073709551616) : Runs Tryz.prog (.convert s 44 x) ty L w (Is (.int .u64 (a : Int)) w) :=
  runs_convInt (k' := .u64) hx hs und40 (by simp [IntKind.wrap, IntKind.bits, IntKind.signed]; omega)
end
end Go.Proofs.YtooeahpkhocaeaaGreatDoor
/- Small facts of vertices. No condition. -/
namespace Go.Proofs.YtooeahpkhocaeaaGreatDoor
open Go.RowKit
set_option maxRecDepth 100000

theorem fo28_0 : fieldOff Tryz.prog 77 0 = some 0 := by kernel_rfl
theorem fo28_1 : fieldOff Tryz.prog 77 1 = some 1 := by kernel_rfl
theorem fo28_2 : fieldOff Tryz.prog 77 2 = some 2 := by kernel_rfl
theorem fo28_3 : fieldOff Tryz.prog 77 3 = some 3 := by kernel_rfl
theorem fo28_4 : fieldOff Tryz.prog 77 4 = some 4 := by kernel_rfl
theorem sz28 : (Tryz.prog.info? 77).map (·.size) = some 5 := by kernel_rfl
theorem zo28 : zeroOf Tryz.prog 77 = some (.agg [.int .i64 0, .int .i64 0, .bool false, .bool false, .int .i64 0].toArray) := by kernel_rfl
theorem pl4 : (match Tryz.prog.underlying 4 with | some (.struct _) => true | some (.array _ _) => true | none => true | _ => false) = false := by kernel_rfl
abbrev vc (x : Vx) : List Value := [.int .i64 x.id, .int .i64 x.val, .bool x.act, .bool x.has, .int .i64 x.inn]
abbrev vv (x : Vx) : Value := .agg (vc x).toArray
end Go.Proofs.YtooeahpkhocaeaaGreatDoor
