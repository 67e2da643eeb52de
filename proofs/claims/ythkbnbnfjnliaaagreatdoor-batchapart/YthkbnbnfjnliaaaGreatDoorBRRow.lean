/- Layer 11: the document's message of a row. Conditions: at most 100000 bytes. -/
import Derived.Test.YthkbnbnfjnliaaaGreatDoorBRefZ
import Derived.Test.YthkbnbnfjnliaaaGreatDoorY0EngX
import Derived.Test.YthkbnbnfjnliaaaGreatDoorJ28
namespace Go.Proofs.YthkbnbnfjnliaaaGreatDoor
open Go.RowKit
set_option maxRecDepth 100000

def fldR (j n : Nat) : Fld := if j = 2 then fi1 (Wire.unfold_ n) else fn0 n
def rowR : Nat → List Nat → List Value
  | _, [] => []
  | j, n :: ns => (fldR j n).cells ++ rowR (j + 1) ns
theorem rowR_snoc : ∀ (j : Nat) (ns : List Nat) (n : Nat), rowR j (ns ++ [n]) = rowR j ns ++ (fldR (j + ns.length) n).cells
  | j, [], n => by simp [rowR]
  | j, m :: ns, n => by
    have ih := rowR_snoc (j + 1) ns n
    rw [show j + 1 + ns.length = j + (ns.length + 1) by omega] at ih
    simp [rowR, ih]
/-- After i of K numbers of L: these, and what is left. -/
def RdK (K : Nat) (L : List Nat) (i : Nat) (ns l : List Nat) : Prop := rdk K L = (ns ++ (rdk (K - i) l).1, (rdk (K - i) l).2)
theorem RdK.zero (K : Nat) (L : List Nat) : RdK K L 0 [] L := rfl
theorem RdK.step {K : Nat} {L ns l : List Nat} {i : Nat} (h : RdK K L i ns l) (hi : i < K) (h0 : (Wire.rd l).2.2 = 0) : RdK K L (i + 1) (ns ++ [(Wire.rd l).1]) (l.drop (Wire.rd l).2.1) := by
  unfold RdK at h ⊢
  rw [h, show K - i = (K - (i + 1)) + 1 by omega]
  simp only [rdk, h0, if_true, List.append_assoc, List.singleton_append]
theorem RdK.err {K : Nat} {L ns l : List Nat} {i : Nat} (h : RdK K L i ns l) (hi : i < K) (h0 : (Wire.rd l).2.2 ≠ 0) : (rdk K L).2.2 = (Wire.rd l).2.2 := by
  unfold RdK at h
  rw [h, show K - i = (K - (i + 1)) + 1 by omega]
  simp only [rdk, h0, if_false]
theorem RdK.all {K : Nat} {L ns l : List Nat} (h : RdK K L K ns l) : rdk K L = (ns, l, 0) := by
  unfold RdK at h; rw [h]; simp [rdk]
theorem three {l : List Nat} (h : l.length = 3) : ∃ a b c, l = [a, b, c] := by
  match l, h with
  | [a, b, c], _ => exact ⟨a, b, c, rfl⟩
theorem rdR_err {l : List Nat} {e : Nat} (h : (rdk 3 l).2.2 = e) (he : e ≠ 0) : rdR l = ((0, 0, 0), e) := by
  unfold rdR; rw [if_pos (by rw [h]; exact he), h]
theorem rdR_more {l : List Nat} (h : (rdk 3 l).2.2 = 0) (h2 : (rdk 3 l).2.1 ≠ []) : rdR l = ((0, 0, 0), 22) := by
  unfold rdR; rw [if_neg (by rw [h]; simp), if_pos h2]
theorem rdR_ok {l v : List Nat} {m : E} (h : rdk 3 l = (v, [], 0)) (hm : ofR v = m) : rdR l = (m, 0) := by
  unfold rdR; simp [h, hm]
theorem half3 {i : Nat} (h : i < 3) : IntKind.i64.wrap (((i : Nat) : Int).tdiv 2) = if i = 2 then 1 else 0 := by
  obtain rfl | rfl | rfl : i = 0 ∨ i = 1 ∨ i = 2 := by omega
  all_goals decide
theorem s1_3r : (Tryz.prog.info? 3).map (·.size) = some 1 := by kernel_rfl
theorem range_but {w w' : World} {b o g : Nat} {cs : List Value} (h : w.rangeAt b o cs) (hne : b ≠ g) (k : But (fun i => i = g) w w') : w'.rangeAt b o cs := fun j v hv => by
  have h1 := h j v hv
  have hb : b < w.heap.size := by
    unfold World.cell? at h1
    split at h1
    · rename_i h2; exact (Array.getElem?_eq_some_iff.1 h2).1
    · cases h1
  unfold World.cell? at h1 ⊢
  rw [k.block b hb hne]
  exact h1
set_option maxHeartbeats 1000000 in
theorem rrow_any (s : ByteArray) (hs : s.size ≤ 100000) (w : World) : Ans 43 [.string s] w (fun u w' => u = .tuple #[.agg (encE (rdR (bl s)).1).toArray, .int .i64 ((rdR (bl s)).2 : Int)] ∧ Below w.heap.size w w') := by
  refine calls_qx (args := [.string s]) 66 Tryz.func43 rfl (by kernel_rfl) (by simp) (fun a hS => ?_)
  have hB := Below.refl w.heap.size w
  refine qx_seq (reg_seq ?_)
  refine seq_op hS (by decide) (runs_allocB (cs := [.int .i64 0, .int .i64 0, .int .i64 0]) zo41 rfl) (fun v1 w1 a1 hp hS => ?_)
  obtain ⟨rfl, hM1, hB1⟩ := hp
  have hB := hB.trans (hB1.mono hB.size)
  refine sI hS (runs_assign rfl) fun _ hS => ?_
  refine nil_ok (qx_seq (?_))
  have hBpre0 := hB
  have hB := Below.refl w1.heap.size w1
  have hM1b := hM1
  refine reg_seq ?_
  refine seq_op hS (by decide) (none_ownF (B := w1.heap.size) hB.size) (fun v3 w3 a1 hp hS => ?_)
  obtain ⟨g0, rfl, h0, hB3⟩ := hp
  have hB := hB.trans (hB3.mono hB.size)
  have hM1 := hM1b.below hB hM1b.lt
  refine sI hS (runs_assign rfl) fun _ hS => ?_
  refine nil_ok (qx_seq (qx_seq (reg_seq ?_)))
  refine sI hS (runs_assign rfl) fun _ hS => ?_
  refine nil_ok (?_)
  refine qx_for (fun mm a w' => ∃ (i : Nat) (ns : List Nat) (cur : ByteArray) (ov : Value), i ≤ 3 ∧ mm = 3 - i ∧ Below w1.heap.size w1 w' ∧ ns.length = i ∧ (∀ n ∈ ns, n < 18446744073709551616) ∧ cur.size ≤ s.size ∧ RdK 3 (bl s) i ns (bl cur) ∧ w'.ownsRow w1.heap.size 67 37 ov i (rowR 0 ns) ∧ (i = 0 → ∀ g m c, ov = .slice (some g) m c → c = 0) ∧ Sees 66 [(5, .int .i64 (i : Int)), (4, ov), (2, .pointer (some ⟨w.heap.size, 0, none⟩)), (0, .string cur)] a) 3 ⟨0, [], s, _, by omega, by omega, hB, rfl, (fun n hn => by cases hn), Nat.le_refl _, RdK.zero _ _, h0, (fun _ g m c e => by cases e; rfl), hS.only _ ⟨rfl, rfl, rfl, rfl, trivial⟩⟩ ?_
  clear hS 
  rintro mm a wl1 ⟨i, ns, cur, ov, hi1, rfl, hBb1, hlen, hall, hcs, hrdI, hown, hz, hS⟩
  have hBsz1 := hBb1.size
  have hM1 := hM1b.below hBb1 hM1b.lt
  have hB := Below.refl wl1.heap.size wl1
  have hM1b1 := hM1
  refine reg_seq ?_
  refine sI hS (runs_move rfl) fun _ hS => ?_
  by_cases hlt1 : i < 3
  · skip
    refine sI hS (lssT rfl rfl (by omega)) fun _ hS => ?_
    refine nil_ok ⟨_, hS.eval rfl, fun h => by simp at h, fun _ => ?_⟩
    refine qx_seq (qx_block (qx_seq (?_)))
    by_cases k2 : i = 2
    · skip
      have hF : ∀ n, fldR i n = fi1 (Wire.unfold_ n) := fun n => if_pos k2
      by_cases hrd : (Wire.rd (bl cur)).2.2 = 0
      · skip
        refine reg_seq ?_
        refine sI hS (runs_move rfl) fun _ hS => ?_
        refine sI hS (runs_move rfl) fun _ hS => ?_
        refine sI hS (runs_quo (r := 1) rfl rfl (by decide) (by rw [half3 hlt1, if_pos k2])) fun _ hS => ?_
        refine sI hS (runs_buildK (pv := [(0, .int .i64 1)]) (cells := (fi1 0).cells.toArray) rfl (by kernel_rfl)) fun _ hS => ?_
        refine seq_op hS (by decide) (runs_call (args := [.string cur, (fi1 0).val]) goes42 rfl (rget1_ok (by omega) hrd)) (fun v5 w5 a1 hp hS => ?_)
        obtain ⟨rfl, hB5⟩ := hp
        have hB := hB.trans (hB5.mono hB.size)
        have hM1 := hM1b1.below hB hM1b1.lt
        refine sI hS (runs_move rfl) fun _ hS => ?_
        refine sI hS (runs_extract rfl rfl) fun _ hS => ?_
        refine sI hS (runs_extract rfl rfl) fun _ hS => ?_
        refine sI hS (runs_extract rfl rfl) fun _ hS => ?_
        refine seq_op hS (by decide) (runs_allocB (cs := (fn0 0).cells) zo67 rfl) (fun v7 w7 a1 hp hS => ?_)
        obtain ⟨rfl, hM7, hB7⟩ := hp
        have hLhM7 : wl1.heap.size ≤ w5.heap.size := hB.size
        have hB := hB.trans (hB7.mono hB.size)
        have hM1 := hM1b1.below hB hM1b1.lt
        refine seq_none hS (runs_storeB (cs := (fi1 (Wire.unfold_ (Wire.rd (bl cur)).1)).cells) rfl rfl hM7 rfl rfl sz67) (fun v9 w9 a1 hp hS => ?_)
        obtain ⟨hM7, hU9⟩ := hp
        have hB := But.new hB hU9 (fun i e => by rw [e]; exact hLhM7) (Nat.le_refl _)
        have hM1 := hM1b1.below hB hM1b1.lt
        refine sI hS (runs_assign rfl) fun _ hS => ?_
        refine sI hS (runs_assign rfl) fun _ hS => ?_
        refine nil_ok (qx_seq (qx_seq (reg_seq ?_)))
        refine sI hS (runs_move rfl) fun _ hS => ?_
        refine sI hS (runs_neq (r := false) rfl rfl (by simp)) fun _ hS => ?_
        refine nil_ok (wp_cond_false (hS.eval rfl) (wp_skip (?_)))
        have hownW := owns_kept hown hB
        have hszW : w1.heap.size ≤ w9.heap.size := Nat.le_trans hBsz1 hB.size
        obtain ⟨hk1, _, hk3, hk2⟩ := Wire.rd_back (bl cur) (Wire.rd (bl cur)).1 (Wire.rd (bl cur)).2.1 (bl_bytes cur) (by rw [← hrd])
        rw [bl_length] at hk1
        have hcap : 0 < i ∨ ∀ g m c, ov = .slice (some g) m c → c = 0 := (Nat.eq_zero_or_pos i).elim (fun h => .inr (hz h)) .inl
        refine reg_x (KR 67 37 w1.heap.size (rowR 0 ns ++ (fi1 (Wire.unfold_ (Wire.rd (bl cur)).1)).cells)) (fun w' => KR 67 37 w1.heap.size (rowR 0 ns ++ (fi1 (Wire.unfold_ (Wire.rd (bl cur)).1)).cells) w9 w') [.inl (ov), .inl ((fi1 (Wire.unfold_ (Wire.rd (bl cur)).1)).val), .inr (fun v w' => ∃ g5, v = .slice (some ⟨g5, 0, none⟩) 1 1 ∧ Has w' g5 67 (fi1 (Wire.unfold_ (Wire.rd (bl cur)).1)).cells), .inr (fun v w' => (∃ g3 c3, v = .slice (some ⟨g3, 0, none⟩) (i + 1) c3) ∧ w'.ownsRow w1.heap.size 67 37 v (i + 1) (rowR 0 ns ++ (fi1 (Wire.unfold_ (Wire.rd (bl cur)).1)).cells)), .inl (.string cur), .inl (.int .i64 ((Wire.rd (bl cur)).2.1 : Int)), .inl (.string (cut cur (Wire.rd (bl cur)).2.1)), .inr (fun v w' => (∃ g3 c3, v = .slice (some ⟨g3, 0, none⟩) (i + 1) c3) ∧ w'.ownsRow w1.heap.size 67 37 v (i + 1) (rowR 0 ns ++ (fi1 (Wire.unfold_ (Wire.rd (bl cur)).1)).cells)), .inl (.string (cut cur (Wire.rd (bl cur)).2.1))] 9 0 mixed rfl (by kernel_rfl) hS KR.refl (fun _ h => h.drew) ?_
        refine ks_is rfl (fun w' hw => runs_move rfl) ?_
        refine ks_is rfl (fun w' hw => runs_loadRow rfl (hw.2.2.2 _ _ rfl hM7) Tryz.underlying67 rfl (by rw [sz67]; rfl)) ?_
        refine ks_pr rfl (fun _ _ _ h hk => by obtain ⟨g5, h1, h2⟩ := h; exact ⟨g5, h1, hk.2.2.2 _ _ rfl h2⟩) (fun w' hw hq => (runs_oneF1 rfl).mono (by rintro v w5 ⟨g5, h1, h2, hb⟩; exact ⟨⟨g5, h1, h2⟩, hw.trans (KR.of_below hb (Nat.le_trans hszW hw.1.size)), KR.of_below hb (Nat.le_trans hszW hw.1.size)⟩)) (fun u2 => ?_)
        refine ks_pr rfl (fun _ _ _ h hk => ⟨h.1, hk.2.1 _ _ _ (List.prefix_refl _) h.2⟩) (fun w' hw hq => (by obtain ⟨g5, rfl, hX⟩ := hq (2, _) List.mem_cons_self (by kernel_rfl); exact (push_ownF rfl (hw.2.1 _ _ _ (List.prefix_append _ _) hownW) rfl hX rfl (by omega) (Nat.le_trans hszW hw.1.size) hcap).mono (by rintro v w5 ⟨h1, h2, h3⟩; exact ⟨⟨h1, h2⟩, hw.trans h3, h3⟩))) (fun u3 => ?_)
        refine ks_is rfl (fun w' hw => runs_move rfl) ?_
        refine ks_is rfl (fun w' hw => runs_move rfl) ?_
        refine ks_is rfl (fun w' hw => runs_cutS rfl rfl hk1) ?_
        refine ks_pr rfl (fun _ _ _ h hk => ⟨h.1, hk.2.1 _ _ _ (List.prefix_refl _) h.2⟩) (fun w' hw hq => (by have h := hq (3, _) List.mem_cons_self (by kernel_rfl); exact (runs_assign rfl).mono (by rintro v w5 ⟨rfl, rfl⟩; exact ⟨h, hw, KR.refl⟩))) (fun u7 => ?_)
        refine ks_is rfl (fun w' hw => runs_assign rfl) ?_
        refine (fun a11 w11 hS hK11 hq => ?_)


        obtain ⟨⟨g3, c3, rfl⟩, h41⟩ := (hq (7, _) List.mem_cons_self)
        clear hq
        refine wpAnyH_done (by kernel_rfl) ?_ _
        refine reg_seq ?_
        refine sI hS (runs_move rfl) fun _ hS => ?_
        refine sI hS (runs_add (r := ((i + 1 : Nat) : Int)) rfl rfl (by simp [IntKind.wrap, IntKind.bits, IntKind.signed]; omega)) fun _ hS => ?_
        refine sI hS (runs_assign rfl) fun _ hS => ?_
        exact nil_ok ⟨_, by omega, i + 1, ns ++ [(Wire.rd (bl cur)).1], cut cur (Wire.rd (bl cur)).2.1, _, by omega, rfl, hBb1.trans ((hB.mono hBb1.size).trans hK11.1), by simp [hlen], (fun n hn => by rcases List.mem_append.1 hn with h | h; exact hall n h; rw [List.mem_singleton] at h; rw [h]; exact hk2), by rw [cut, ByteArray.size_extract]; omega, by rw [bl_cut]; exact hrdI.step hlt1 hrd, by rw [rowR_snoc, hlen, Nat.zero_add, hF]; exact h41, (fun h => by omega), hS.only _ ⟨rfl, rfl, rfl, rfl, trivial⟩⟩
      · skip
        refine reg_seq ?_
        refine sI hS (runs_move rfl) fun _ hS => ?_
        refine sI hS (runs_move rfl) fun _ hS => ?_
        refine sI hS (runs_quo (r := 1) rfl rfl (by decide) (by rw [half3 hlt1, if_pos k2])) fun _ hS => ?_
        refine sI hS (runs_buildK (pv := [(0, .int .i64 1)]) (cells := (fi1 0).cells.toArray) rfl (by kernel_rfl)) fun _ hS => ?_
        refine seq_op hS (by decide) (runs_call (args := [.string cur, (fi1 0).val]) goes42 rfl (rget1_bad (by omega) hrd)) (fun v12 w12 a1 hp hS => ?_)
        obtain ⟨rfl, hB12⟩ := hp
        have hB := hB.trans (hB12.mono hB.size)
        have hM1 := hM1b1.below hB hM1b1.lt
        refine sI hS (runs_move rfl) fun _ hS => ?_
        refine sI hS (runs_extract rfl rfl) fun _ hS => ?_
        refine sI hS (runs_extract rfl rfl) fun _ hS => ?_
        refine sI hS (runs_extract rfl rfl) fun _ hS => ?_
        refine seq_op hS (by decide) (runs_allocB (cs := (fn0 0).cells) zo67 rfl) (fun v14 w14 a1 hp hS => ?_)
        obtain ⟨rfl, hM14, hB14⟩ := hp
        have hLhM14 : wl1.heap.size ≤ w12.heap.size := hB.size
        have hB := hB.trans (hB14.mono hB.size)
        have hM1 := hM1b1.below hB hM1b1.lt
        refine seq_none hS (runs_storeB (cs := (fn0 0).cells) rfl rfl hM14 rfl rfl sz67) (fun v16 w16 a1 hp hS => ?_)
        obtain ⟨hM14, hU16⟩ := hp
        have hB := But.new hB hU16 (fun i e => by rw [e]; exact hLhM14) (Nat.le_refl _)
        have hM1 := hM1b1.below hB hM1b1.lt
        refine sI hS (runs_assign rfl) fun _ hS => ?_
        refine sI hS (runs_assign rfl) fun _ hS => ?_
        refine nil_ok (qx_seq (qx_seq (reg_seq ?_)))
        refine sI hS (runs_move rfl) fun _ hS => ?_
        refine sI hS (runs_neq (r := true) rfl rfl (by simpa using hrd)) fun _ hS => ?_
        refine nil_ok (wp_cond_true (hS.eval rfl) (qx_seq (reg_seq ?_)))
        refine sI hS (runs_buildK (pv := []) (cells := #[.int .i64 0, .int .i64 0, .int .i64 0]) rfl (by kernel_rfl)) fun _ hS => ?_
        refine sI hS (runs_move rfl) fun _ hS => ?_
        refine seq_none hS (runs_storeB (cs := [.int .i64 0, .int .i64 0, .int .i64 0]) rfl rfl hM1 rfl rfl sz41) (fun v18 w18 a1 hp hS => ?_)
        obtain ⟨hM1, hU18⟩ := hp
        have hT := But.new (hBpre0.trans (((hBb1.trans ((hB).mono hBb1.size))).mono hBpre0.size)) hU18 (fun i e => by rw [e]; exact Nat.le_refl _) (Nat.le_refl _)
        refine sI hS (runs_assign rfl) fun _ hS => ?_
        have hfin := rdR_err (hrdI.err hlt1 hrd) hrd
        exact nil_ok (qx_ret (retRow2 (p := 2) (t := 3) (ty := 43) (by kernel_rfl) hS rfl rfl hM1 Tryz.underlying43 rfl (by rw [sz41]; rfl) ⟨_, rfl, by rw [hfin]; rfl, hT⟩))
    · skip
      have hF : ∀ n, fldR i n = fn0 n := fun n => if_neg k2
      by_cases hrd : (Wire.rd (bl cur)).2.2 = 0
      · skip
        refine reg_seq ?_
        refine sI hS (runs_move rfl) fun _ hS => ?_
        refine sI hS (runs_move rfl) fun _ hS => ?_
        refine sI hS (runs_quo (r := 0) rfl rfl (by decide) (by rw [half3 hlt1, if_neg k2])) fun _ hS => ?_
        refine sI hS (runs_buildK (pv := [(0, .int .i64 0)]) (cells := (fn0 0).cells.toArray) rfl (by kernel_rfl)) fun _ hS => ?_
        refine seq_op hS (by decide) (runs_call (args := [.string cur, (fn0 0).val]) goes42 rfl (rget0_ok (by omega) hrd)) (fun v19 w19 a1 hp hS => ?_)
        obtain ⟨rfl, hB19⟩ := hp
        have hB := hB.trans (hB19.mono hB.size)
        have hM1 := hM1b1.below hB hM1b1.lt
        refine sI hS (runs_move rfl) fun _ hS => ?_
        refine sI hS (runs_extract rfl rfl) fun _ hS => ?_
        refine sI hS (runs_extract rfl rfl) fun _ hS => ?_
        refine sI hS (runs_extract rfl rfl) fun _ hS => ?_
        refine seq_op hS (by decide) (runs_allocB (cs := (fn0 0).cells) zo67 rfl) (fun v21 w21 a1 hp hS => ?_)
        obtain ⟨rfl, hM21, hB21⟩ := hp
        have hLhM21 : wl1.heap.size ≤ w19.heap.size := hB.size
        have hB := hB.trans (hB21.mono hB.size)
        have hM1 := hM1b1.below hB hM1b1.lt
        refine seq_none hS (runs_storeB (cs := (fn0 (Wire.rd (bl cur)).1).cells) rfl rfl hM21 rfl rfl sz67) (fun v23 w23 a1 hp hS => ?_)
        obtain ⟨hM21, hU23⟩ := hp
        have hB := But.new hB hU23 (fun i e => by rw [e]; exact hLhM21) (Nat.le_refl _)
        have hM1 := hM1b1.below hB hM1b1.lt
        refine sI hS (runs_assign rfl) fun _ hS => ?_
        refine sI hS (runs_assign rfl) fun _ hS => ?_
        refine nil_ok (qx_seq (qx_seq (reg_seq ?_)))
        refine sI hS (runs_move rfl) fun _ hS => ?_
        refine sI hS (runs_neq (r := false) rfl rfl (by simp)) fun _ hS => ?_
        refine nil_ok (wp_cond_false (hS.eval rfl) (wp_skip (?_)))
        have hownW := owns_kept hown hB
        have hszW : w1.heap.size ≤ w23.heap.size := Nat.le_trans hBsz1 hB.size
        obtain ⟨hk1, _, hk3, hk2⟩ := Wire.rd_back (bl cur) (Wire.rd (bl cur)).1 (Wire.rd (bl cur)).2.1 (bl_bytes cur) (by rw [← hrd])
        rw [bl_length] at hk1
        have hcap : 0 < i ∨ ∀ g m c, ov = .slice (some g) m c → c = 0 := (Nat.eq_zero_or_pos i).elim (fun h => .inr (hz h)) .inl
        refine reg_x (KR 67 37 w1.heap.size (rowR 0 ns ++ (fn0 (Wire.rd (bl cur)).1).cells)) (fun w' => KR 67 37 w1.heap.size (rowR 0 ns ++ (fn0 (Wire.rd (bl cur)).1).cells) w23 w') [.inl (ov), .inl ((fn0 (Wire.rd (bl cur)).1).val), .inr (fun v w' => ∃ g5, v = .slice (some ⟨g5, 0, none⟩) 1 1 ∧ Has w' g5 67 (fn0 (Wire.rd (bl cur)).1).cells), .inr (fun v w' => (∃ g3 c3, v = .slice (some ⟨g3, 0, none⟩) (i + 1) c3) ∧ w'.ownsRow w1.heap.size 67 37 v (i + 1) (rowR 0 ns ++ (fn0 (Wire.rd (bl cur)).1).cells)), .inl (.string cur), .inl (.int .i64 ((Wire.rd (bl cur)).2.1 : Int)), .inl (.string (cut cur (Wire.rd (bl cur)).2.1)), .inr (fun v w' => (∃ g3 c3, v = .slice (some ⟨g3, 0, none⟩) (i + 1) c3) ∧ w'.ownsRow w1.heap.size 67 37 v (i + 1) (rowR 0 ns ++ (fn0 (Wire.rd (bl cur)).1).cells)), .inl (.string (cut cur (Wire.rd (bl cur)).2.1))] 9 0 mixed rfl (by kernel_rfl) hS KR.refl (fun _ h => h.drew) ?_
        refine ks_is rfl (fun w' hw => runs_move rfl) ?_
        refine ks_is rfl (fun w' hw => runs_loadRow rfl (hw.2.2.2 _ _ rfl hM21) Tryz.underlying67 rfl (by rw [sz67]; rfl)) ?_
        refine ks_pr rfl (fun _ _ _ h hk => by obtain ⟨g5, h1, h2⟩ := h; exact ⟨g5, h1, hk.2.2.2 _ _ rfl h2⟩) (fun w' hw hq => (runs_oneF0 rfl).mono (by rintro v w5 ⟨g5, h1, h2, hb⟩; exact ⟨⟨g5, h1, h2⟩, hw.trans (KR.of_below hb (Nat.le_trans hszW hw.1.size)), KR.of_below hb (Nat.le_trans hszW hw.1.size)⟩)) (fun u2 => ?_)
        refine ks_pr rfl (fun _ _ _ h hk => ⟨h.1, hk.2.1 _ _ _ (List.prefix_refl _) h.2⟩) (fun w' hw hq => (by obtain ⟨g5, rfl, hX⟩ := hq (2, _) List.mem_cons_self (by kernel_rfl); exact (push_ownF rfl (hw.2.1 _ _ _ (List.prefix_append _ _) hownW) rfl hX rfl (by omega) (Nat.le_trans hszW hw.1.size) hcap).mono (by rintro v w5 ⟨h1, h2, h3⟩; exact ⟨⟨h1, h2⟩, hw.trans h3, h3⟩))) (fun u3 => ?_)
        refine ks_is rfl (fun w' hw => runs_move rfl) ?_
        refine ks_is rfl (fun w' hw => runs_move rfl) ?_
        refine ks_is rfl (fun w' hw => runs_cutS rfl rfl hk1) ?_
        refine ks_pr rfl (fun _ _ _ h hk => ⟨h.1, hk.2.1 _ _ _ (List.prefix_refl _) h.2⟩) (fun w' hw hq => (by have h := hq (3, _) List.mem_cons_self (by kernel_rfl); exact (runs_assign rfl).mono (by rintro v w5 ⟨rfl, rfl⟩; exact ⟨h, hw, KR.refl⟩))) (fun u7 => ?_)
        refine ks_is rfl (fun w' hw => runs_assign rfl) ?_
        refine (fun a25 w25 hS hK25 hq => ?_)


        obtain ⟨⟨g3, c3, rfl⟩, h41⟩ := (hq (7, _) List.mem_cons_self)
        clear hq
        refine wpAnyH_done (by kernel_rfl) ?_ _
        refine reg_seq ?_
        refine sI hS (runs_move rfl) fun _ hS => ?_
        refine sI hS (runs_add (r := ((i + 1 : Nat) : Int)) rfl rfl (by simp [IntKind.wrap, IntKind.bits, IntKind.signed]; omega)) fun _ hS => ?_
        refine sI hS (runs_assign rfl) fun _ hS => ?_
        exact nil_ok ⟨_, by omega, i + 1, ns ++ [(Wire.rd (bl cur)).1], cut cur (Wire.rd (bl cur)).2.1, _, by omega, rfl, hBb1.trans ((hB.mono hBb1.size).trans hK25.1), by simp [hlen], (fun n hn => by rcases List.mem_append.1 hn with h | h; exact hall n h; rw [List.mem_singleton] at h; rw [h]; exact hk2), by rw [cut, ByteArray.size_extract]; omega, by rw [bl_cut]; exact hrdI.step hlt1 hrd, by rw [rowR_snoc, hlen, Nat.zero_add, hF]; exact h41, (fun h => by omega), hS.only _ ⟨rfl, rfl, rfl, rfl, trivial⟩⟩
      · skip
        refine reg_seq ?_
        refine sI hS (runs_move rfl) fun _ hS => ?_
        refine sI hS (runs_move rfl) fun _ hS => ?_
        refine sI hS (runs_quo (r := 0) rfl rfl (by decide) (by rw [half3 hlt1, if_neg k2])) fun _ hS => ?_
        refine sI hS (runs_buildK (pv := [(0, .int .i64 0)]) (cells := (fn0 0).cells.toArray) rfl (by kernel_rfl)) fun _ hS => ?_
        refine seq_op hS (by decide) (runs_call (args := [.string cur, (fn0 0).val]) goes42 rfl (rget0_bad (by omega) hrd)) (fun v26 w26 a1 hp hS => ?_)
        obtain ⟨rfl, hB26⟩ := hp
        have hB := hB.trans (hB26.mono hB.size)
        have hM1 := hM1b1.below hB hM1b1.lt
        refine sI hS (runs_move rfl) fun _ hS => ?_
        refine sI hS (runs_extract rfl rfl) fun _ hS => ?_
        refine sI hS (runs_extract rfl rfl) fun _ hS => ?_
        refine sI hS (runs_extract rfl rfl) fun _ hS => ?_
        refine seq_op hS (by decide) (runs_allocB (cs := (fn0 0).cells) zo67 rfl) (fun v28 w28 a1 hp hS => ?_)
        obtain ⟨rfl, hM28, hB28⟩ := hp
        have hLhM28 : wl1.heap.size ≤ w26.heap.size := hB.size
        have hB := hB.trans (hB28.mono hB.size)
        have hM1 := hM1b1.below hB hM1b1.lt
        refine seq_none hS (runs_storeB (cs := (fn0 0).cells) rfl rfl hM28 rfl rfl sz67) (fun v30 w30 a1 hp hS => ?_)
        obtain ⟨hM28, hU30⟩ := hp
        have hB := But.new hB hU30 (fun i e => by rw [e]; exact hLhM28) (Nat.le_refl _)
        have hM1 := hM1b1.below hB hM1b1.lt
        refine sI hS (runs_assign rfl) fun _ hS => ?_
        refine sI hS (runs_assign rfl) fun _ hS => ?_
        refine nil_ok (qx_seq (qx_seq (reg_seq ?_)))
        refine sI hS (runs_move rfl) fun _ hS => ?_
        refine sI hS (runs_neq (r := true) rfl rfl (by simpa using hrd)) fun _ hS => ?_
        refine nil_ok (wp_cond_true (hS.eval rfl) (qx_seq (reg_seq ?_)))
        refine sI hS (runs_buildK (pv := []) (cells := #[.int .i64 0, .int .i64 0, .int .i64 0]) rfl (by kernel_rfl)) fun _ hS => ?_
        refine sI hS (runs_move rfl) fun _ hS => ?_
        refine seq_none hS (runs_storeB (cs := [.int .i64 0, .int .i64 0, .int .i64 0]) rfl rfl hM1 rfl rfl sz41) (fun v32 w32 a1 hp hS => ?_)
        obtain ⟨hM1, hU32⟩ := hp
        have hT := But.new (hBpre0.trans (((hBb1.trans ((hB).mono hBb1.size))).mono hBpre0.size)) hU32 (fun i e => by rw [e]; exact Nat.le_refl _) (Nat.le_refl _)
        refine sI hS (runs_assign rfl) fun _ hS => ?_
        have hfin := rdR_err (hrdI.err hlt1 hrd) hrd
        exact nil_ok (qx_ret (retRow2 (p := 2) (t := 3) (ty := 43) (by kernel_rfl) hS rfl rfl hM1 Tryz.underlying43 rfl (by rw [sz41]; rfl) ⟨_, rfl, by rw [hfin]; rfl, hT⟩))
  refine sI hS (lssF rfl rfl (by omega)) fun _ hS => ?_
  obtain rfl : i = 3 := by omega
  refine nil_ok ⟨_, hS.eval rfl, fun _ => ?_, fun h => by simp at h⟩
  have hB := hBb1
  obtain ⟨n0, n1, n2, rfl⟩ := three hlen
  have hall3 := hrdI.all
  obtain ⟨gr, cr, rfl, hgr, hgrl, hR⟩ := owns_rowK hown (by omega)
  have u0 : n0 < 18446744073709551616 := hall n0 (by simp)
  have u1 : n1 < 18446744073709551616 := hall n1 (by simp)
  refine qx_seq (qx_seq (?_))
  by_cases hmore : bl cur = []
  · skip
    refine reg_seq ?_
    refine sI hS (runs_move rfl) fun _ hS => ?_
    refine sI hS (runs_neStr (r := false) rfl rfl (by rw [show bl (⟨#[]⟩ : ByteArray) = [] from rfl]; simp [hmore])) fun _ hS => ?_
    refine nil_ok (wp_cond_false (hS.eval rfl) (wp_skip (qx_seq (?_))))
    have hgrB := hgrl
    refine reg_seq ?_
    refine sI hS (runs_move rfl) fun _ hS => ?_
    refine sI hS (runs_indexAddrG (j := 2) rfl rfl und65 sz67 rfl (by omega)) fun _ hS => ?_
    refine sI hS (runs_fieldK fo67_3 rfl) fun _ hS => ?_
    refine sI hS (runs_load rfl pl2 (hR 77 (.int .i64 (Wire.unfold_ n2)) rfl)) fun _ hS => ?_
    refine sI hS (runs_buildK (pv := [(0, .int .i64 64), (1, .int .i64 64), (2, .int .i64 (Wire.unfold_ n2))]) (cells := #[.int .i64 64, .int .i64 64, .int .i64 (Wire.unfold_ n2)]) rfl (by kernel_rfl)) fun _ hS => ?_
    refine seq_op hS (by decide) (runs_allocB (cs := [.int .i64 0, .int .i64 0, .int .i64 0]) zo41 rfl) (fun v33 w33 a1 hp hS => ?_)
    obtain ⟨rfl, hM33, hB33⟩ := hp
    have hLhM33 : w1.heap.size ≤ wl1.heap.size := hB.size
    have hB := hB.trans (hB33.mono hB.size)
    have hM1 := hM1b.below hB hM1b.lt
    have hR := range_below hR hB33 hgrl
    have hgrl := Nat.lt_of_lt_of_le hgrl hB33.size
    refine seq_none hS (runs_storeB (cs := [.int .i64 64, .int .i64 64, .int .i64 (Wire.unfold_ n2)]) rfl rfl hM33 rfl rfl sz41) (fun v35 w35 a1 hp hS => ?_)
    have hgn35 : gr ≠ wl1.heap.size := Nat.ne_of_lt (Nat.lt_of_lt_of_le hgrB (by first | exact hgsz | exact Nat.le_refl _))
    obtain ⟨hM33, hU35⟩ := hp
    have hB := But.new hB hU35 (fun i e => by rw [e]; exact hLhM33) (Nat.le_refl _)
    have hM1 := hM1b.below hB hM1b.lt
    have hR := range_but hR hgn35 hU35
    have hgrl := Nat.lt_of_lt_of_le hgrl hU35.size
    refine nil_ok (qx_seq (qx_seq (reg_seq ?_)))
    refine sI hS (runs_move rfl) fun _ hS => ?_
    refine sI hS (runs_indexAddrG (j := 0) rfl rfl und65 sz67 rfl (by omega)) fun _ hS => ?_
    refine sI hS (runs_fieldK fo67_2 rfl) fun _ hS => ?_
    refine sI hS (runs_load rfl pl50 (hR 2 (.int .u64 (n0 : Int)) rfl)) fun _ hS => ?_
    by_cases b0 : n0 < 64
    · skip
      refine sI hS (lssT rfl rfl (by omega)) fun _ hS => ?_
      refine nil_ok (wp_cond_true (hS.eval rfl) (reg_seq ?_))
      refine sI hS (runs_move rfl) fun _ hS => ?_
      refine sI hS (runs_indexAddrG (j := 0) rfl rfl und65 sz67 rfl (by omega)) fun _ hS => ?_
      refine sI hS (runs_fieldK fo67_2 rfl) fun _ hS => ?_
      refine sI hS (runs_load rfl pl50 (hR 2 (.int .u64 (n0 : Int)) rfl)) fun _ hS => ?_
      refine sI hS (runs_convInt (r := ((n0 : Nat) : Int)) rfl (by decide) und3 (by simp [IntKind.wrap, IntKind.bits, IntKind.signed]; omega)) fun _ hS => ?_
      refine sI hS (runs_fieldK fo41_0 rfl) fun _ hS => ?_
      refine seq_none hS (runs_storeC rfl rfl rfl s1_3r hM33 rfl) (fun v37 w37 a1 hp hS => ?_)
      have hgn37 : gr ≠ wl1.heap.size := Nat.ne_of_lt (Nat.lt_of_lt_of_le hgrB (by first | exact hgsz | exact Nat.le_refl _))
      obtain ⟨hM33, hU37⟩ := hp
      have hB := But.new hB hU37 (fun i e => by rw [e]; exact hLhM33) (Nat.le_refl _)
      have hM1 := hM1b.below hB hM1b.lt
      have hR := range_but hR hgn37 hU37
      have hgrl := Nat.lt_of_lt_of_le hgrl hU37.size
      refine nil_ok (qx_seq (qx_seq (reg_seq ?_)))
      refine sI hS (runs_move rfl) fun _ hS => ?_
      refine sI hS (runs_indexAddrG (j := 1) rfl rfl und65 sz67 rfl (by omega)) fun _ hS => ?_
      refine sI hS (runs_fieldK fo67_2 rfl) fun _ hS => ?_
      refine sI hS (runs_load rfl pl50 (hR 39 (.int .u64 (n1 : Int)) rfl)) fun _ hS => ?_
      by_cases b1 : n1 < 64
      · skip
        refine sI hS (lssT rfl rfl (by omega)) fun _ hS => ?_
        refine nil_ok (wp_cond_true (hS.eval rfl) (reg_seq ?_))
        refine sI hS (runs_move rfl) fun _ hS => ?_
        refine sI hS (runs_indexAddrG (j := 1) rfl rfl und65 sz67 rfl (by omega)) fun _ hS => ?_
        refine sI hS (runs_fieldK fo67_2 rfl) fun _ hS => ?_
        refine sI hS (runs_load rfl pl50 (hR 39 (.int .u64 (n1 : Int)) rfl)) fun _ hS => ?_
        refine sI hS (runs_convInt (r := ((n1 : Nat) : Int)) rfl (by decide) und3 (by simp [IntKind.wrap, IntKind.bits, IntKind.signed]; omega)) fun _ hS => ?_
        refine sI hS (runs_fieldK fo41_1 rfl) fun _ hS => ?_
        refine seq_none hS (runs_storeC rfl rfl rfl s1_3r hM33 rfl) (fun v39 w39 a1 hp hS => ?_)
        have hgn39 : gr ≠ wl1.heap.size := Nat.ne_of_lt (Nat.lt_of_lt_of_le hgrB (by first | exact hgsz | exact Nat.le_refl _))
        obtain ⟨hM33, hU39⟩ := hp
        have hB := But.new hB hU39 (fun i e => by rw [e]; exact hLhM33) (Nat.le_refl _)
        have hM1 := hM1b.below hB hM1b.lt
        have hR := range_but hR hgn39 hU39
        have hgrl := Nat.lt_of_lt_of_le hgrl hU39.size
        refine nil_ok (qx_seq (reg_seq ?_))
        refine sI hS (runs_loadRow rfl hM33 Tryz.underlying43 rfl (by rw [sz41]; rfl)) fun _ hS => ?_
        refine seq_none hS (runs_storeB (cs := [.int .i64 ((n0 : Nat) : Int), .int .i64 ((n1 : Nat) : Int), .int .i64 (Wire.unfold_ n2)]) rfl rfl hM1 rfl rfl sz41) (fun v41 w41 a1 hp hS => ?_)
        obtain ⟨hM1, hU41⟩ := hp
        have hT := But.new (hBpre0.trans ((hB).mono hBpre0.size)) hU41 (fun i e => by rw [e]; exact Nat.le_refl _) (Nat.le_refl _)
        refine sI hS (runs_assign rfl) fun _ hS => ?_
        rw [hmore] at hall3
        have hfin := rdR_ok (m := ((n0 : Int), (n1 : Int), Wire.unfold_ n2)) hall3 (by simp [ofR, b0, b1])
        exact nil_ok (qx_ret (retRow2 (p := 2) (t := 3) (ty := 43) (by kernel_rfl) hS rfl rfl hM1 Tryz.underlying43 rfl (by rw [sz41]; rfl) ⟨_, rfl, by rw [hfin]; rfl, hT⟩))
      refine sI hS (lssF rfl rfl (by omega)) fun _ hS => ?_
      refine nil_ok (wp_cond_false (hS.eval rfl) (wp_skip (qx_seq (reg_seq ?_))))
      refine sI hS (runs_loadRow rfl hM33 Tryz.underlying43 rfl (by rw [sz41]; rfl)) fun _ hS => ?_
      refine seq_none hS (runs_storeB (cs := [.int .i64 ((n0 : Nat) : Int), .int .i64 64, .int .i64 (Wire.unfold_ n2)]) rfl rfl hM1 rfl rfl sz41) (fun v42 w42 a1 hp hS => ?_)
      obtain ⟨hM1, hU42⟩ := hp
      have hT := But.new (hBpre0.trans ((hB).mono hBpre0.size)) hU42 (fun i e => by rw [e]; exact Nat.le_refl _) (Nat.le_refl _)
      refine sI hS (runs_assign rfl) fun _ hS => ?_
      rw [hmore] at hall3
      have hfin := rdR_ok (m := ((n0 : Int), 64, Wire.unfold_ n2)) hall3 (by simp [ofR, b0, b1])
      exact nil_ok (qx_ret (retRow2 (p := 2) (t := 3) (ty := 43) (by kernel_rfl) hS rfl rfl hM1 Tryz.underlying43 rfl (by rw [sz41]; rfl) ⟨_, rfl, by rw [hfin]; rfl, hT⟩))
    refine sI hS (lssF rfl rfl (by omega)) fun _ hS => ?_
    refine nil_ok (wp_cond_false (hS.eval rfl) (wp_skip (qx_seq (qx_seq (reg_seq ?_)))))
    refine sI hS (runs_move rfl) fun _ hS => ?_
    refine sI hS (runs_indexAddrG (j := 1) rfl rfl und65 sz67 rfl (by omega)) fun _ hS => ?_
    refine sI hS (runs_fieldK fo67_2 rfl) fun _ hS => ?_
    refine sI hS (runs_load rfl pl50 (hR 39 (.int .u64 (n1 : Int)) rfl)) fun _ hS => ?_
    by_cases b1 : n1 < 64
    · skip
      refine sI hS (lssT rfl rfl (by omega)) fun _ hS => ?_
      refine nil_ok (wp_cond_true (hS.eval rfl) (reg_seq ?_))
      refine sI hS (runs_move rfl) fun _ hS => ?_
      refine sI hS (runs_indexAddrG (j := 1) rfl rfl und65 sz67 rfl (by omega)) fun _ hS => ?_
      refine sI hS (runs_fieldK fo67_2 rfl) fun _ hS => ?_
      refine sI hS (runs_load rfl pl50 (hR 39 (.int .u64 (n1 : Int)) rfl)) fun _ hS => ?_
      refine sI hS (runs_convInt (r := ((n1 : Nat) : Int)) rfl (by decide) und3 (by simp [IntKind.wrap, IntKind.bits, IntKind.signed]; omega)) fun _ hS => ?_
      refine sI hS (runs_fieldK fo41_1 rfl) fun _ hS => ?_
      refine seq_none hS (runs_storeC rfl rfl rfl s1_3r hM33 rfl) (fun v43 w43 a1 hp hS => ?_)
      have hgn43 : gr ≠ wl1.heap.size := Nat.ne_of_lt (Nat.lt_of_lt_of_le hgrB (by first | exact hgsz | exact Nat.le_refl _))
      obtain ⟨hM33, hU43⟩ := hp
      have hB := But.new hB hU43 (fun i e => by rw [e]; exact hLhM33) (Nat.le_refl _)
      have hM1 := hM1b.below hB hM1b.lt
      have hgrl := Nat.lt_of_lt_of_le hgrl hU43.size
      refine nil_ok (qx_seq (reg_seq ?_))
      refine sI hS (runs_loadRow rfl hM33 Tryz.underlying43 rfl (by rw [sz41]; rfl)) fun _ hS => ?_
      refine seq_none hS (runs_storeB (cs := [.int .i64 64, .int .i64 ((n1 : Nat) : Int), .int .i64 (Wire.unfold_ n2)]) rfl rfl hM1 rfl rfl sz41) (fun v45 w45 a1 hp hS => ?_)
      obtain ⟨hM1, hU45⟩ := hp
      have hT := But.new (hBpre0.trans ((hB).mono hBpre0.size)) hU45 (fun i e => by rw [e]; exact Nat.le_refl _) (Nat.le_refl _)
      refine sI hS (runs_assign rfl) fun _ hS => ?_
      rw [hmore] at hall3
      have hfin := rdR_ok (m := (64, (n1 : Int), Wire.unfold_ n2)) hall3 (by simp [ofR, b0, b1])
      exact nil_ok (qx_ret (retRow2 (p := 2) (t := 3) (ty := 43) (by kernel_rfl) hS rfl rfl hM1 Tryz.underlying43 rfl (by rw [sz41]; rfl) ⟨_, rfl, by rw [hfin]; rfl, hT⟩))
    refine sI hS (lssF rfl rfl (by omega)) fun _ hS => ?_
    refine nil_ok (wp_cond_false (hS.eval rfl) (wp_skip (qx_seq (reg_seq ?_))))
    refine sI hS (runs_loadRow rfl hM33 Tryz.underlying43 rfl (by rw [sz41]; rfl)) fun _ hS => ?_
    refine seq_none hS (runs_storeB (cs := [.int .i64 64, .int .i64 64, .int .i64 (Wire.unfold_ n2)]) rfl rfl hM1 rfl rfl sz41) (fun v46 w46 a1 hp hS => ?_)
    obtain ⟨hM1, hU46⟩ := hp
    have hT := But.new (hBpre0.trans ((hB).mono hBpre0.size)) hU46 (fun i e => by rw [e]; exact Nat.le_refl _) (Nat.le_refl _)
    refine sI hS (runs_assign rfl) fun _ hS => ?_
    rw [hmore] at hall3
    have hfin := rdR_ok (m := (64, 64, Wire.unfold_ n2)) hall3 (by simp [ofR, b0, b1])
    exact nil_ok (qx_ret (retRow2 (p := 2) (t := 3) (ty := 43) (by kernel_rfl) hS rfl rfl hM1 Tryz.underlying43 rfl (by rw [sz41]; rfl) ⟨_, rfl, by rw [hfin]; rfl, hT⟩))
  · skip
    refine reg_seq ?_
    refine sI hS (runs_move rfl) fun _ hS => ?_
    refine sI hS (runs_neStr (r := true) rfl rfl (by rw [show bl (⟨#[]⟩ : ByteArray) = [] from rfl]; simpa using hmore)) fun _ hS => ?_
    refine nil_ok (wp_cond_true (hS.eval rfl) (qx_seq (reg_seq ?_)))
    refine sI hS (runs_buildK (pv := []) (cells := #[.int .i64 0, .int .i64 0, .int .i64 0]) rfl (by kernel_rfl)) fun _ hS => ?_
    refine seq_none hS (runs_storeB (cs := [.int .i64 0, .int .i64 0, .int .i64 0]) rfl rfl hM1 rfl rfl sz41) (fun v47 w47 a1 hp hS => ?_)
    obtain ⟨hM1, hU47⟩ := hp
    have hT := But.new (hBpre0.trans ((hB).mono hBpre0.size)) hU47 (fun i e => by rw [e]; exact Nat.le_refl _) (Nat.le_refl _)
    refine sI hS (runs_assign rfl) fun _ hS => ?_
    have hfin := rdR_more (by rw [hall3]) (by rw [hall3]; exact hmore)
    exact nil_ok (qx_ret (retRow2 (p := 2) (t := 3) (ty := 43) (by kernel_rfl) hS rfl rfl hM1 Tryz.underlying43 rfl (by rw [sz41]; rfl) ⟨_, rfl, by rw [hfin]; rfl, hT⟩))
end Go.Proofs.YthkbnbnfjnliaaaGreatDoor
