/- Layer 10: Own. Conditions: at most 10000 vertices. -/
import Derived.Test.YtbcmglggplmkfaaDoorYRows
import Derived.Test.YtbcmglggplmkfaaDoorJI
namespace Go.Proofs.YtbcmglggplmkfaaDoor
open Go.RowKit
set_option maxRecDepth 100000

theorem goes16 : Goes Tryd.prog 16 := goes_of Tryd.func16 (by kernel_rfl) rfl
theorem goes37 : Goes Tryd.prog 37 := goes_of Tryd.func37 (by kernel_rfl) rfl
theorem goes38 : Goes Tryd.prog 38 := goes_of Tryd.func38 (by kernel_rfl) rfl
/-- A worker's vertices. -/
def ownX (k j : Int) (l : List Vx) : List Vx := l.filter (fun x => decide (Part.own x.id k = j))
theorem filt_snoc (p : Vx → Bool) {l : List Vx} {i : Nat} {x : Vx} (h : l[i]? = some x) : (l.take (i + 1)).filter p = (l.take i).filter p ++ (if p x then [x] else []) := by
  rw [List.take_add_one, h, Option.toList_some, List.filter_append]
  by_cases hp : p x = true
  · simp [hp]
  · simp [hp]
section
variable {L : List (Nat × Value)} {w : World} {ty : TypeId}
theorem push_ownX {B n g2 : Nat} {s x : Operand} {sv : Value} {xs : List Vx} {e : Vx} (hs : vals L s = some sv) (hown : w.ownsRow B 23 5 sv n (cellsV xs)) (hx : vals L x = some (.slice (some ⟨g2, 0, none⟩) 1 1)) (hX : Has w g2 23 (vc e)) (hn : n ≤ 10000) (hB : B ≤ w.heap.size) (hcap : 0 < n ∨ ∀ g m c, sv = .slice (some g) m c → c = 0) :
    Runs Tryd.prog (.call { callee := .builtin .append, args := #[s, x], argTypes := #[33, 33] }) ty L w (fun u w2 => w2.ownsRow B 23 5 u (n + 1) (cellsV (xs ++ [e])) ∧ Below B w w2) := by
  obtain ⟨i48, hi48, hz48, hs48, hb48⟩ := info_parts infVx
  rw [cellsV_append, cellsV_one]
  exact (push_own1 undVx hi48 hz48 hs48 hb48 rfl (by omega) (by omega) hs hown hx hX rfl (by simp [vc, Value.oneCell']) hn hB hcap).mono (by rintro u w2 ⟨_, h2, h3⟩; exact ⟨h2, h3.1⟩)
end
set_option maxHeartbeats 1000000 in
theorem own1_any (x : Vx) (k j : Int) (gk gj : Nat) (w : World) (hk : Has w gk 3 [.int .i64 k]) (hj : Has w gj 3 [.int .i64 j]) : Ans 38 ([vv x] ++ [.pointer (some ⟨gk, 0, none⟩), .pointer (some ⟨gj, 0, none⟩)]) w (fun u w' => u = .bool (decide (Part.own x.id k = j)) ∧ Below w.heap.size w w') := by
  refine calls_qx (args := [.agg (vc x).toArray, .pointer (some ⟨gk, 0, none⟩), .pointer (some ⟨gj, 0, none⟩)]) 11 Tryd.func38 rfl (by kernel_rfl) (by simp) (fun a hS => ?_)
  have hB := Below.refl w.heap.size w
  have hkb := hk
  have hjb := hj
  refine qx_seq (reg_seq ?_)
  refine seq_op hS (by decide) (runs_boxB (cs := vc x) rfl rfl) (fun v1 w1 a1 hp hS => ?_)
  obtain ⟨rfl, hM1, hB1⟩ := hp
  have hB := hB.trans (hB1.mono hB.size)
  have hk := hkb.below hB hkb.lt
  have hj := hjb.below hB hjb.lt
  refine sI hS (runs_assign rfl) fun _ hS => ?_
  refine nil_ok (qx_seq (reg_guard (fun w' => Below w1.heap.size w1 w') [.inl (.pointer (some ⟨w.heap.size, 0 + 0, none⟩)), .inl (.int .i64 x.id), .inl (.int .i64 k), .inl (.int .i64 (Part.own x.id k)), .inl (.int .i64 j), .inl (.bool (decide (Part.own x.id k = j)))] 6 1 mixed rfl (by kernel_rfl) hS (Below.refl _ _) (fun _ h => h.drew) ?_))
  refine hs_is rfl (fun w' hw => runs_fieldK fo28_0 rfl) ?_
  refine hs_is rfl (fun w' hw => runs_load rfl pl3 ((hM1.below hw hM1.lt).at rfl)) ?_
  refine hs_is rfl (fun w' hw => runs_load rfl pl3 ((hk.below hw hk.lt).at rfl)) ?_
  refine hs_is rfl (fun w' hw => runs_call (args := [.int .i64 x.id, .int .i64 k]) goes39 rfl (own_any x.id k w')) ?_
  refine hs_is rfl (fun w' hw => runs_load rfl pl3 ((hj.below hw hj.lt).at rfl)) ?_
  refine hs_is rfl (fun w' hw => runs_eql rfl rfl (by rw [Bool.eq_iff_iff]; simp)) ?_
  refine (fun a3 w3 hS hB3 hq => ?_)
  clear hq
  have hB := hB.trans (hB3.mono hB.size)
  have hk := hkb.below hB hkb.lt
  have hj := hjb.below hB hjb.lt
  refine tail_op 6 (by kernel_rfl) rfl hS (by decide) (runs_assign rfl) (fun v5 w5 a5 hp hS => ⟨trivial, ?_⟩)
  obtain ⟨rfl, rfl⟩ := hp
  refine wpAnyH_done (by kernel_rfl) ?_ _
  exact qx_ret (ret1 (t := 4) (by kernel_rfl) hS rfl ⟨_, rfl, rfl, hB⟩)
set_option maxHeartbeats 1000000 in
theorem picked_any (l : List Vx) (v : Value) (k j : Int) (gk gj : Nat) (w : World) (hV : Verts w v l) (hl : l.length ≤ 10000) (hk : Has w gk 3 [.int .i64 k]) (hj : Has w gj 3 [.int .i64 j]) : Ans 37 [v, .func (.func 38) #[] #[.pointer (some ⟨gk, 0, none⟩), .pointer (some ⟨gj, 0, none⟩)]] w (fun u w' => w'.ownsRow w.heap.size 23 5 u (ownX k j l).length (cellsV (ownX k j l)) ∧ Below w.heap.size w w') := by
  obtain ⟨A, c, rfl, hc1, hc2, hA⟩ := hV
  have hV : Verts w (.slice A l.length c) l := ⟨A, c, rfl, hc1, hc2, hA⟩
  have hcm := hc2
  unfold maxLen at hcm
  refine calls_qx (args := [.slice A l.length c, .func (.func 38) #[] #[.pointer (some ⟨gk, 0, none⟩), .pointer (some ⟨gj, 0, none⟩)]]) 23 Tryd.func37 rfl (by kernel_rfl) (by simp) (fun a hS => ?_)
  have hB := Below.refl w.heap.size w
  have hkb := hk
  have hjb := hj
  have hVb := hV
  refine qx_seq (reg_seq ?_)
  refine sI hS (runs_assign rfl) fun _ hS => ?_
  refine nil_ok (qx_seq (reg_seq ?_))
  refine sI hS (runs_assign rfl) fun _ hS => ?_
  refine nil_ok (qx_seq (qx_seq (reg_seq ?_)))
  refine sI hS (runs_move rfl) fun _ hS => ?_
  refine sI hS (runs_len rfl undVx) fun _ hS => ?_
  refine sI hS (runs_move rfl) fun _ hS => ?_
  refine nil_ok (?_)
  refine qx_range (fun mm a w' => ∃ (i : Nat) (ov : Value), i ≤ l.length ∧ mm = l.length - i ∧ Below w.heap.size w w' ∧ w'.ownsRow w.heap.size 23 5 ov ((l.take i).filter (fun x => decide (Part.own x.id k = j))).length (cellsV ((l.take i).filter (fun x => decide (Part.own x.id k = j)))) ∧ (((l.take i).filter (fun x => decide (Part.own x.id k = j))).length = 0 → ov = .slice none 0 0) ∧ Sees 23 [(10, .int .i64 (i : Int)), (9, .int .i64 ((l.length : Nat) : Int)), (8, .slice A l.length c), (5, ov), (1, .func (.func 38) #[] #[.pointer (some ⟨gk, 0, none⟩), .pointer (some ⟨gj, 0, none⟩)]), (0, .slice A l.length c)] a) l.length ⟨0, _, by omega, by omega, hB, ⟨rfl, .inl ⟨rfl, rfl⟩⟩, (fun _ => rfl), hS.only _ ⟨rfl, rfl, rfl, rfl, rfl, rfl, trivial⟩⟩ ?_
  clear hS 
  rintro mm a wl1 ⟨i, ov, hi1, rfl, hBb1, hown, hz, hS⟩
  have hBsz1 := hBb1.size
  have hV := hVb.kept hBb1
  have hk := hkb.below hBb1 hkb.lt
  have hj := hjb.below hBb1 hjb.lt
  have hB := Below.refl wl1.heap.size wl1
  have hkb1 := hk
  have hjb1 := hj
  refine reg_seq ?_
  by_cases hlt1 : i < l.length
  · skip
    refine sI hS (lssT rfl rfl (by omega)) fun _ hS => ?_
    refine nil_ok ⟨_, hS.eval rfl, fun h => by simp at h, fun _ => ?_⟩
    obtain ⟨x, hx⟩ : ∃ x, l[i]? = some x := ⟨l[i], by simp [hlt1]⟩
    obtain ⟨b, o, rfl, hbw, hr⟩ := verts_row hV (by omega)
    have hrx := verts_at hr hx
    refine qx_seq (qx_block (qx_seq (reg_seq ?_)))
    refine sI hS (runs_indexAddrG (j := i) rfl rfl undVx sz28 rfl hlt1) fun _ hS => ?_
    refine sI hS (runs_loadVx rfl hrx) fun _ hS => ?_
    refine seq_op hS (by decide) (runs_allocB (cs := [.int .i64 0, .int .i64 0, .bool false, .bool false, .int .i64 0]) zo28 rfl) (fun v1 w1 a1 hp hS => ?_)
    obtain ⟨rfl, hM1, hB1⟩ := hp
    have hLhM1 : wl1.heap.size ≤ wl1.heap.size := hB.size
    have hB := hB.trans (hB1.mono hB.size)
    have hk := hkb1.below hB hkb1.lt
    have hj := hjb1.below hB hjb1.lt
    refine seq_none hS (runs_storeB (cs := vc x) rfl rfl hM1 rfl rfl sz28) (fun v3 w3 a1 hp hS => ?_)
    obtain ⟨hM1, hU3⟩ := hp
    have hB := But.new hB hU3 (fun i e => by rw [e]; exact hLhM1) (Nat.le_refl _)
    have hk := hkb1.below hB hkb1.lt
    have hj := hjb1.below hB hjb1.lt
    refine nil_ok (qx_seq (reg_seq ?_))
    refine sI hS (runs_move rfl) fun _ hS => ?_
    refine sI hS (runs_loadRow rfl hM1 Tryd.underlying23 rfl (by rw [sz28]; rfl)) fun _ hS => ?_
    refine seq_op hS (by decide) (runs_callv (args := [.agg (vc x).toArray]) (caps := [.pointer (some ⟨gk, 0, none⟩), .pointer (some ⟨gj, 0, none⟩)]) goes38 rfl rfl (own1_any x k j gk gj w3 hk hj)) (fun v5 w5 a1 hp hS => ?_)
    obtain ⟨rfl, hB5⟩ := hp
    have hB := hB.trans (hB5.mono hB.size)
    have hk := hkb1.below hB hkb1.lt
    have hj := hjb1.below hB hjb1.lt
    have hM1 := hM1.below hB5 hM1.lt
    refine nil_ok (?_)
    by_cases hq : decide (Part.own x.id k = j) = true
    · skip
      rw [hq] at hS
      refine wp_cond_true (hS.eval rfl) (reg_seq ?_)
      refine sI hS (runs_move rfl) fun _ hS => ?_
      refine sI hS (runs_loadRow rfl hM1 Tryd.underlying23 rfl (by rw [sz28]; rfl)) fun _ hS => ?_
      refine seq_op hS (by decide) (runs_oneV (e := x) rfl) (fun v7 w7 a1 hp hS => ?_)
      obtain ⟨g2, rfl, hX, hB7⟩ := hp
      have hB := hB.trans (hB7.mono hB.size)
      have hk := hkb1.below hB hkb1.lt
      have hj := hjb1.below hB hjb1.lt
      refine seq_op hS (by decide) (push_ownX (B := w.heap.size) rfl (owns_kept hown hB) rfl hX (by have := List.length_filter_le (fun x => decide (Part.own x.id k = j)) (l.take i); have := List.length_take_le i l; omega) (Nat.le_trans hBsz1 hB.size) ((Nat.eq_zero_or_pos ((l.take i).filter (fun x => decide (Part.own x.id k = j))).length).elim (fun h => .inr (fun g m c e => by rw [hz h] at e; cases e)) .inl)) (fun v9 w9 a1 hp hS => ?_)
      obtain ⟨hown3, hB9⟩ := hp
      refine sI hS (runs_assign rfl) fun _ hS => ?_
      refine nil_ok (reg_seq ?_)
      refine sI hS (runs_add (r := ((i + 1 : Nat) : Int)) rfl rfl (by simp [IntKind.wrap, IntKind.bits, IntKind.signed]; omega)) fun _ hS => ?_
      refine sI hS (runs_move rfl) fun _ hS => ?_
      exact nil_ok ⟨_, by omega, i + 1, v9, by omega, rfl, hBb1.trans ((hB.mono hBb1.size).trans hB9), by rw [filt_snoc _ hx, if_pos hq, List.length_append]; exact hown3, (fun h => by rw [filt_snoc _ hx, if_pos hq] at h; simp at h), hS.only _ ⟨rfl, rfl, rfl, rfl, rfl, rfl, trivial⟩⟩
    · skip
      rw [Bool.eq_false_iff.2 hq] at hS
      refine wp_cond_false (hS.eval rfl) (wp_skip (reg_seq ?_))
      refine sI hS (runs_add (r := ((i + 1 : Nat) : Int)) rfl rfl (by simp [IntKind.wrap, IntKind.bits, IntKind.signed]; omega)) fun _ hS => ?_
      refine sI hS (runs_move rfl) fun _ hS => ?_
      exact nil_ok ⟨_, by omega, i + 1, ov, by omega, rfl, hBb1.trans (hB.mono hBb1.size), by rw [filt_snoc _ hx, if_neg hq, List.append_nil]; exact owns_kept hown hB, (fun h => by rw [filt_snoc _ hx, if_neg hq, List.append_nil] at h; exact hz h), hS.only _ ⟨rfl, rfl, rfl, rfl, rfl, rfl, trivial⟩⟩
  refine sI hS (lssF rfl rfl (by omega)) fun _ hS => ?_
  obtain rfl : i = l.length := by omega
  refine nil_ok ⟨_, hS.eval rfl, fun _ => ?_, fun h => by simp at h⟩
  have hB := hBb1
  rw [List.take_length] at hown
  refine qx_seq (reg_seq ?_)
  refine sI hS (runs_move rfl) fun _ hS => ?_
  refine sI hS (runs_assign rfl) fun _ hS => ?_
  exact nil_ok (qx_ret (ret1 (t := 4) (by kernel_rfl) hS rfl ⟨_, rfl, hown, hB⟩))
set_option maxHeartbeats 1000000 in
theorem sown_any (l : List Vx) (v : Value) (k j : Int) (w : World) (hV : Verts w v l) (hl : l.length ≤ 10000) : Ans 16 [v, .int .i64 k, .int .i64 j] w (fun u w' => w'.ownsRow w.heap.size 23 5 u (ownX k j l).length (cellsV (ownX k j l)) ∧ Below w.heap.size w w') := by
  refine calls_qx (args := [v, .int .i64 k, .int .i64 j]) 10 Tryd.func16 rfl (by kernel_rfl) (by simp) (fun a hS => ?_)
  have hB := Below.refl w.heap.size w
  have hVb := hV
  refine qx_seq (reg_seq ?_)
  refine seq_op hS (by decide) (runs_boxB (cs := [.int .i64 k]) rfl rfl) (fun v1 w1 a1 hp hS => ?_)
  obtain ⟨rfl, hM1, hB1⟩ := hp
  have hB := hB.trans (hB1.mono hB.size)
  have hV := hVb.kept hB
  refine seq_op hS (by decide) (runs_boxB (cs := [.int .i64 j]) rfl rfl) (fun v3 w3 a1 hp hS => ?_)
  obtain ⟨rfl, hM3, hB3⟩ := hp
  have hB := hB.trans (hB3.mono hB.size)
  have hM1 := hM1.below hB3 hM1.lt
  have hV := hVb.kept hB
  refine sI hS (runs_assign rfl) fun _ hS => ?_
  refine nil_ok (qx_seq (reg_seq ?_))
  refine sI hS (runs_move rfl) fun _ hS => ?_
  refine sI hS (runs_makeFunc (cs := [.pointer (some ⟨w.heap.size, 0, none⟩), .pointer (some ⟨w1.heap.size, 0, none⟩)]) rfl) fun _ hS => ?_
  refine seq_op hS (by decide) (runs_call (args := [v, .func (.func 38) #[] #[.pointer (some ⟨w.heap.size, 0, none⟩), .pointer (some ⟨w1.heap.size, 0, none⟩)]]) goes37 rfl (picked_any l v k j (w.heap.size) (w1.heap.size) w3 hV hl hM1 hM3)) (fun v5 w5 a1 hp hS => ?_)
  obtain ⟨hown9, hB5⟩ := hp
  have hown9 := owns_mono hown9 hB.size
  have hB := hB.trans (hB5.mono hB.size)
  refine sI hS (runs_assign rfl) fun _ hS => ?_
  exact nil_ok (qx_ret (ret1 (t := 6) (by kernel_rfl) hS rfl ⟨_, rfl, hown9, hB⟩))
end Go.Proofs.YtbcmglggplmkfaaDoor
