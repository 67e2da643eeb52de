/- Layer 10: Rows and Root. Conditions: at most 100000 vertices. -/
import Derived.Test.YtbcmglggplmkfaaDoorYPut
import Derived.Test.YtbcmglggplmkfaaDoorJI
import Derived.Test.YtbcmglggplmkfaaDoorTTop
namespace Go.Proofs.YtbcmglggplmkfaaDoor
open Go.RowKit
set_option maxRecDepth 100000

theorem goes17 : Goes Tryd.prog 17 := goes_of Tryd.func17 (by kernel_rfl) rfl
theorem goes18 : Goes Tryd.prog 18 := goes_of Tryd.func18 (by kernel_rfl) rfl
def rowS (l : List Vx) : List Value := (l.map putX).map Value.string
theorem rowS_snoc {l : List Vx} {i : Nat} {x : Vx} (h : l[i]? = some x) : rowS (l.take (i + 1)) = rowS (l.take i) ++ [.string (putX x)] := by
  unfold rowS; rw [List.take_add_one, h, Option.toList_some, List.map_append, List.map_append]; rfl
theorem strs_ownR {w : World} {B n : Nat} {v : Value} {ss : List ByteArray} (h : w.ownsRow B 9 1 v n (ss.map Value.string)) (hn : ss.length = n) : Strs w v ss := by
  subst hn
  rcases h.2 with ⟨rfl, h0⟩ | ⟨g, c, cur, rfl, hb, hg, hc, hm, hs, ht⟩
  · exact ⟨none, 0, by rw [h0], by omega, by unfold maxLen; omega, fun h => by omega⟩
  · refine ⟨some ⟨g, 0, none⟩, c, rfl, hc, hm, fun hp => ⟨g, 0, rfl, (Array.getElem?_eq_some_iff.1 hg).1, fun i hi => ?_⟩⟩
    obtain ⟨g2, c2, e, _, _, hr⟩ := owns_rowK h hp
    simp only [Value.slice.injEq, Option.some.injEq, Addr.mk.injEq] at e
    obtain ⟨⟨rfl, _⟩, _⟩ := e
    exact hr i _ (by simp [List.getElem?_map, List.getElem?_eq_getElem hi, List.getD])
theorem verts_row {w : World} {A : Option Addr} {c : Nat} {l : List Vx} (h : Verts w (.slice A l.length c) l) (h0 : 0 < l.length) : ∃ b o, A = some ⟨b, o, none⟩ ∧ b < w.heap.size ∧ w.rangeAt b o (cellsV l) := by
  obtain ⟨A', c', e, _, _, hA⟩ := h
  simp only [Value.slice.injEq, true_and] at e
  obtain ⟨rfl, rfl⟩ := e
  exact hA h0
section
variable {L : List (Nat × Value)} {w : World} {ty : TypeId}
theorem runs_oneSt {x : Operand} {s : ByteArray} (hx : vals L x = some (.string s)) : Runs Tryd.prog (.buildSlice 36 1 #[(0, x)]) ty L w (fun v w' => ∃ g2, v = .slice (some ⟨g2, 0, none⟩) 1 1 ∧ Has w' g2 9 [.string s] ∧ Below w.heap.size w w') := by
  obtain ⟨i48, hi48, hz48, hs48, hb48⟩ := info_parts infStr
  exact (runs_buildSliceG (sz := 1) (pv := [(0, .string s)]) (by simp [hx]) undStrs hi48 hz48 hs48 (by omega) (by omega) (cells := #[.string s]) (by kernel_rfl)).mono (by rintro v w5 ⟨rfl, rfl⟩; exact ⟨_, rfl, Has.new w 9 [.string s], (Below.refl _ _).alloc (Nat.le_refl _) _⟩)
theorem push_ownS {B n g2 : Nat} {s x : Operand} {sv : Value} {xs : List Value} {t : ByteArray} (hs : vals L s = some sv) (hown : w.ownsRow B 9 1 sv n xs) (hx : vals L x = some (.slice (some ⟨g2, 0, none⟩) 1 1)) (hX : Has w g2 9 [.string t]) (hn : n ≤ 10000) (hB : B ≤ w.heap.size) (hcap : 0 < n ∨ ∀ g m c, sv = .slice (some g) m c → c = 0) :
    Runs Tryd.prog (.call { callee := .builtin .append, args := #[s, x], argTypes := #[36, 36] }) ty L w (fun u w2 => w2.ownsRow B 9 1 u (n + 1) (xs ++ [.string t]) ∧ Below B w w2) := by
  obtain ⟨i48, hi48, hz48, hs48, hb48⟩ := info_parts infStr
  exact (push_own1 undStrs hi48 hz48 hs48 hb48 rfl (by omega) (by omega) hs hown hx hX rfl (by simp [Value.oneCell']) hn hB hcap).mono (by rintro u w2 ⟨_, h2, h3⟩; exact ⟨h2, h3.1⟩)
end
set_option maxHeartbeats 1000000 in
theorem srows_any (l : List Vx) (v : Value) (w : World) (hV : Verts w v l) (hl : l.length ≤ 10000) : Ans 17 [v] w (fun u w' => Strs w' u (l.map putX) ∧ Below w.heap.size w w') := by
  obtain ⟨A, c, rfl, hc1, hc2, hA⟩ := hV
  have hV : Verts w (.slice A l.length c) l := ⟨A, c, rfl, hc1, hc2, hA⟩
  have hcm := hc2
  unfold maxLen at hcm
  refine calls_qx (args := [.slice A l.length c]) 19 Tryd.func17 rfl (by kernel_rfl) (by simp) (fun a hS => ?_)
  have hB := Below.refl w.heap.size w
  have hVb := hV
  refine qx_seq (reg_seq ?_)
  refine sI hS (runs_assign rfl) fun _ hS => ?_
  refine nil_ok (qx_seq (reg_seq ?_))
  refine sI hS (runs_assign rfl) fun _ hS => ?_
  refine nil_ok (qx_seq (qx_seq (reg_seq ?_)))
  refine sI hS (runs_move rfl) fun _ hS => ?_
  refine sI hS (runs_len rfl undVx) fun _ hS => ?_
  refine sI hS (runs_move rfl) fun _ hS => ?_
  refine nil_ok (?_)
  refine qx_range (fun mm a w' => ∃ (i : Nat) (ov : Value), i ≤ l.length ∧ mm = l.length - i ∧ Below w.heap.size w w' ∧ w'.ownsRow w.heap.size 9 1 ov i (rowS (l.take i)) ∧ (i = 0 → ov = .slice none 0 0) ∧ Sees 19 [(8, .int .i64 (i : Int)), (7, .int .i64 ((l.length : Nat) : Int)), (6, .slice A l.length c), (3, ov), (0, .slice A l.length c)] a) l.length ⟨0, _, by omega, by omega, hB, ⟨rfl, .inl ⟨rfl, rfl⟩⟩, (fun _ => rfl), hS.only _ ⟨rfl, rfl, rfl, rfl, rfl, trivial⟩⟩ ?_
  clear hS 
  rintro mm a wl1 ⟨i, ov, hi1, rfl, hBb1, hown, hz, hS⟩
  have hBsz1 := hBb1.size
  have hV := hVb.kept hBb1
  have hB := Below.refl wl1.heap.size wl1
  refine reg_seq ?_
  by_cases hlt1 : i < l.length
  · skip
    refine sI hS (lssT rfl rfl (by omega)) fun _ hS => ?_
    refine nil_ok ⟨_, hS.eval rfl, fun h => by simp at h, fun _ => ?_⟩
    obtain ⟨x, hx⟩ : ∃ x, l[i]? = some x := ⟨l[i], by simp [hlt1]⟩
    obtain ⟨b, o, rfl, hbw, hr⟩ := verts_row hV (by omega)
    have hrx := verts_at hr hx
    refine qx_seq (qx_block (qx_seq (reg_seq ?_)))
    refine sI hS (runs_indexAddrG (j := i) rfl rfl undVx sz28 rfl hlt1) fun _ hS => ?_
    refine sI hS (runs_loadVx rfl hrx) fun _ hS => ?_
    refine seq_op hS (by decide) (runs_allocB (cs := [.int .i64 0, .int .i64 0, .bool false, .bool false, .int .i64 0]) zo28 rfl) (fun v1 w1 a1 hp hS => ?_)
    obtain ⟨rfl, hM1, hB1⟩ := hp
    have hLhM1 : wl1.heap.size ≤ wl1.heap.size := hB.size
    have hB := hB.trans (hB1.mono hB.size)
    refine seq_none hS (runs_storeB (cs := vc x) rfl rfl hM1 rfl rfl sz28) (fun v3 w3 a1 hp hS => ?_)
    obtain ⟨hM1, hU3⟩ := hp
    have hB := But.new hB hU3 (fun i e => by rw [e]; exact hLhM1) (Nat.le_refl _)
    refine nil_ok (reg_seq ?_)
    refine sI hS (runs_move rfl) fun _ hS => ?_
    refine sI hS (runs_loadRow rfl hM1 Tryd.underlying23 rfl (by rw [sz28]; rfl)) fun _ hS => ?_
    refine seq_op hS (by decide) (runs_call (args := [.agg (vc x).toArray]) goes9 rfl (sput_any x w3)) (fun v5 w5 a1 hp hS => ?_)
    obtain ⟨rfl, hB5⟩ := hp
    have hB := hB.trans (hB5.mono hB.size)
    refine seq_op hS (by decide) (runs_oneSt (s := putX x) rfl) (fun v7 w7 a1 hp hS => ?_)
    obtain ⟨g2, rfl, hX, hB7⟩ := hp
    have hB := hB.trans (hB7.mono hB.size)
    refine seq_op hS (by decide) (push_ownS (B := w.heap.size) rfl (owns_kept hown hB) rfl hX (by omega) (Nat.le_trans hBsz1 hB.size) ((Nat.eq_zero_or_pos i).elim (fun h => .inr (fun g m c e => by rw [hz h] at e; cases e)) .inl)) (fun v9 w9 a1 hp hS => ?_)
    obtain ⟨hown3, hB9⟩ := hp
    refine sI hS (runs_assign rfl) fun _ hS => ?_
    refine nil_ok (reg_seq ?_)
    refine sI hS (runs_add (r := ((i + 1 : Nat) : Int)) rfl rfl (by simp [IntKind.wrap, IntKind.bits, IntKind.signed]; omega)) fun _ hS => ?_
    refine sI hS (runs_move rfl) fun _ hS => ?_
    exact nil_ok ⟨_, by omega, i + 1, v9, by omega, rfl, hBb1.trans ((hB.mono hBb1.size).trans hB9), by rw [rowS_snoc hx]; exact hown3, (fun h => by omega), hS.only _ ⟨rfl, rfl, rfl, rfl, rfl, trivial⟩⟩
  refine sI hS (lssF rfl rfl (by omega)) fun _ hS => ?_
  obtain rfl : i = l.length := by omega
  refine nil_ok ⟨_, hS.eval rfl, fun _ => ?_, fun h => by simp at h⟩
  have hB := hBb1
  rw [List.take_length] at hown
  refine qx_seq (reg_seq ?_)
  refine sI hS (runs_move rfl) fun _ hS => ?_
  refine sI hS (runs_assign rfl) fun _ hS => ?_
  exact nil_ok (qx_ret (ret1 (t := 2) (by kernel_rfl) hS rfl ⟨_, rfl, strs_ownR hown (by simp), hB⟩))
end Go.Proofs.YtbcmglggplmkfaaDoor
