/- Layer 8: the document's To and From. Conditions: none of our own. -/
import Derived.Test.YthenbmalnmaofaaFRSort
import Derived.Test.YthenbmalnmaofaaFCame
namespace Go.Proofs.Ythenbmalnmaofaa
open Go.RowKit
set_option maxRecDepth 100000

set_option maxHeartbeats 1000000 in
theorem rto_any (l : List E) (hsm : l.length ≤ 10000) (x : Int) (v : Value) (w : World) (hE : Edges w v l) : Ans 15 [v, .int .i64 x] w (fun u w' => Below w.heap.size w w' ∧ (∃ g c, u = .slice (some ⟨g, 0, none⟩) (toL l x).length c) ∧ w'.ownsRow w.heap.size 41 3 u (toL l x).length (cellsE (toL l x))) := by
  obtain ⟨A, c, rfl, h1, h2, hA⟩ := hE
  have hE : Edges w (.slice A l.length c) l := ⟨A, c, rfl, h1, h2, hA⟩
  obtain ⟨p, hp0⟩ : ∃ p : E → Bool, (fun e : E => e.2.1 == x) = p := ⟨_, rfl⟩
  refine calls_qx (args := [.slice A l.length c, .int .i64 x]) 30 Try.func15 rfl (by kernel_rfl) (by simp) (fun a hS => ?_)
  have hB := Below.refl w.heap.size w
  have hEb := hE
  refine qx_seq (reg_seq ?_)
  refine sI hS (runs_assign rfl) fun _ hS => ?_
  refine nil_ok (qx_seq (reg_seq ?_))
  refine seq_op hS (by decide) (none_ownM (B := w.heap.size) hB.size) (fun v1 w1 a1 hp hS => ?_)
  obtain ⟨⟨g, rfl, h0⟩, hB1⟩ := hp
  have hB := hB.trans (hB1.mono hB.size)
  have hE := hEb.kept hB
  refine sI hS (runs_assign rfl) fun _ hS => ?_
  refine nil_ok (qx_seq (qx_seq (reg_seq ?_)))
  refine sI hS (runs_assign rfl) fun _ hS => ?_
  refine nil_ok (?_)
  refine qx_for (fun mm a w' => ∃ (i : Nat) (sv : Value), i ≤ l.length ∧ mm = l.length - i ∧ Below w.heap.size w w' ∧ w'.ownsRow w.heap.size 41 3 sv ((l.take i).filter p).length (cellsE ((l.take i).filter p)) ∧ Sees 30 [(6, .int .i64 (i : Int)), (5, sv), (1, .int .i64 x), (0, .slice A l.length c)] a) l.length ⟨0, _, by omega, by omega, hB, h0, hS.only _ ⟨rfl, rfl, rfl, rfl, trivial⟩⟩ ?_
  clear hS 
  rintro mm a wl1 ⟨i, sv, hi1, rfl, hBb1, hown, hS⟩
  have hBsz1 := hBb1.size
  have hE := hEb.kept hBb1
  have hB := Below.refl wl1.heap.size wl1
  refine reg_seq ?_
  refine sI hS (runs_move rfl) fun _ hS => ?_
  refine sI hS (runs_move rfl) fun _ hS => ?_
  refine sI hS (runs_len rfl und32) fun _ hS => ?_
  by_cases hlt1 : i < l.length
  · skip
    refine sI hS (lssT rfl rfl (by omega)) fun _ hS => ?_
    refine nil_ok ⟨_, hS.eval rfl, fun h => by simp at h, fun _ => ?_⟩
    obtain ⟨e, hei⟩ : ∃ e, l[i]? = some e := ⟨l[i], by simp [hlt1]⟩
    obtain ⟨b, o, rfl, hbw, hr⟩ := edges_row hE (by omega)
    have hre := edges_at hr hei
    have hfl := filter_take_le p l i
    have hpe0 : p e = (e.2.1 == x) := by rw [← hp0]
    have hownb := hown
    refine qx_seq (qx_block (qx_seq (reg_seq ?_)))
    refine sI hS (runs_move rfl) fun _ hS => ?_
    refine sI hS (runs_move rfl) fun _ hS => ?_
    refine sI hS (runs_indexAddrG (j := i) rfl rfl und32 sz41 rfl hlt1) fun _ hS => ?_
    refine sI hS (runs_fieldK fo41_1 rfl) fun _ hS => ?_
    refine sI hS (runs_load rfl pl3 (hre 1 _ rfl)) fun _ hS => ?_
    refine sI hS (runs_move rfl) fun _ hS => ?_
    by_cases hpe : p e = true
    · skip
      refine sI hS (runs_eql (r := true) rfl rfl (by rw [← hpe0, hpe])) fun _ hS => ?_
      refine nil_ok (wp_cond_true (hS.eval rfl) (reg_seq ?_))
      refine sI hS (runs_move rfl) fun _ hS => ?_
      refine sI hS (runs_move rfl) fun _ hS => ?_
      refine sI hS (runs_move rfl) fun _ hS => ?_
      refine sI hS (runs_indexAddrG (j := i) rfl rfl und32 sz41 rfl hlt1) fun _ hS => ?_
      refine sI hS (runs_loadM rfl hre) fun _ hS => ?_
      refine seq_op hS (by decide) (runs_oneM (e := e) rfl) (fun v3 w3 a1 hp hS => ?_)
      obtain ⟨g2, rfl, hX, hB3⟩ := hp
      have hB := hB.trans (hB3.mono hB.size)
      have hown := owns_kept hown hB3
      refine seq_op hS (by decide) (push_ownM (B := w.heap.size) (acc := ((l.take i).filter p)) (e := e) rfl hown rfl hX (by omega) (Nat.le_trans hBsz1 hB.size)) (fun v5 w5 a1 hp hS => ?_)
      obtain ⟨_, hown3, _, hB5⟩ := hp
      refine sI hS (runs_assign rfl) fun _ hS => ?_
      refine nil_ok (reg_seq ?_)
      refine sI hS (runs_move rfl) fun _ hS => ?_
      refine sI hS (runs_add (r := ((i + 1 : Nat) : Int)) rfl rfl (by simp [IntKind.wrap, IntKind.bits, IntKind.signed]; omega)) fun _ hS => ?_
      refine sI hS (runs_assign rfl) fun _ hS => ?_
      exact nil_ok ⟨_, by omega, i + 1, v5, by omega, rfl, hBb1.trans ((hB.mono hBb1.size).trans hB5), by rw [filter_snoc p hei, if_pos hpe, List.length_append]; exact hown3, hS.only _ ⟨rfl, rfl, rfl, rfl, trivial⟩⟩
    refine sI hS (runs_eql (r := false) rfl rfl (by rw [← hpe0, Bool.eq_false_iff.2 hpe])) fun _ hS => ?_
    refine nil_ok (wp_cond_false (hS.eval rfl) (wp_skip (reg_seq ?_)))
    refine sI hS (runs_move rfl) fun _ hS => ?_
    refine sI hS (runs_add (r := ((i + 1 : Nat) : Int)) rfl rfl (by simp [IntKind.wrap, IntKind.bits, IntKind.signed]; omega)) fun _ hS => ?_
    refine sI hS (runs_assign rfl) fun _ hS => ?_
    exact nil_ok ⟨_, by omega, i + 1, sv, by omega, rfl, hBb1.trans (hB.mono hBb1.size), by rw [filter_snoc p hei, if_neg hpe, List.append_nil]; exact hown, hS.only _ ⟨rfl, rfl, rfl, rfl, trivial⟩⟩
  refine sI hS (lssF rfl rfl (by omega)) fun _ hS => ?_
  obtain rfl : i = l.length := by omega
  refine nil_ok ⟨_, hS.eval rfl, fun _ => ?_, fun h => by simp at h⟩
  have hB := hBb1
  rw [List.take_length] at hown
  refine qx_seq (reg_seq ?_)
  refine sI hS (runs_move rfl) fun _ hS => ?_
  refine seq_op hS (by decide) (runs_call (args := [sv]) goes13 rfl (rsort_any (l.filter p) (Nat.le_trans (List.length_filter_le _ _) hsm) sv wl1 (edges_ownE hown rfl))) (fun v6 w6 a1 hp hS => ?_)
  obtain ⟨hB6, hsl, hownr⟩ := hp
  have hownr := owns_mono hownr hB.size
  rw [← hp0] at hownr hsl
  have hB := hB.trans (hB6.mono hB.size)
  refine sI hS (runs_assign rfl) fun _ hS => ?_
  exact nil_ok (qx_ret (ret1 (t := 4) (by kernel_rfl) hS rfl ⟨_, rfl, hB, hsl, hownr⟩))
set_option maxHeartbeats 1000000 in
theorem rfrom_any (l : List E) (hsm : l.length ≤ 10000) (x : Int) (v : Value) (w : World) (hE : Edges w v l) : Ans 17 [v, .int .i64 x] w (fun u w' => Below w.heap.size w w' ∧ (∃ g c, u = .slice (some ⟨g, 0, none⟩) (fromL l x).length c) ∧ w'.ownsRow w.heap.size 41 3 u (fromL l x).length (cellsE (fromL l x))) := by
  obtain ⟨A, c, rfl, h1, h2, hA⟩ := hE
  have hE : Edges w (.slice A l.length c) l := ⟨A, c, rfl, h1, h2, hA⟩
  obtain ⟨p, hp0⟩ : ∃ p : E → Bool, (fun e : E => e.1 == x) = p := ⟨_, rfl⟩
  refine calls_qx (args := [.slice A l.length c, .int .i64 x]) 30 Try.func17 rfl (by kernel_rfl) (by simp) (fun a hS => ?_)
  have hB := Below.refl w.heap.size w
  have hEb := hE
  refine qx_seq (reg_seq ?_)
  refine sI hS (runs_assign rfl) fun _ hS => ?_
  refine nil_ok (qx_seq (reg_seq ?_))
  refine seq_op hS (by decide) (none_ownM (B := w.heap.size) hB.size) (fun v1 w1 a1 hp hS => ?_)
  obtain ⟨⟨g, rfl, h0⟩, hB1⟩ := hp
  have hB := hB.trans (hB1.mono hB.size)
  have hE := hEb.kept hB
  refine sI hS (runs_assign rfl) fun _ hS => ?_
  refine nil_ok (qx_seq (qx_seq (reg_seq ?_)))
  refine sI hS (runs_assign rfl) fun _ hS => ?_
  refine nil_ok (?_)
  refine qx_for (fun mm a w' => ∃ (i : Nat) (sv : Value), i ≤ l.length ∧ mm = l.length - i ∧ Below w.heap.size w w' ∧ w'.ownsRow w.heap.size 41 3 sv ((l.take i).filter p).length (cellsE ((l.take i).filter p)) ∧ Sees 30 [(6, .int .i64 (i : Int)), (5, sv), (1, .int .i64 x), (0, .slice A l.length c)] a) l.length ⟨0, _, by omega, by omega, hB, h0, hS.only _ ⟨rfl, rfl, rfl, rfl, trivial⟩⟩ ?_
  clear hS 
  rintro mm a wl1 ⟨i, sv, hi1, rfl, hBb1, hown, hS⟩
  have hBsz1 := hBb1.size
  have hE := hEb.kept hBb1
  have hB := Below.refl wl1.heap.size wl1
  refine reg_seq ?_
  refine sI hS (runs_move rfl) fun _ hS => ?_
  refine sI hS (runs_move rfl) fun _ hS => ?_
  refine sI hS (runs_len rfl und32) fun _ hS => ?_
  by_cases hlt1 : i < l.length
  · skip
    refine sI hS (lssT rfl rfl (by omega)) fun _ hS => ?_
    refine nil_ok ⟨_, hS.eval rfl, fun h => by simp at h, fun _ => ?_⟩
    obtain ⟨e, hei⟩ : ∃ e, l[i]? = some e := ⟨l[i], by simp [hlt1]⟩
    obtain ⟨b, o, rfl, hbw, hr⟩ := edges_row hE (by omega)
    have hre := edges_at hr hei
    have hfl := filter_take_le p l i
    have hpe0 : p e = (e.1 == x) := by rw [← hp0]
    have hownb := hown
    refine qx_seq (qx_block (qx_seq (reg_seq ?_)))
    refine sI hS (runs_move rfl) fun _ hS => ?_
    refine sI hS (runs_move rfl) fun _ hS => ?_
    refine sI hS (runs_indexAddrG (j := i) rfl rfl und32 sz41 rfl hlt1) fun _ hS => ?_
    refine sI hS (runs_fieldK fo41_0 rfl) fun _ hS => ?_
    refine sI hS (runs_load rfl pl3 (hre 0 _ rfl)) fun _ hS => ?_
    refine sI hS (runs_move rfl) fun _ hS => ?_
    by_cases hpe : p e = true
    · skip
      refine sI hS (runs_eql (r := true) rfl rfl (by rw [← hpe0, hpe])) fun _ hS => ?_
      refine nil_ok (wp_cond_true (hS.eval rfl) (reg_seq ?_))
      refine sI hS (runs_move rfl) fun _ hS => ?_
      refine sI hS (runs_move rfl) fun _ hS => ?_
      refine sI hS (runs_move rfl) fun _ hS => ?_
      refine sI hS (runs_indexAddrG (j := i) rfl rfl und32 sz41 rfl hlt1) fun _ hS => ?_
      refine sI hS (runs_loadM rfl hre) fun _ hS => ?_
      refine seq_op hS (by decide) (runs_oneM (e := e) rfl) (fun v3 w3 a1 hp hS => ?_)
      obtain ⟨g2, rfl, hX, hB3⟩ := hp
      have hB := hB.trans (hB3.mono hB.size)
      have hown := owns_kept hown hB3
      refine seq_op hS (by decide) (push_ownM (B := w.heap.size) (acc := ((l.take i).filter p)) (e := e) rfl hown rfl hX (by omega) (Nat.le_trans hBsz1 hB.size)) (fun v5 w5 a1 hp hS => ?_)
      obtain ⟨_, hown3, _, hB5⟩ := hp
      refine sI hS (runs_assign rfl) fun _ hS => ?_
      refine nil_ok (reg_seq ?_)
      refine sI hS (runs_move rfl) fun _ hS => ?_
      refine sI hS (runs_add (r := ((i + 1 : Nat) : Int)) rfl rfl (by simp [IntKind.wrap, IntKind.bits, IntKind.signed]; omega)) fun _ hS => ?_
      refine sI hS (runs_assign rfl) fun _ hS => ?_
      exact nil_ok ⟨_, by omega, i + 1, v5, by omega, rfl, hBb1.trans ((hB.mono hBb1.size).trans hB5), by rw [filter_snoc p hei, if_pos hpe, List.length_append]; exact hown3, hS.only _ ⟨rfl, rfl, rfl, rfl, trivial⟩⟩
    refine sI hS (runs_eql (r := false) rfl rfl (by rw [← hpe0, Bool.eq_false_iff.2 hpe])) fun _ hS => ?_
    refine nil_ok (wp_cond_false (hS.eval rfl) (wp_skip (reg_seq ?_)))
    refine sI hS (runs_move rfl) fun _ hS => ?_
    refine sI hS (runs_add (r := ((i + 1 : Nat) : Int)) rfl rfl (by simp [IntKind.wrap, IntKind.bits, IntKind.signed]; omega)) fun _ hS => ?_
    refine sI hS (runs_assign rfl) fun _ hS => ?_
    exact nil_ok ⟨_, by omega, i + 1, sv, by omega, rfl, hBb1.trans (hB.mono hBb1.size), by rw [filter_snoc p hei, if_neg hpe, List.append_nil]; exact hown, hS.only _ ⟨rfl, rfl, rfl, rfl, trivial⟩⟩
  refine sI hS (lssF rfl rfl (by omega)) fun _ hS => ?_
  obtain rfl : i = l.length := by omega
  refine nil_ok ⟨_, hS.eval rfl, fun _ => ?_, fun h => by simp at h⟩
  have hB := hBb1
  rw [List.take_length] at hown
  refine qx_seq (reg_seq ?_)
  refine sI hS (runs_move rfl) fun _ hS => ?_
  refine seq_op hS (by decide) (runs_call (args := [sv]) goes13 rfl (rsort_any (l.filter p) (Nat.le_trans (List.length_filter_le _ _) hsm) sv wl1 (edges_ownE hown rfl))) (fun v6 w6 a1 hp hS => ?_)
  obtain ⟨hB6, hsl, hownr⟩ := hp
  have hownr := owns_mono hownr hB.size
  rw [← hp0] at hownr hsl
  have hB := hB.trans (hB6.mono hB.size)
  refine sI hS (runs_assign rfl) fun _ hS => ?_
  exact nil_ok (qx_ret (ret1 (t := 4) (by kernel_rfl) hS rfl ⟨_, rfl, hB, hsl, hownr⟩))
end Go.Proofs.Ythenbmalnmaofaa
