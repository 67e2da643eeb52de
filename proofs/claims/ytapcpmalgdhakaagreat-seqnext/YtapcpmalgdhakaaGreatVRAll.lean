/- Layer 9: the document's Came, Quiet, Values and Start. Conditions: none of our own. -/
import Derived.Test.YtapcpmalgdhakaaGreatVRun
import Derived.Test.YtapcpmalgdhakaaGreatFRAll
import Derived.Test.YtapcpmalgdhakaaGreatSRAll
namespace Go.Proofs.YtapcpmalgdhakaaGreat
open Go.RowKit
set_option maxRecDepth 100000

set_option maxHeartbeats 1000000 in
theorem rcame_any (tg : ByteArray) (es : List E) (hsm : es.length ≤ 10000) (x : Int) (v : Value) (w : World) (hE : Edges w v es) : Ans 30 [.string tg, v, .int .i64 x] w (fun u w' => u = .tuple #[.int .i64 (cameL (kindL tg.data.toList) es x).1, .bool (cameL (kindL tg.data.toList) es x).2.1, .int .i64 (cameL (kindL tg.data.toList) es x).2.2] ∧ Below w.heap.size w w') := by
  refine calls_qx (args := [.string tg, v, .int .i64 x]) 51 Tryz.func30 rfl (by kernel_rfl) (by simp) (fun a hS => ?_)
  have hB := Below.refl w.heap.size w
  refine qx_seq (reg_seq ?_)
  refine sI hS (runs_assign rfl) fun _ hS => ?_
  refine sI hS (runs_assign rfl) fun _ hS => ?_
  refine sI hS (runs_assign rfl) fun _ hS => ?_
  refine nil_ok (qx_seq (qx_seq (reg_seq ?_)))
  refine sI hS (runs_move rfl) fun _ hS => ?_
  by_cases hk : (kindL tg.data.toList) ≠ 0
  · skip
    refine sI hS (runs_call (args := [.string tg]) goes37 rfl (rknown_is _ w (b := true) (by simpa using hk))) fun _ hS => ?_
    refine sI hS (runs_not (b := true) rfl) fun _ hS => ?_
    refine nil_ok (wp_cond_false (hS.eval rfl) (wp_skip (qx_seq (reg_seq ?_))))
    refine sI hS (runs_move rfl) fun _ hS => ?_
    refine sI hS (runs_move rfl) fun _ hS => ?_
    refine seq_op hS (by decide) (runs_call (args := [v, .int .i64 x]) goes55 rfl (rto_any es hsm x v w hE)) (fun v1 w1 a1 hp hS => ?_)
    obtain ⟨hB1, -, hR⟩ := hp
    have hT := edges_ownE hR rfl
    obtain ⟨l, hl⟩ : ∃ l, toL es x = l := ⟨_, rfl⟩
    have hlen := toL_length es x
    rw [hl] at hT hlen
    obtain ⟨A, c, rfl, hc1, hc2, -⟩ := id hT
    have hB := hB.trans (hB1.mono hB.size)
    refine sI hS (runs_assign rfl) fun _ hS => ?_
    refine nil_ok (qx_seq (qx_seq (reg_seq ?_)))
    refine sI hS (runs_move rfl) fun _ hS => ?_
    refine sI hS (runs_len rfl und32) fun _ hS => ?_
    by_cases h0 : l = []
    · skip
      refine sI hS (runs_eql (r := true) rfl rfl (by simp [h0])) fun _ hS => ?_
      refine nil_ok (wp_cond_true (hS.eval rfl) (qx_seq (reg_seq ?_)))
      refine sI hS (runs_assign rfl) fun _ hS => ?_
      refine sI hS (runs_assign rfl) fun _ hS => ?_
      refine sI hS (runs_assign rfl) fun _ hS => ?_
      have hfin : cameL (kindL tg.data.toList) es x = (0, false, 0) := by unfold cameL; rw [if_neg hk, hl, h0]; rfl
      exact nil_ok (qx_ret (ret3 (t := 6) (u := 7) (r := 8) (by kernel_rfl) hS rfl rfl rfl ⟨_, rfl, by rw [hfin], hB⟩))
    refine sI hS (runs_eql (r := false) rfl rfl (by rw [beq_eq_false_iff_ne]; intro h; exact h0 (List.eq_nil_of_length_eq_zero (by omega)))) fun _ hS => ?_
    refine nil_ok (wp_cond_false (hS.eval rfl) (wp_skip (qx_seq (?_))))
    obtain ⟨y, r, hyr⟩ : ∃ y r, l = y :: r := by cases l with | nil => exact absurd rfl h0 | cons y r => exact ⟨y, r, rfl⟩
    have hlr : l.length = r.length + 1 := by rw [hyr]; rfl
    obtain ⟨b, o, rfl, hbw, hr⟩ := edges_row hT (by omega)
    have hry := edges_at (i := 0) (e := y) hr (by rw [hyr]; rfl)
    refine reg_seq ?_
    refine sI hS (runs_move rfl) fun _ hS => ?_
    refine sI hS (runs_indexAddrG (j := 0) rfl rfl und32 sz48 rfl (by omega)) fun _ hS => ?_
    refine sI hS (runs_fieldK fo48_2 rfl) fun _ hS => ?_
    refine sI hS (runs_load rfl pl2 (hry 2 _ rfl)) fun _ hS => ?_
    refine sI hS (runs_assign rfl) fun _ hS => ?_
    refine nil_ok (qx_seq (qx_seq (reg_seq ?_)))
    refine sI hS (runs_move rfl) fun _ hS => ?_
    by_cases hg : great y.2.2 = true
    · skip
      refine sI hS (runs_call (args := [.int .i64 y.2.2]) goes52 rfl (rgreat_is w1 hg)) fun _ hS => ?_
      refine nil_ok (wp_cond_true (hS.eval rfl) (qx_seq (reg_seq ?_)))
      refine sI hS (runs_assign rfl) fun _ hS => ?_
      refine sI hS (runs_assign rfl) fun _ hS => ?_
      refine sI hS (runs_assign rfl) fun _ hS => ?_
      have hfin : cameL (kindL tg.data.toList) es x = (0, false, 71) := by unfold cameL; rw [if_neg hk, hl, hyr, cameO, if_pos hg]
      exact nil_ok (qx_ret (ret3 (t := 6) (u := 7) (r := 8) (by kernel_rfl) hS rfl rfl rfl ⟨_, rfl, by rw [hfin], hB⟩))
    refine sI hS (runs_call (args := [.int .i64 y.2.2]) goes52 rfl (rgreat_is w1 (Bool.eq_false_iff.2 hg))) fun _ hS => ?_
    refine nil_ok (wp_cond_false (hS.eval rfl) (wp_skip (qx_seq (qx_seq (reg_seq ?_)))))
    refine sI hS (runs_assign rfl) fun _ hS => ?_
    refine nil_ok (?_)
    have hBo1 := hB
    refine qx_for (fun mm a w' => ∃ (i : Nat) (n : Int), i ≤ r.length ∧ mm = r.length - i ∧ Below w1.heap.size w1 w' ∧ foldC (kindL tg.data.toList) y.2.2 r = foldC (kindL tg.data.toList) n (r.drop i) ∧ Sees 51 [(11, .int .i64 ((i + 1 : Nat) : Int)), (10, .int .i64 n), (9, .slice (some ⟨b, o, none⟩) l.length c), (0, .string tg)] a) r.length ⟨0, y.2.2, by omega, by omega, Below.refl _ _, by simp, hS.only _ ⟨rfl, rfl, rfl, rfl, trivial⟩⟩ ?_
    clear hS
    rintro mm a wl1 ⟨i, n, hi1, rfl, hBl1, hF, hS⟩
    have hT := hT.kept hBl1
    have hB := Below.refl wl1.heap.size wl1
    refine reg_seq ?_
    refine sI hS (runs_move rfl) fun _ hS => ?_
    refine sI hS (runs_move rfl) fun _ hS => ?_
    refine sI hS (runs_len rfl und32) fun _ hS => ?_
    by_cases hlt1 : i < r.length
    · skip
      refine sI hS (lssT rfl rfl (by omega)) fun _ hS => ?_
      refine nil_ok ⟨_, hS.eval rfl, fun h => by simp at h, fun _ => ?_⟩
      obtain ⟨e, hei⟩ : ∃ e, r[i]? = some e := ⟨r[i], by simp [hlt1]⟩
      obtain ⟨b9, o9, hA9, hbw9, hr9⟩ := edges_row hT (by omega)
      cases hA9
      have hre := edges_at (i := i + 1) (e := e) hr9 (by rw [hyr]; simpa using hei)
      have hdr : r.drop i = e :: r.drop (i + 1) := List.drop_eq_getElem?_toList_append.trans (by rw [hei]; rfl)
      rw [hdr] at hF
      refine qx_seq (qx_block (qx_seq (reg_seq ?_)))
      refine sI hS (runs_move rfl) fun _ hS => ?_
      refine sI hS (runs_move rfl) fun _ hS => ?_
      refine sI hS (runs_move rfl) fun _ hS => ?_
      refine sI hS (runs_move rfl) fun _ hS => ?_
      refine sI hS (runs_indexAddrG (j := i + 1) rfl rfl und32 sz48 rfl (by omega)) fun _ hS => ?_
      refine sI hS (runs_fieldK fo48_2 rfl) fun _ hS => ?_
      refine sI hS (runs_load rfl pl2 (hre 2 _ rfl)) fun _ hS => ?_
      refine seq_op hS (by decide) (runs_call (args := [.string tg, .int .i64 n, .int .i64 e.2.2]) goes56 rfl (rfold_any tg n e.2.2 wl1)) (fun v3 w3 a1 hp hS => ?_)
      obtain ⟨rfl, rfl⟩ := hp
      refine sI hS (runs_move rfl) fun _ hS => ?_
      refine sI hS (runs_extract rfl rfl) fun _ hS => ?_
      refine sI hS (runs_extract rfl rfl) fun _ hS => ?_
      refine sI hS (runs_assign rfl) fun _ hS => ?_
      refine sI hS (runs_assign rfl) fun _ hS => ?_
      refine nil_ok (qx_seq (qx_seq (reg_seq ?_)))
      refine sI hS (runs_move rfl) fun _ hS => ?_
      by_cases he : (foldL (kindL tg.data.toList) n e.2.2).2 ≠ 0
      · skip
        refine sI hS (runs_neq (r := true) rfl rfl (by simpa using he)) fun _ hS => ?_
        refine nil_ok (wp_cond_true (hS.eval rfl) (qx_seq (reg_seq ?_)))
        refine sI hS (runs_move rfl) fun _ hS => ?_
        refine sI hS (runs_assign rfl) fun _ hS => ?_
        refine sI hS (runs_assign rfl) fun _ hS => ?_
        refine sI hS (runs_assign rfl) fun _ hS => ?_
        have hfin : cameL (kindL tg.data.toList) es x = (0, false, (foldL (kindL tg.data.toList) n e.2.2).2) := by unfold cameL; rw [if_neg hk, hl, hyr, cameO, if_neg hg, hF, foldC, if_pos he]
        exact nil_ok (qx_ret (ret3 (t := 6) (u := 7) (r := 8) (by kernel_rfl) hS rfl rfl rfl ⟨_, rfl, by rw [hfin]; rfl, hBo1.trans ((hBl1.trans ((hB).mono hBl1.size)).mono hBo1.size)⟩))
      refine sI hS (runs_neq (r := false) rfl rfl (by simpa using he)) fun _ hS => ?_
      refine nil_ok (wp_cond_false (hS.eval rfl) (wp_skip (reg_seq ?_)))
      refine sI hS (runs_move rfl) fun _ hS => ?_
      refine sI hS (runs_assign rfl) fun _ hS => ?_
      refine nil_ok (reg_seq ?_)
      refine sI hS (runs_move rfl) fun _ hS => ?_
      refine sI hS (runs_add (r := ((i + 1 + 1 : Nat) : Int)) rfl rfl (by simp [IntKind.wrap, IntKind.bits, IntKind.signed]; omega)) fun _ hS => ?_
      refine sI hS (runs_assign rfl) fun _ hS => ?_
      exact nil_ok ⟨_, by omega, i + 1, (foldL (kindL tg.data.toList) n e.2.2).1, by omega, rfl, hBl1.trans (hB.mono hBl1.size), by rw [hF, foldC, if_neg he], hS.only _ ⟨rfl, rfl, rfl, rfl, trivial⟩⟩
    refine sI hS (lssF rfl rfl (by omega)) fun _ hS => ?_
    obtain rfl : i = r.length := by omega
    refine nil_ok ⟨_, hS.eval rfl, fun _ => ?_, fun h => by simp at h⟩
    have hB := hBo1.trans ((hBl1.trans (hB.mono hBl1.size)).mono hBo1.size)
    rw [List.drop_length] at hF
    refine qx_seq (reg_seq ?_)
    refine sI hS (runs_move rfl) fun _ hS => ?_
    refine sI hS (runs_assign rfl) fun _ hS => ?_
    refine sI hS (runs_assign rfl) fun _ hS => ?_
    refine sI hS (runs_assign rfl) fun _ hS => ?_
    have hfin : cameL (kindL tg.data.toList) es x = (n, true, 0) := by unfold cameL; rw [if_neg hk, hl, hyr, cameO, if_neg hg, hF]; rfl
    exact nil_ok (qx_ret (ret3 (t := 6) (u := 7) (r := 8) (by kernel_rfl) hS rfl rfl rfl ⟨_, rfl, by rw [hfin], hB⟩))
  refine sI hS (runs_call (args := [.string tg]) goes37 rfl (rknown_is _ w (b := false) (by simpa using hk))) fun _ hS => ?_
  refine sI hS (runs_not (b := false) rfl) fun _ hS => ?_
  refine nil_ok (wp_cond_true (hS.eval rfl) (qx_seq (reg_seq ?_)))
  refine sI hS (runs_assign rfl) fun _ hS => ?_
  refine sI hS (runs_assign rfl) fun _ hS => ?_
  refine sI hS (runs_assign rfl) fun _ hS => ?_
  have hfin : cameL (kindL tg.data.toList) es x = (0, false, 70) := by unfold cameL; rw [if_pos (Classical.not_not.1 hk)]
  exact nil_ok (qx_ret (ret3 (t := 6) (u := 7) (r := 8) (by kernel_rfl) hS rfl rfl rfl ⟨_, rfl, by rw [hfin], hB⟩))
theorem quiet_snoc {l : List Vx} {i : Nat} {x : Vx} (h : l[i]? = some x) : quietL (l.take (i + 1)) = (quietL (l.take i) && (!x.act && !x.has)) := by
  unfold quietL; rw [List.take_add_one, h, Option.toList_some, List.all_append]; simp
theorem quiet_not {l : List Vx} {i : Nat} {x : Vx} (h : l[i]? = some x) (hx : (x.act || x.has) = true) : quietL l = false := by
  rw [← quiet_any_not, List.any_eq_true.2 ⟨x, List.mem_of_getElem? h, hx⟩]; rfl
set_option maxHeartbeats 1000000 in
theorem rquiet_any (l : List Vx) (v : Value) (w : World) (hV : Verts w v l) : Ans 12 [v] w (fun u w' => u = .bool (quietL l) ∧ Below w.heap.size w w') := by
  obtain ⟨A, c, rfl, hc1, hc2, hA⟩ := hV
  have hV : Verts w (.slice A l.length c) l := ⟨A, c, rfl, hc1, hc2, hA⟩
  have hcm := hc2
  unfold maxLen at hcm
  refine calls_qx (args := [.slice A l.length c]) 22 Tryz.func12 rfl (by kernel_rfl) (by simp) (fun a hS => ?_)
  have hB := Below.refl w.heap.size w
  refine qx_seq (reg_seq ?_)
  refine sI hS (runs_assign rfl) fun _ hS => ?_
  refine nil_ok (qx_seq (qx_seq (reg_seq ?_)))
  refine sI hS (runs_assign rfl) fun _ hS => ?_
  refine nil_ok (?_)
  have hBo1 := hB
  refine qx_for (fun mm a w' => ∃ (i : Nat), i ≤ l.length ∧ mm = l.length - i ∧ Below w.heap.size w w' ∧ quietL (l.take i) = true ∧ Sees 22 [(3, .int .i64 (i : Int)), (0, .slice A l.length c)] a) l.length ⟨0, by omega, by omega, Below.refl _ _, rfl, hS.only _ ⟨rfl, rfl, trivial⟩⟩ ?_
  clear hS
  rintro mm a wl1 ⟨i, hi1, rfl, hBl1, hF, hS⟩
  have hV := hV.kept hBl1
  have hB := Below.refl wl1.heap.size wl1
  refine reg_seq ?_
  refine sI hS (runs_move rfl) fun _ hS => ?_
  refine sI hS (runs_move rfl) fun _ hS => ?_
  refine sI hS (runs_len rfl undVx) fun _ hS => ?_
  by_cases hlt1 : i < l.length
  · skip
    refine sI hS (lssT rfl rfl (by omega)) fun _ hS => ?_
    refine nil_ok ⟨_, hS.eval rfl, fun h => by simp at h, fun _ => ?_⟩
    obtain ⟨x, hx⟩ : ∃ x, l[i]? = some x := ⟨l[i], by simp [hlt1]⟩
    obtain ⟨b, o, rfl, hbw, hr⟩ := verts_row hV (by omega)
    have hrx := verts_at hr hx
    refine qx_seq (qx_block (qx_seq (reg_seq ?_)))
    refine sI hS (runs_move rfl) fun _ hS => ?_
    refine sI hS (runs_move rfl) fun _ hS => ?_
    refine sI hS (runs_indexAddrG (j := i) rfl rfl undVx sz28 rfl hlt1) fun _ hS => ?_
    refine sI hS (runs_fieldK fo28_2 rfl) fun _ hS => ?_
    refine sI hS (runs_load rfl pl4 (hrx 2 _ rfl)) fun _ hS => ?_
    by_cases ha : x.act = true
    · skip
      rw [ha] at hS
      refine sI hS (runs_move rfl) fun _ hS => ?_
      refine sN hS fun _ hS => ?_
      refine sN hS fun _ hS => ?_
      refine sN hS fun _ hS => ?_
      refine sN hS fun _ hS => ?_
      refine sN hS fun _ hS => ?_
      refine sI hS (runs_pick rfl rfl) fun _ hS => ?_
      refine nil_ok (wp_cond_true (hS.eval rfl) (qx_seq (reg_seq ?_)))
      refine sI hS (runs_assign rfl) fun _ hS => ?_
      exact nil_ok (qx_ret (ret1 (t := 2) (by kernel_rfl) hS rfl ⟨_, rfl, by rw [quiet_not hx (by simp [ha])], hBo1.trans ((hBl1.trans ((hB).mono hBl1.size)).mono hBo1.size)⟩))
    · skip
      rw [Bool.eq_false_iff.2 ha] at hS
      refine sI hS (runs_move rfl) fun _ hS => ?_
      refine sY hS (runs_move rfl) fun _ hS => ?_
      refine sY hS (runs_move rfl) fun _ hS => ?_
      refine sY hS (runs_indexAddrG (j := i) rfl rfl undVx sz28 rfl hlt1) fun _ hS => ?_
      refine sY hS (runs_fieldK fo28_3 rfl) fun _ hS => ?_
      refine sY hS (runs_load rfl pl4 (hrx 3 _ rfl)) fun _ hS => ?_
      by_cases hh : x.has = true
      · skip
        rw [hh] at hS
        refine sI hS (runs_pick rfl rfl) fun _ hS => ?_
        refine nil_ok (wp_cond_true (hS.eval rfl) (qx_seq (reg_seq ?_)))
        refine sI hS (runs_assign rfl) fun _ hS => ?_
        exact nil_ok (qx_ret (ret1 (t := 2) (by kernel_rfl) hS rfl ⟨_, rfl, by rw [quiet_not hx (by simp [hh])], hBo1.trans ((hBl1.trans ((hB).mono hBl1.size)).mono hBo1.size)⟩))
      · skip
        rw [Bool.eq_false_iff.2 hh] at hS
        refine sI hS (runs_pick rfl rfl) fun _ hS => ?_
        refine nil_ok (wp_cond_false (hS.eval rfl) (wp_skip (reg_seq ?_)))
        refine sI hS (runs_move rfl) fun _ hS => ?_
        refine sI hS (runs_add (r := ((i + 1 : Nat) : Int)) rfl rfl (by simp [IntKind.wrap, IntKind.bits, IntKind.signed]; omega)) fun _ hS => ?_
        refine sI hS (runs_assign rfl) fun _ hS => ?_
        exact nil_ok ⟨_, by omega, i + 1, by omega, rfl, hBl1.trans (hB.mono hBl1.size), by rw [quiet_snoc hx, hF, Bool.eq_false_iff.2 ha, Bool.eq_false_iff.2 hh]; rfl, hS.only _ ⟨rfl, rfl, trivial⟩⟩
  refine sI hS (lssF rfl rfl (by omega)) fun _ hS => ?_
  obtain rfl : i = l.length := by omega
  refine nil_ok ⟨_, hS.eval rfl, fun _ => ?_, fun h => by simp at h⟩
  have hB := hBo1.trans ((hBl1.trans (hB.mono hBl1.size)).mono hBo1.size)
  rw [List.take_length] at hF
  refine qx_seq (reg_seq ?_)
  refine sI hS (runs_assign rfl) fun _ hS => ?_
  exact nil_ok (qx_ret (ret1 (t := 2) (by kernel_rfl) hS rfl ⟨_, rfl, by rw [hF], hB⟩))
set_option maxHeartbeats 1000000 in
theorem rvalues_any (l : List Vx) (v : Value) (w : World) (hV : Verts w v l) (hl : l.length ≤ 100000) : Ans 15 [v] w (fun u w' => w'.ownsRow w.heap.size 2 1 u (valuesL l).length (cellsI (valuesL l)) ∧ Below w.heap.size w w') := by
  obtain ⟨A, c, rfl, hc1, hc2, hA⟩ := hV
  have hV : Verts w (.slice A l.length c) l := ⟨A, c, rfl, hc1, hc2, hA⟩
  have hcm := hc2
  unfold maxLen at hcm
  refine calls_qx (args := [.slice A l.length c]) 21 Tryz.func15 rfl (by kernel_rfl) (by simp) (fun a hS => ?_)
  have hB := Below.refl w.heap.size w
  have hVb := hV
  refine qx_seq (reg_seq ?_)
  refine sI hS (runs_assign rfl) fun _ hS => ?_
  refine nil_ok (qx_seq (reg_seq ?_))
  refine seq_op hS (by decide) (none_ownI (B := w.heap.size) hB.size) (fun v1 w1 a1 hp hS => ?_)
  obtain ⟨⟨g, rfl, h0⟩, hB1⟩ := hp
  have hB := hB.trans (hB1.mono hB.size)
  have hV := hVb.kept hB
  refine sI hS (runs_assign rfl) fun _ hS => ?_
  refine nil_ok (qx_seq (qx_seq (reg_seq ?_)))
  refine sI hS (runs_assign rfl) fun _ hS => ?_
  refine nil_ok (?_)
  refine qx_for (fun mm a w' => ∃ (i : Nat) (ov : Value), i ≤ l.length ∧ mm = l.length - i ∧ Below w.heap.size w w' ∧ w'.ownsRow w.heap.size 2 1 ov (valuesL (l.take i)).length (cellsI (valuesL (l.take i))) ∧ Sees 21 [(4, .int .i64 (i : Int)), (3, ov), (0, .slice A l.length c)] a) l.length ⟨0, _, by omega, by omega, hB, h0, hS.only _ ⟨rfl, rfl, rfl, trivial⟩⟩ ?_
  clear hS 
  rintro mm a wl1 ⟨i, ov, hi1, rfl, hBb1, hown, hS⟩
  have hBsz1 := hBb1.size
  have hV := hVb.kept hBb1
  have hB := Below.refl wl1.heap.size wl1
  refine reg_seq ?_
  refine sI hS (runs_move rfl) fun _ hS => ?_
  refine sI hS (runs_move rfl) fun _ hS => ?_
  refine sI hS (runs_len rfl undVx) fun _ hS => ?_
  by_cases hlt1 : i < l.length
  · skip
    refine sI hS (lssT rfl rfl (by omega)) fun _ hS => ?_
    refine nil_ok ⟨_, hS.eval rfl, fun h => by simp at h, fun _ => ?_⟩
    obtain ⟨x, hx⟩ : ∃ x, l[i]? = some x := ⟨l[i], by simp [hlt1]⟩
    obtain ⟨b, o, rfl, hbw, hr⟩ := verts_row hV (by omega)
    have hrx := verts_at hr hx
    refine qx_seq (qx_block (reg_seq ?_))
    refine sI hS (runs_move rfl) fun _ hS => ?_
    refine sI hS (runs_move rfl) fun _ hS => ?_
    refine sI hS (runs_move rfl) fun _ hS => ?_
    refine sI hS (runs_indexAddrG (j := i) rfl rfl undVx sz28 rfl hlt1) fun _ hS => ?_
    refine sI hS (runs_fieldK fo28_1 rfl) fun _ hS => ?_
    refine sI hS (runs_load rfl pl2 (hrx 1 _ rfl)) fun _ hS => ?_
    refine seq_op hS (by decide) (runs_oneN (e := x.val) rfl) (fun v3 w3 a1 hp hS => ?_)
    obtain ⟨g2, rfl, hX, hB3⟩ := hp
    have hB := hB.trans (hB3.mono hB.size)
    refine seq_op hS (by decide) (push_ownI (B := w.heap.size) (acc := (valuesL (l.take i))) (e := x.val) rfl (owns_kept hown hB) rfl hX (by rw [valuesL_length]; have := List.length_take_le i l; omega) (Nat.le_trans hBsz1 hB.size)) (fun v5 w5 a1 hp hS => ?_)
    obtain ⟨_, hown3, _, hB5⟩ := hp
    refine sI hS (runs_assign rfl) fun _ hS => ?_
    refine nil_ok (reg_seq ?_)
    refine sI hS (runs_move rfl) fun _ hS => ?_
    refine sI hS (runs_add (r := ((i + 1 : Nat) : Int)) rfl rfl (by simp [IntKind.wrap, IntKind.bits, IntKind.signed]; omega)) fun _ hS => ?_
    refine sI hS (runs_assign rfl) fun _ hS => ?_
    exact nil_ok ⟨_, by omega, i + 1, v5, by omega, rfl, hBb1.trans ((hB.mono hBb1.size).trans hB5), by rw [values_snoc hx, List.length_append]; exact hown3, hS.only _ ⟨rfl, rfl, rfl, trivial⟩⟩
  refine sI hS (lssF rfl rfl (by omega)) fun _ hS => ?_
  obtain rfl : i = l.length := by omega
  refine nil_ok ⟨_, hS.eval rfl, fun _ => ?_, fun h => by simp at h⟩
  have hB := hBb1
  rw [List.take_length] at hown
  refine qx_seq (reg_seq ?_)
  refine sI hS (runs_move rfl) fun _ hS => ?_
  refine sI hS (runs_assign rfl) fun _ hS => ?_
  exact nil_ok (qx_ret (ret1 (t := 2) (by kernel_rfl) hS rfl ⟨_, rfl, hown, hB⟩))
set_option maxHeartbeats 1000000 in
theorem rstart_any (n : Int) (hn0 : 0 ≤ n) (hn : n ≤ 64) (v : Value) (tg : ByteArray) (hk0 : ¬ kindL tg.data.toList = 0) (src steps : Int) (w : World) : Ans 20 [gv n v, jv tg src steps] w (fun u w' => w'.ownsRow w.heap.size 50 5 u (startL n (kindL tg.data.toList) src).length (cellsV (startL n (kindL tg.data.toList) src)) ∧ Below w.heap.size w w') := by
  obtain ⟨N, rfl⟩ : ∃ N : Nat, n = N := ⟨n.toNat, by omega⟩
  have hNt : ((N : Int)).toNat = N := Int.toNat_natCast N
  refine calls_qx (args := [gv (N : Int) v, .agg (jc tg src steps).toArray]) 21 Tryz.func20 rfl (by kernel_rfl) (by simp) (fun a hS => ?_)
  have hB := Below.refl w.heap.size w
  refine qx_seq (reg_seq ?_)
  refine seq_op hS (by decide) (runs_boxB (cs := [.int .i64 (N : Int), v]) rfl rfl) (fun v1 w1 a1 hp hS => ?_)
  obtain ⟨rfl, hM1, hB1⟩ := hp
  have hB := hB.trans (hB1.mono hB.size)
  refine seq_op hS (by decide) (runs_boxB (cs := jc tg src steps) rfl rfl) (fun v3 w3 a1 hp hS => ?_)
  obtain ⟨rfl, hM3, hB3⟩ := hp
  have hB := hB.trans (hB3.mono hB.size)
  have hM1 := hM1.below hB3 hM1.lt
  refine sI hS (runs_assign rfl) fun _ hS => ?_
  refine nil_ok (qx_seq (?_))
  have hBpre0 := hB
  have hB := Below.refl w3.heap.size w3
  have hM1b := hM1
  have hM3b := hM3
  refine reg_seq ?_
  refine seq_op hS (by decide) (none_ownV (B := w3.heap.size) hB.size) (fun v5 w5 a1 hp hS => ?_)
  obtain ⟨⟨g, rfl, h0⟩, hB5⟩ := hp
  have hB := hB.trans (hB5.mono hB.size)
  have hM1 := hM1b.below hB hM1b.lt
  have hM3 := hM3b.below hB hM3b.lt
  refine sI hS (runs_assign rfl) fun _ hS => ?_
  refine nil_ok (qx_seq (qx_seq (reg_seq ?_)))
  refine sI hS (runs_assign rfl) fun _ hS => ?_
  refine nil_ok (?_)
  refine qx_for (fun mm a w' => ∃ (i : Nat) (ov : Value), i ≤ N ∧ mm = N - i ∧ Below w3.heap.size w3 w' ∧ w'.ownsRow w3.heap.size 50 5 ov ((startL (N : Int) (kindL tg.data.toList) src).take i).length (cellsV ((startL (N : Int) (kindL tg.data.toList) src).take i)) ∧ Sees 21 [(6, .int .i64 (i : Int)), (5, ov), (2, .pointer (some ⟨w.heap.size, 0, none⟩)), (3, .pointer (some ⟨w1.heap.size, 0, none⟩))] a) N ⟨0, _, by omega, by omega, hB, h0, hS.only _ ⟨rfl, rfl, rfl, rfl, trivial⟩⟩ ?_
  clear hS 
  rintro mm a wl1 ⟨i, ov, hi1, rfl, hBb1, hown, hS⟩
  have hBsz1 := hBb1.size
  have hM1 := hM1b.below hBb1 hM1b.lt
  have hM3 := hM3b.below hBb1 hM3b.lt
  have hB := Below.refl wl1.heap.size wl1
  refine reg_seq ?_
  refine sI hS (runs_move rfl) fun _ hS => ?_
  refine sI hS (runs_fieldK fo24_0 rfl) fun _ hS => ?_
  refine sI hS (runs_load rfl pl3 (hM1.at rfl)) fun _ hS => ?_
  by_cases hlt1 : i < N
  · skip
    refine sI hS (lssT rfl rfl (by omega)) fun _ hS => ?_
    refine nil_ok ⟨_, hS.eval rfl, fun h => by simp at h, fun _ => ?_⟩
    refine qx_seq (qx_block (reg_seq ?_))
    refine sI hS (runs_move rfl) fun _ hS => ?_
    refine sI hS (runs_loadRow rfl hM3 Tryz.underlying26 rfl (by rw [sz26]; rfl)) fun _ hS => ?_
    refine sI hS (runs_move rfl) fun _ hS => ?_
    refine seq_op hS (by decide) (runs_call (args := [.agg (jc tg src steps).toArray, .int .i64 (i : Int)]) goes38 rfl (rfirst_any tg src steps (i : Int) (by omega) (by omega) wl1)) (fun v7 w7 a1 hp hS => ?_)
    rw [if_neg hk0] at hp
    obtain ⟨rfl, hB7⟩ := hp
    have hB := hB.trans (hB7.mono hB.size)
    refine seq_op hS (by decide) (runs_oneV (e := (⟨(i : Int), firstV (kindL tg.data.toList) src i, true, false, 0⟩ : Vx)) rfl) (fun v9 w9 a1 hp hS => ?_)
    obtain ⟨g2, rfl, hX, hB9⟩ := hp
    have hB := hB.trans (hB9.mono hB.size)
    refine seq_op hS (by decide) (push_ownV (acc := ((startL (N : Int) (kindL tg.data.toList) src).take i)) (e := (⟨(i : Int), firstV (kindL tg.data.toList) src i, true, false, 0⟩ : Vx)) rfl (owns_kept hown hB) rfl hX (by have := List.length_take_le i (startL (N : Int) (kindL tg.data.toList) src); omega) (Nat.le_trans hBsz1 hB.size)) (fun v11 w11 a1 hp hS => ?_)
    obtain ⟨_, hown3, _, hB11⟩ := hp
    refine sI hS (runs_assign rfl) fun _ hS => ?_
    refine nil_ok (reg_seq ?_)
    refine sI hS (runs_move rfl) fun _ hS => ?_
    refine sI hS (runs_add (r := ((i + 1 : Nat) : Int)) rfl rfl (by simp [IntKind.wrap, IntKind.bits, IntKind.signed]; omega)) fun _ hS => ?_
    refine sI hS (runs_assign rfl) fun _ hS => ?_
    exact nil_ok ⟨_, by omega, i + 1, v11, by omega, rfl, hBb1.trans ((hB.mono hBb1.size).trans hB11), by rw [start_snoc _ _ _ (by omega), List.length_append]; exact hown3, hS.only _ ⟨rfl, rfl, rfl, rfl, trivial⟩⟩
  refine sI hS (lssF rfl rfl (by omega)) fun _ hS => ?_
  obtain rfl : i = N := by omega
  refine nil_ok ⟨_, hS.eval rfl, fun _ => ?_, fun h => by simp at h⟩
  have hB := hBb1
  rw [List.take_of_length_le (by rw [start_length]; omega)] at hown
  refine qx_seq (reg_seq ?_)
  refine sI hS (runs_move rfl) fun _ hS => ?_
  refine sI hS (runs_assign rfl) fun _ hS => ?_
  exact nil_ok (qx_ret (ret1 (t := 4) (by kernel_rfl) hS rfl ⟨_, rfl, owns_mono hown hBpre0.size, hBpre0.trans (hB.mono hBpre0.size)⟩))
end Go.Proofs.YtapcpmalgdhakaaGreat
/- Layer 9: the document's Next. Conditions: that there are at most 100 edges and at most 100000 vertices. -/
namespace Go.Proofs.YtapcpmalgdhakaaGreat
open Go.RowKit
set_option maxRecDepth 100000

theorem rstep_is9 {n : Int} {es : List E} {v : Value} {tg : ByteArray} {src steps at_ : Int} {x y : Vx} {l : List E} {e : Int} (w : World) (hE : Edges w v es) (h : stepL n es (kindL tg.data.toList) src steps at_ x = (y, l, e)) :
    Ans 29 [gv n v, jv tg src steps, .int .i64 at_, vv x] w (fun u w' => Below w.heap.size w w' ∧ ∃ sv, u = .tuple #[vv y, sv, .int .i64 e] ∧ w'.ownsRow w.heap.size 61 3 sv l.length (cellsE l)) := by
  have := rstep_any n es v tg src steps at_ x w hE
  rw [h] at this
  exact this
theorem verts_has1 {w : World} {g : Nat} {x : Vx} (h : Has w g 50 (vc x)) : Verts w (.slice (some ⟨g, 0, none⟩) 1 1) [x] :=
  ⟨_, _, rfl, Nat.le_refl _, by unfold maxLen; omega, fun _ => ⟨g, 0, rfl, h.lt, fun j v hv => by rw [Nat.zero_add, h.cell]; exact hv⟩⟩
theorem Verts.cap_le {w : World} {A : Option Addr} {c : Nat} {l : List Vx} (h : Verts w (.slice A l.length c) l) : l.length ≤ c ∧ c ≤ 2 ^ 63 - 1 := by
  obtain ⟨A', c', hv, h1, h2, _⟩ := h
  simp only [Value.slice.injEq, true_and] at hv
  unfold maxLen at h2
  omega
theorem map_snoc {f : Vx → Vx} {l : List Vx} {i : Nat} {x : Vx} (h : l[i]? = some x) : (l.take (i + 1)).map f = (l.take i).map f ++ [f x] := by
  rw [List.take_add_one, h, Option.toList_some, List.map_append]; rfl
/-- One more of the vertices with what came to it. -/
theorem out_step (f : Vx → Vx) (l : List Vx) {q : Nat} {y : Vx} (h : l[q]? = some y) : ((l.take q).map f ++ l.drop q).take q ++ [f y] ++ ((l.take q).map f ++ l.drop q).drop (q + 1) = (l.take (q + 1)).map f ++ l.drop (q + 1) := by
  have hq := (List.getElem?_eq_some_iff.1 h).1
  have hl : ((l.take q).map f).length = q := by simp; omega
  rw [map_snoc h, List.take_left' hl, List.drop_append, List.drop_eq_nil_of_le (by omega), List.nil_append, List.drop_drop, hl, show q + (q + 1 - q) = q + 1 by omega]
theorem out_get (f : Vx → Vx) (l : List Vx) {q : Nat} {y : Vx} (h : l[q]? = some y) : ((l.take q).map f ++ l.drop q)[q]? = some y := by
  have hq := (List.getElem?_eq_some_iff.1 h).1
  have hl : ((l.take q).map f).length = q := by simp; omega
  rw [List.getElem?_append_right (by omega), hl, Nat.sub_self, List.getElem?_drop, Nat.add_zero]
  exact h
theorem errF_take9 {k : Nat} {s : List E} {l : List Vx} {q : Nat} {y : Vx} (h : ∀ y ∈ l.take q, (cameL k s y.id).2.2 = 0) (hy : l[q]? = some y) (_ : y.id = (q : Int)) (h0 : (cameL k s y.id).2.2 = 0) : ∀ y ∈ l.take (q + 1), (cameL k s y.id).2.2 = 0 :=
  errF_take (g := fun y : Vx => (cameL k s y.id).2.2) h hy h0
set_option maxHeartbeats 4000000 in
theorem rnext_any (n : Int) (es : List E) (hsm : es.length ≤ 100) (v : Value) (tg : ByteArray) (src steps at_ : Int) (l : List Vx) (lv : Value) (w : World) (hE : Edges w v es) (hV : Verts w lv l) : Ans 8 [gv n v, jv tg src steps, .int .i64 at_, lv] w (fun u w' => ∃ x y, u = .tuple #[x, y, .int .i64 (nextL n es (kindL tg.data.toList) src steps at_ l).2.2] ∧ Verts w' x (nextL n es (kindL tg.data.toList) src steps at_ l).1 ∧ Edges w' y (nextL n es (kindL tg.data.toList) src steps at_ l).2.1 ∧ Below w.heap.size w w') := by
  obtain ⟨A, c, rfl, hc1, hc2, hA⟩ := hV
  have hV : Verts w (.slice A l.length c) l := ⟨A, c, rfl, hc1, hc2, hA⟩
  have hcm := hc2
  unfold maxLen at hcm
  refine calls_qx (args := [gv n v, .agg (jc tg src steps).toArray, .int .i64 at_, .slice A l.length c]) 127 Tryz.func8 rfl (by kernel_rfl) (by simp) (fun a hS => ?_)
  have hB := Below.refl w.heap.size w
  have hEb := hE
  have hVb := hV
  refine qx_seq (reg_seq ?_)
  refine seq_op hS (by decide) (runs_boxB (cs := [.int .i64 n, v]) rfl rfl) (fun v1 w1 a1 hp hS => ?_)
  obtain ⟨rfl, hM1, hB1⟩ := hp
  have hB := hB.trans (hB1.mono hB.size)
  have hE := hEb.kept hB
  have hV := hVb.kept hB
  refine seq_op hS (by decide) (runs_boxB (cs := jc tg src steps) rfl rfl) (fun v3 w3 a1 hp hS => ?_)
  obtain ⟨rfl, hM3, hB3⟩ := hp
  have hB := hB.trans (hB3.mono hB.size)
  have hM1 := hM1.below hB3 hM1.lt
  have hE := hEb.kept hB
  have hV := hVb.kept hB
  refine sI hS (runs_assign rfl) fun _ hS => ?_
  refine sI hS (runs_assign rfl) fun _ hS => ?_
  refine sI hS (runs_assign rfl) fun _ hS => ?_
  refine nil_ok (qx_seq (qx_seq (?_)))
  by_cases hj : jobB n es (kindL tg.data.toList) src steps = true
  · skip
    refine reg_seq ?_
    refine sI hS (runs_loadRow rfl hM1 Tryz.underlying24 rfl (by rw [sz24]; rfl)) fun _ hS => ?_
    refine sI hS (runs_loadRow rfl hM3 Tryz.underlying26 rfl (by rw [sz26]; rfl)) fun _ hS => ?_
    refine seq_op hS (by decide) (runs_call (args := [gv n v, .agg (jc tg src steps).toArray]) goes19 rfl (right_any n es v tg src steps w3 hE)) (fun v5 w5 a1 hp hS => ?_)
    obtain ⟨rfl, hB5⟩ := hp
    rw [hj] at hS
    have hB := hB.trans (hB5.mono hB.size)
    have hM1 := hM1.below hB5 hM1.lt
    have hM3 := hM3.below hB5 hM3.lt
    have hE := hEb.kept hB
    have hV := hVb.kept hB
    refine sI hS (runs_not (b := true) rfl) fun _ hS => ?_
    refine sI hS (runs_move rfl) fun _ hS => ?_
    refine sY hS (runs_move rfl) fun _ hS => ?_
    by_cases ha : at_ < 0
    · skip
      refine sY hS (lssT rfl rfl (by omega)) fun _ hS => ?_
      refine sI hS (runs_pick rfl rfl) fun _ hS => ?_
      refine sI hS (runs_move rfl) fun _ hS => ?_
      refine sN hS fun _ hS => ?_
      refine sN hS fun _ hS => ?_
      refine sN hS fun _ hS => ?_
      refine sN hS fun _ hS => ?_
      refine sI hS (runs_pick rfl rfl) fun _ hS => ?_
      refine nil_ok (wp_cond_true (hS.eval rfl) (qx_seq (reg_seq ?_)))
      refine sI hS (runs_assign rfl) fun _ hS => ?_
      refine sI hS (runs_assign rfl) fun _ hS => ?_
      refine sI hS (runs_assign rfl) fun _ hS => ?_
      have hfin : nextL n es (kindL tg.data.toList) src steps at_ l = ([], [], 70) := next_70 (by rw [hj]; simp; omega)
      exact nil_ok (qx_ret (ret3 (t := 8) (u := 9) (r := 10) (by kernel_rfl) hS rfl rfl rfl ⟨_, rfl, _, _, by rw [hfin]; try rfl, by rw [hfin]; exact verts_nil _, by rw [hfin]; exact edges_nil _, hB⟩))
    refine sY hS (lssF rfl rfl (by omega)) fun _ hS => ?_
    refine sI hS (runs_pick rfl rfl) fun _ hS => ?_
    refine sI hS (runs_move rfl) fun _ hS => ?_
    refine sY hS (runs_move rfl) fun _ hS => ?_
    refine sY hS (runs_fieldK fo26_2 rfl) fun _ hS => ?_
    refine sY hS (runs_load rfl pl3 (hM3.at rfl)) fun _ hS => ?_
    by_cases hb : at_ ≥ steps
    · skip
      refine sY hS (geqT rfl rfl (by omega)) fun _ hS => ?_
      refine sI hS (runs_pick rfl rfl) fun _ hS => ?_
      refine nil_ok (wp_cond_true (hS.eval rfl) (qx_seq (reg_seq ?_)))
      refine sI hS (runs_assign rfl) fun _ hS => ?_
      refine sI hS (runs_assign rfl) fun _ hS => ?_
      refine sI hS (runs_assign rfl) fun _ hS => ?_
      have hfin : nextL n es (kindL tg.data.toList) src steps at_ l = ([], [], 70) := next_70 (by rw [hj]; simp; omega)
      exact nil_ok (qx_ret (ret3 (t := 8) (u := 9) (r := 10) (by kernel_rfl) hS rfl rfl rfl ⟨_, rfl, _, _, by rw [hfin]; try rfl, by rw [hfin]; exact verts_nil _, by rw [hfin]; exact edges_nil _, hB⟩))
    refine sY hS (geqF rfl rfl (by omega)) fun _ hS => ?_
    refine sI hS (runs_pick rfl rfl) fun _ hS => ?_
    refine nil_ok (wp_cond_false (hS.eval rfl) (wp_skip (qx_seq (qx_seq (?_)))))
    have h1 : (jobB n es (kindL tg.data.toList) src steps && decide (0 ≤ at_) && decide (at_ < steps)) = true := by rw [hj]; simp; omega
    have hn64 := (job_n hj).2
    have hk0 := (job_iff.1 hj).2.1
    refine reg_seq ?_
    refine sI hS (runs_move rfl) fun _ hS => ?_
    refine sI hS (runs_len rfl undVx) fun _ hS => ?_
    refine sI hS (runs_fieldK fo24_0 rfl) fun _ hS => ?_
    refine sI hS (runs_load rfl pl3 (hM1.at rfl)) fun _ hS => ?_
    by_cases hln : ((l.length : Nat) : Int) ≠ n
    · skip
      refine sI hS (runs_neq (r := true) rfl rfl (by simpa using hln)) fun _ hS => ?_
      refine nil_ok (wp_cond_true (hS.eval rfl) (qx_seq (reg_seq ?_)))
      refine sI hS (runs_assign rfl) fun _ hS => ?_
      refine sI hS (runs_assign rfl) fun _ hS => ?_
      refine sI hS (runs_assign rfl) fun _ hS => ?_
      have hfin : nextL n es (kindL tg.data.toList) src steps at_ l = ([], [], 90) := next_90 h1 (by rw [decide_eq_false hln]; rfl)
      exact nil_ok (qx_ret (ret3 (t := 8) (u := 9) (r := 10) (by kernel_rfl) hS rfl rfl rfl ⟨_, rfl, _, _, by rw [hfin]; try rfl, by rw [hfin]; exact verts_nil _, by rw [hfin]; exact edges_nil _, hB⟩))
    refine sI hS (runs_neq (r := false) rfl rfl (by simpa using hln)) fun _ hS => ?_
    refine nil_ok (wp_cond_false (hS.eval rfl) (wp_skip (qx_seq (qx_seq (reg_seq ?_)))))
    refine sI hS (runs_assign rfl) fun _ hS => ?_
    refine nil_ok (?_)
    have hBo1 := hB
    refine qx_for (fun mm a w' => ∃ (i : Nat), i ≤ l.length ∧ mm = l.length - i ∧ Below w5.heap.size w5 w' ∧ (∀ (j : Nat) (y : Vx), j < i → l[j]? = some y → y.id = (j : Int)) ∧ Sees 127 [(11, .int .i64 (i : Int)), (2, .int .i64 at_), (3, .slice A l.length c), (4, .pointer (some ⟨w.heap.size, 0, none⟩)), (5, .pointer (some ⟨w1.heap.size, 0, none⟩))] a) l.length ⟨0, by omega, by omega, Below.refl _ _, fun j y hj => absurd hj (by omega), hS.only _ ⟨rfl, rfl, rfl, rfl, rfl, trivial⟩⟩ ?_
    clear hS
    rintro mm a wl1 ⟨i, hi1, rfl, hBl1, hF, hS⟩
    have hM1 := hM1.below hBl1 hM1.lt
    have hM3 := hM3.below hBl1 hM3.lt
    have hE := hE.kept hBl1
    have hV := hV.kept hBl1
    have hB := Below.refl wl1.heap.size wl1
    have hM1b1 := hM1
    have hM3b1 := hM3
    have hEb1 := hE
    refine reg_seq ?_
    refine sI hS (runs_move rfl) fun _ hS => ?_
    refine sI hS (runs_move rfl) fun _ hS => ?_
    refine sI hS (runs_len rfl undVx) fun _ hS => ?_
    by_cases hlt1 : i < l.length
    · skip
      refine sI hS (lssT rfl rfl (by omega)) fun _ hS => ?_
      refine nil_ok ⟨_, hS.eval rfl, fun h => by simp at h, fun _ => ?_⟩
      obtain ⟨x, hx⟩ : ∃ x, l[i]? = some x := ⟨l[i], by simp [hlt1]⟩
      obtain ⟨b, o, hAe, hbw, hr⟩ := verts_row hV (by omega)
      have hrx := verts_at hr hx
      refine qx_seq (qx_block (qx_seq (reg_seq ?_)))
      refine sI hS (runs_move rfl) fun _ hS => ?_
      refine sI hS (runs_move rfl) fun _ hS => ?_
      refine sI hS (runs_indexAddrG (j := i) (by rw [← hAe]; rfl) rfl undVx sz28 rfl hlt1) fun _ hS => ?_
      refine sI hS (runs_fieldK fo28_0 rfl) fun _ hS => ?_
      refine sI hS (runs_load rfl pl3 (hrx 0 _ rfl)) fun _ hS => ?_
      refine sI hS (runs_move rfl) fun _ hS => ?_
      by_cases hne : x.id ≠ (i : Int)
      · skip
        refine sI hS (runs_neq (r := true) rfl rfl (by simpa using hne)) fun _ hS => ?_
        refine nil_ok (wp_cond_true (hS.eval rfl) (qx_seq (reg_seq ?_)))
        refine sI hS (runs_assign rfl) fun _ hS => ?_
        refine sI hS (runs_assign rfl) fun _ hS => ?_
        refine sI hS (runs_assign rfl) fun _ hS => ?_
        have hfin : nextL n es (kindL tg.data.toList) src steps at_ l = ([], [], 90) := next_90 h1 (by rw [show idsB 0 l = false from Bool.eq_false_iff.2 (fun h => hne (by have := ids_iff.1 h i x hx; rw [Nat.zero_add] at this; exact this)), Bool.and_false])
        exact nil_ok (qx_ret (ret3 (t := 8) (u := 9) (r := 10) (by kernel_rfl) hS rfl rfl rfl ⟨_, rfl, _, _, by rw [hfin]; try rfl, by rw [hfin]; exact verts_nil _, by rw [hfin]; exact edges_nil _, hBo1.trans ((hBl1.trans ((hB).mono hBl1.size)).mono hBo1.size)⟩))
      refine sI hS (runs_neq (r := false) rfl rfl (by simpa using hne)) fun _ hS => ?_
      refine nil_ok (wp_cond_false (hS.eval rfl) (wp_skip (reg_seq ?_)))
      refine sI hS (runs_move rfl) fun _ hS => ?_
      refine sI hS (runs_add (r := ((i + 1 : Nat) : Int)) rfl rfl (by simp [IntKind.wrap, IntKind.bits, IntKind.signed]; omega)) fun _ hS => ?_
      refine sI hS (runs_assign rfl) fun _ hS => ?_
      exact nil_ok ⟨_, by omega, i + 1, by omega, rfl, hBl1.trans (hB.mono hBl1.size), (fun j y hj hy => by rcases Nat.lt_succ_iff_lt_or_eq.1 hj with h | h; exact hF j y h hy; subst h; rw [hx] at hy; cases hy; exact Classical.not_not.1 hne), hS.only _ ⟨rfl, rfl, rfl, rfl, rfl, trivial⟩⟩
    refine sI hS (lssF rfl rfl (by omega)) fun _ hS => ?_
    obtain rfl : i = l.length := by omega
    refine nil_ok ⟨_, hS.eval rfl, fun _ => ?_, fun h => by simp at h⟩
    have hB := hBo1.trans ((hBl1.trans (hB.mono hBl1.size)).mono hBo1.size)
    refine qx_seq (?_)
    have hid : ∀ (j : Nat) (y : Vx), l[j]? = some y → y.id = (j : Int) := fun j y hy => hF j y (List.getElem?_eq_some_iff.1 hy).1 hy
    have h2 : (decide ((l.length : Int) = n) && idsB 0 l) = true := by rw [Bool.and_eq_true, decide_eq_true_eq]; exact ⟨Classical.not_not.1 hln, ids_iff.2 (fun j y hy => by rw [Nat.zero_add]; exact hid j y hy)⟩
    have hl64 : l.length ≤ 64 := by omega
    clear hF
    obtain ⟨wA, hwA⟩ : ∃ a, a = wl1 := ⟨_, rfl⟩
    subst hwA
    have hBpre0 := hB
    have hB := Below.refl wA.heap.size wA
    have hM1b := hM1
    have hM3b := hM3
    have hEb := hE
    have hVb := hV
    refine reg_seq ?_
    refine seq_op hS (by decide) (none_ownV (B := wA.heap.size) hB.size) (fun v7 w7 a1 hp hS => ?_)
    obtain ⟨⟨gnV, rfl, hnV⟩, hB7⟩ := hp
    have hB := hB.trans (hB7.mono hB.size)
    have hM1 := hM1b.below hB hM1b.lt
    have hM3 := hM3b.below hB hM3b.lt
    have hE := hEb.kept hB
    have hV := hVb.kept hB
    refine seq_op hS (by decide) (none_ownM8 (B := wA.heap.size) hB.size) (fun v9 w9 a1 hp hS => ?_)
    obtain ⟨⟨gnM, rfl, hnM⟩, hB9⟩ := hp
    have hB := hB.trans (hB9.mono hB.size)
    have hM1 := hM1b.below hB hM1b.lt
    have hM3 := hM3b.below hB hM3b.lt
    have hE := hEb.kept hB
    have hV := hVb.kept hB
    have hnV := owns_kept hnV hB9
    refine sI hS (runs_assign rfl) fun _ hS => ?_
    refine sI hS (runs_assign rfl) fun _ hS => ?_
    refine nil_ok (qx_seq (qx_seq (reg_seq ?_)))
    refine sI hS (runs_assign rfl) fun _ hS => ?_
    refine nil_ok (?_)
    refine qx_for (fun mm a w' => ∃ (i : Nat) (sv ov : Value), i ≤ l.length ∧ mm = l.length - i ∧ Below wA.heap.size wA w' ∧ w'.ownsRow wA.heap.size 50 5 ov ((l.take i).map (fun x => (stepL n es (kindL tg.data.toList) src steps at_ x).1)).length (cellsV ((l.take i).map (fun x => (stepL n es (kindL tg.data.toList) src steps at_ x).1))) ∧ w'.ownsRow wA.heap.size 61 3 sv (sentL n es (kindL tg.data.toList) src steps at_ (l.take i)).length (cellsE (sentL n es (kindL tg.data.toList) src steps at_ (l.take i))) ∧ (∀ x ∈ l.take i, (fun x => (stepL n es (kindL tg.data.toList) src steps at_ x).2.2) x = 0) ∧ Sees 127 [(14, .int .i64 (i : Int)), (13, sv), (12, ov), (2, .int .i64 at_), (3, .slice A l.length c), (4, .pointer (some ⟨w.heap.size, 0, none⟩)), (5, .pointer (some ⟨w1.heap.size, 0, none⟩))] a) l.length ⟨0, _, _, by omega, by omega, hB, hnV, hnM, (fun x hx => by simp at hx), hS.only _ ⟨rfl, rfl, rfl, rfl, rfl, rfl, rfl, trivial⟩⟩ ?_
    clear hS 
    rintro mm a wl1 ⟨i, sv, ov, hi1, rfl, hBb1, hov, hsen, hez, hS⟩
    have hBsz1 := hBb1.size
    have hE := hEb.kept hBb1
    have hV := hVb.kept hBb1
    have hM1 := hM1b.below hBb1 hM1b.lt
    have hM3 := hM3b.below hBb1 hM3b.lt
    have hsenb := hsen
    have hovb := hov
    have hB := Below.refl wl1.heap.size wl1
    have hM1b1 := hM1
    have hM3b1 := hM3
    have hEb1 := hE
    refine reg_seq ?_
    refine sI hS (runs_move rfl) fun _ hS => ?_
    refine sI hS (runs_move rfl) fun _ hS => ?_
    refine sI hS (runs_len rfl undVx) fun _ hS => ?_
    by_cases hlt1 : i < l.length
    · skip
      refine sI hS (lssT rfl rfl (by omega)) fun _ hS => ?_
      refine nil_ok ⟨_, hS.eval rfl, fun h => by simp at h, fun _ => ?_⟩
      obtain ⟨x, hx⟩ : ∃ x, l[i]? = some x := ⟨l[i], by simp [hlt1]⟩
      obtain ⟨b, o, hAe, hbw, hr⟩ := verts_row hV (by omega)
      have hrx := verts_at hr hx
      obtain ⟨Y, S, ER, hst⟩ : ∃ Y S ER, stepL n es (kindL tg.data.toList) src steps at_ x = (Y, S, ER) := ⟨_, _, _, rfl⟩
      have hq1 := step_small (n := n) (es := es) (k := (kindL tg.data.toList)) (src := src) (steps := steps) (at_ := at_) x
      have hq2 := sent_small (n := n) (es := es) (k := (kindL tg.data.toList)) (src := src) (steps := steps) (at_ := at_) (l.take i)
      have hq3 : (l.take i).length * es.length ≤ 64 * es.length := Nat.mul_le_mul_right _ (by rw [List.length_take]; omega)
      rw [hst] at hq1
      replace hq1 : S.length ≤ es.length := hq1
      have hlo : ((l.take i).map (fun x => (stepL n es (kindL tg.data.toList) src steps at_ x).1)).length ≤ 64 := by rw [List.length_map, List.length_take]; omega
      refine qx_seq (qx_block (qx_seq (reg_v (KF (wl1.heap.size) 50 (vc Y)) (fun w' => KF (wl1.heap.size) 50 (vc Y) wl1 w') [.inl (gv n v), .inl (.agg (jc tg src steps).toArray), .inl (.int .i64 at_), .inl (.slice A l.length c), .inl (.int .i64 (i : Int)), .inl (.pointer (some ⟨b, o + i * 5, none⟩)), .inl (.agg (vc x).toArray), .inr (fun _ => fun v w' => ∃ sv, v = .tuple #[vv Y, sv, .int .i64 ER] ∧ w'.ownsRow wl1.heap.size 61 3 sv (S).length (cellsE (S))), .inr (fun _ => fun v w' => ∃ sv, v = .tuple #[vv Y, sv, .int .i64 ER] ∧ w'.ownsRow wl1.heap.size 61 3 sv (S).length (cellsE (S))), .inl (.agg (vc Y).toArray), .inr (fun _ => fun v w' => w'.ownsRow wl1.heap.size 61 3 v (S).length (cellsE (S))), .inl (.int .i64 ER), .inr (fun _ => fun v w' => ∃ g, v = .pointer (some ⟨g, 0, none⟩) ∧ wl1.heap.size ≤ g ∧ ∃ cs : List Value, cs.length = 5 ∧ Has w' g 50 cs), .inr (fun vs _ => fun w' => ∃ g, vs 12 = .pointer (some ⟨g, 0, none⟩) ∧ wl1.heap.size ≤ g ∧ Has w' g 50 (vc Y)), .inr (fun _ => fun v w' => w'.ownsRow wl1.heap.size 61 3 v (S).length (cellsE (S))), .inl (.int .i64 ER)] 16 0 ⟨trivial, trivial, trivial, trivial, trivial, trivial, trivial, fun _ _ _ => rfl, fun _ _ _ => rfl, trivial, fun _ _ _ => rfl, trivial, fun _ _ _ => rfl, fun vs vs' h => by simp only [h 12 (by kernel_rfl)], fun _ _ _ => rfl, trivial, trivial⟩ mixed rfl (by kernel_rfl) hS (KF.refl _ _ _ _) (fun _ h => h.drew) ?_)))
      refine fun vs => ?_
      refine vs_is rfl (fun w' hw => runs_loadRow rfl (hw.other _ _ _ (by decide) hM1) Tryz.underlying24 rfl (by rw [sz24]; rfl)) ?_
      refine vs_is rfl (fun w' hw => runs_loadRow rfl (hw.other _ _ _ (by decide) hM3) Tryz.underlying26 rfl (by rw [sz26]; rfl)) ?_
      refine vs_is rfl (fun w' hw => runs_move rfl) ?_
      refine vs_is rfl (fun w' hw => runs_move rfl) ?_
      refine vs_is rfl (fun w' hw => runs_move rfl) ?_
      refine vs_is rfl (fun w' hw => runs_indexAddrG (j := i) (by rw [← hAe]; rfl) rfl undVx sz28 rfl hlt1) ?_
      refine vs_is rfl (fun w' hw => runs_loadVx rfl (range_below hrx hw.below hbw)) ?_
      refine vs_pr rfl (fun _ _ _ h hk => by obtain ⟨sv, h1, h2⟩ := h; exact ⟨sv, h1, hk.owns h2 (by decide)⟩) (fun w' hw hq => (runs_call (args := [gv n v, .agg (jc tg src steps).toArray, .int .i64 at_, .agg (vc x).toArray]) goes29 rfl (rstep_is9 w' (hE.kept hw.below) hst)).mono (by rintro v w5 ⟨hb, sv, h1, h2⟩; exact ⟨⟨sv, h1, owns_mono h2 hw.below.size⟩, hw.more (Nat.le_refl _) hb, KF.of hb hw.below.size⟩)) (fun vc1 evc1 => ?_)
      refine vs_pr rfl (fun _ _ _ h hk => by obtain ⟨sv, h1, h2⟩ := h; exact ⟨sv, h1, hk.owns h2 (by decide)⟩) (fun w' hw hq => (by obtain ⟨sv, rfl, h2⟩ := hq (7, _) List.mem_cons_self (by kernel_rfl); exact (runs_move rfl).mono (by rintro v w5 ⟨rfl, rfl⟩; exact ⟨⟨sv, rfl, h2⟩, hw, KF.refl _ _ _ _⟩))) (fun vc2 evc2 => ?_)
      refine vs_val rfl (fun w' hw hq => (by obtain ⟨sv, rfl, _⟩ := hq (8, _) List.mem_cons_self (by kernel_rfl); exact (runs_extract rfl rfl).mono (by rintro v w5 ⟨rfl, rfl⟩; exact ⟨rfl, hw, KF.refl _ _ _ _⟩))) ?_
      refine vs_pr rfl (fun _ _ _ h hk => hk.owns h (by decide)) (fun w' hw hq => (by obtain ⟨sv, rfl, h2⟩ := hq (8, _) List.mem_cons_self (by kernel_rfl); exact (runs_extract rfl rfl).mono (by rintro v w5 ⟨rfl, rfl⟩; exact ⟨h2, hw, KF.refl _ _ _ _⟩))) (fun sl esl => ?_)
      refine vs_val rfl (fun w' hw hq => (by obtain ⟨sv, rfl, _⟩ := hq (8, _) (List.mem_cons_of_mem _ List.mem_cons_self) (by kernel_rfl); exact (runs_extract rfl rfl).mono (by rintro v w5 ⟨rfl, rfl⟩; exact ⟨rfl, hw, KF.refl _ _ _ _⟩))) ?_
      refine vs_pr rfl (fun _ _ _ h hk => by obtain ⟨g, h1, h2, cs, h3, h4⟩ := h; obtain ⟨cs', h5, h6⟩ := hk.len _ _ h4; exact ⟨g, h1, h2, cs', h5.trans h3, h6⟩) (fun w' hw hq => (runs_allocB (cs := [.int .i64 0, .int .i64 0, .bool false, .bool false, .int .i64 0]) zo28 rfl).mono (by rintro v w5 ⟨rfl, h2, h3⟩; exact ⟨⟨_, rfl, hw.below.size, _, rfl, h2⟩, hw.more (Nat.le_refl _) h3, KF.of h3 hw.below.size⟩)) (fun va eva => ?_)
      refine vs_none rfl (fun w1 w2 h hk => by obtain ⟨g, h1, h2, h3⟩ := h; exact ⟨g, h1, h2, hk.fin _ h3⟩) (fun w' hw hq => (by obtain ⟨g, rfl, hBg, cs, hcs, hg⟩ := hq (12, _) List.mem_cons_self (by kernel_rfl); exact (runs_storeB (cs := vc Y) rfl rfl hg (hcs.trans rfl) rfl sz28).mono (by rintro v w2 ⟨h1, h2⟩; have hk := KF.store (F := vc Y) hg hBg (hcs.trans rfl) h1 h2; exact ⟨⟨g, eva, hBg, h1⟩, hw.trans hk, hk⟩))) (fun _ _ => ?_)
      refine vs_pr rfl (fun _ _ _ h hk => hk.owns h (by decide)) (fun w' hw hq => (by have h2 := hq (10, _) (List.mem_cons_of_mem _ (List.mem_cons_of_mem _ List.mem_cons_self)) (by kernel_rfl); exact (runs_assign rfl).mono (by rintro v w5 ⟨rfl, rfl⟩; exact ⟨h2, hw, KF.refl _ _ _ _⟩))) (fun sm esm => ?_)
      refine vs_is rfl (fun w' hw => runs_assign rfl) ?_
      refine (fun a11 w11 hS hK11 hq => ?_)
      obtain ⟨gs, hgs, hgBs, hYs⟩ := (hq (13, _) (List.mem_cons_of_mem _ List.mem_cons_self))
      rw [eva] at hgs
      subst hgs
      have hOwn := (hq (14, _) List.mem_cons_self)
      clear hq
      have hB := hB.trans (hK11.below.mono (hB.size))
      have hM1 := hM1b1.below hB hM1b1.lt
      have hM3 := hM3b1.below hB hM3b1.lt
      have hE := hEb1.kept hB
      have hsen := hK11.owns hsen (by decide)
      have hov := owns_kept hov hK11.below
      refine wpAnyH_done (by kernel_rfl) ?_ _
      refine qx_seq (qx_seq (reg_seq ?_))
      refine sI hS (runs_move rfl) fun _ hS => ?_
      by_cases he : ER ≠ 0
      · skip
        refine sI hS (runs_neq (r := true) rfl rfl (by simpa using he)) fun _ hS => ?_
        refine nil_ok (wp_cond_true (hS.eval rfl) (qx_seq (reg_seq ?_)))
        refine sI hS (runs_move rfl) fun _ hS => ?_
        refine sI hS (runs_assign rfl) fun _ hS => ?_
        refine sI hS (runs_assign rfl) fun _ hS => ?_
        refine sI hS (runs_assign rfl) fun _ hS => ?_
        have hE1 : errF (fun x => (stepL n es (kindL tg.data.toList) src steps at_ x).2.2) l = ER := by
          have hx2 : (stepL n es (kindL tg.data.toList) src steps at_ x).2.2 = ER := by rw [hst]
          rw [← hx2]
          exact errF_at (g := (fun x => (stepL n es (kindL tg.data.toList) src steps at_ x).2.2)) (fun j y hj hy => hez y (List.mem_of_getElem? (i := j) (by rw [List.getElem?_take, if_pos hj]; exact hy))) hx (by rw [hx2]; exact he)
        have hfin : nextL n es (kindL tg.data.toList) src steps at_ l = ([], [], ER) := by have h := next_e1 h1 h2 (by rw [hE1]; exact he); rw [hE1] at h; exact h
        exact nil_ok (qx_ret (ret3 (t := 8) (u := 9) (r := 10) (by kernel_rfl) hS rfl rfl rfl ⟨_, rfl, _, _, by rw [hfin]; try rfl, by rw [hfin]; exact verts_nil _, by rw [hfin]; exact edges_nil _, (hBpre0.trans (((hBb1.trans ((hB).mono hBb1.size))).mono hBpre0.size))⟩))
      refine sI hS (runs_neq (r := false) rfl rfl (by simpa using he)) fun _ hS => ?_
      refine nil_ok (wp_cond_false (hS.eval rfl) (wp_skip (reg_seq ?_)))
      refine sI hS (runs_move rfl) fun _ hS => ?_
      refine sI hS (runs_loadRow rfl hYs Tryz.underlying50 rfl (by rw [sz28]; rfl)) fun _ hS => ?_
      refine seq_op hS (by decide) (runs_oneV (e := Y) rfl) (fun v13 w13 a1 hp hS => ?_)
      obtain ⟨g2, rfl, hX, hB13⟩ := hp
      have hB := hB.trans (hB13.mono hB.size)
      have hM1 := hM1b1.below hB hM1b1.lt
      have hM3 := hM3b1.below hB hM3b1.lt
      have hE := hEb1.kept hB
      have hsen := owns_kept hsen hB13
      have hov := owns_kept hov hB13
      have hOwn := owns_kept hOwn hB13
      refine seq_op hS (by decide) (push_ownV (B := wA.heap.size) (acc := ((l.take i).map (fun x => (stepL n es (kindL tg.data.toList) src steps at_ x).1))) (e := Y) rfl hov rfl hX (by omega) (Nat.le_trans hBsz1 hB.size)) (fun v15 w15 a1 hp hS => ?_)
      obtain ⟨_, hov3, hrow, hB15⟩ := hp
      have hsen := owns_typed (fun i cs h => hrow i _ cs (by decide) h) hsen
      have hOwn := owns_typed (fun i cs h => hrow i _ cs (by decide) h) hOwn
      refine sI hS (runs_move rfl) fun _ hS => ?_
      refine sI hS (runs_move rfl) fun _ hS => ?_
      refine seq_op hS (by decide) (app_ownG (B := wA.heap.size) (xs := (sentL n es (kindL tg.data.toList) src steps at_ (l.take i))) (es := S) (edges_ownE hOwn rfl) (by omega) (Nat.le_trans hBsz1 (Nat.le_trans hB.size hB15.size)) rfl hsen rfl) (fun v16 w16 a1 hp hS => ?_)
      obtain ⟨hsen3, hrow6, hB16⟩ := hp
      have hov3 := owns_typed (fun i cs h => hrow6 i _ cs (by decide) h) hov3
      refine sI hS (runs_assign rfl) fun _ hS => ?_
      refine sI hS (runs_assign rfl) fun _ hS => ?_
      refine nil_ok (reg_seq ?_)
      refine sI hS (runs_move rfl) fun _ hS => ?_
      refine sI hS (runs_add (r := ((i + 1 : Nat) : Int)) rfl rfl (by simp [IntKind.wrap, IntKind.bits, IntKind.signed]; omega)) fun _ hS => ?_
      refine sI hS (runs_assign rfl) fun _ hS => ?_
      have hY1 : (stepL n es (kindL tg.data.toList) src steps at_ x).1 = Y := by rw [hst]
      have hS1 : (stepL n es (kindL tg.data.toList) src steps at_ x).2.1 = S := by rw [hst]
      have hE1 : (stepL n es (kindL tg.data.toList) src steps at_ x).2.2 = 0 := by rw [hst]; exact Classical.not_not.1 he
      exact nil_ok ⟨_, by omega, i + 1, v16, v15, by omega, rfl, hBb1.trans ((hB.mono hBb1.size).trans (hB15.trans hB16)), by rw [map_snoc hx, hY1, List.length_append]; exact hov3, by rw [sent_snoc hx, hS1]; exact hsen3, errF_take hez hx hE1, hS.only _ ⟨rfl, rfl, rfl, rfl, rfl, rfl, rfl, trivial⟩⟩
    refine sI hS (lssF rfl rfl (by omega)) fun _ hS => ?_
    obtain rfl : i = l.length := by omega
    refine nil_ok ⟨_, hS.eval rfl, fun _ => ?_, fun h => by simp at h⟩
    have hB := hBb1
    rw [List.take_length] at hov hsen hez
    refine qx_seq (qx_seq (?_))
    have hE1 := errF_zero.2 hez
    obtain ⟨SN, hSN⟩ : ∃ s, (sentL n es (kindL tg.data.toList) src steps at_ l) = s := ⟨_, rfl⟩
    have hq2 := sent_small (n := n) (es := es) (k := (kindL tg.data.toList)) (src := src) (steps := steps) (at_ := at_) l
    have hq3 : l.length * es.length ≤ 64 * es.length := Nat.mul_le_mul_right _ hl64
    rw [hSN] at hsen hq2
    have hsn : SN.length ≤ 10000 := by omega
    obtain ⟨L1, hL1⟩ : ∃ a, l.map (fun x => (stepL n es (kindL tg.data.toList) src steps at_ x).1) = a := ⟨_, rfl⟩
    rw [hL1] at hov
    have hl1 : L1.length = l.length := by rw [← hL1, List.length_map]
    have hidL : ∀ (j : Nat) (y : Vx), L1[j]? = some y → y.id = (j : Int) := fun j y hy => by
      rw [← hL1, List.getElem?_map] at hy
      obtain ⟨x, hx, rfl⟩ := Option.map_eq_some_iff.1 hy
      exact (nstep_id (hez x (List.mem_of_getElem? hx))).trans (hid j x hx)
    have hSV := edges_ownE hsen rfl
    have hOV := verts_own hov rfl
    have hM1 := hM1b.below hB hM1b.lt
    have hM3 := hM3b.below hB hM3b.lt
    have hE := hEb.kept hB
    obtain ⟨wB, hwB⟩ : ∃ a, a = wl1 := ⟨_, rfl⟩
    subst hwB
    have hBpre1 := hB
    have hB := Below.refl wB.heap.size wB
    have hM1b := hM1
    have hM3b := hM3
    have hEb := hE
    have hSVb := hSV
    refine reg_seq ?_
    refine sI hS (runs_assign rfl) fun _ hS => ?_
    refine nil_ok (?_)
    refine qx_for (fun mm a w' => ∃ (q : Nat) (ow : Value), q ≤ l.length ∧ mm = l.length - q ∧ Below wB.heap.size wB w' ∧ Verts w' ow ((L1.take q).map (withV (kindL tg.data.toList) SN) ++ L1.drop q) ∧ (∀ y ∈ L1.take q, (cameL (kindL tg.data.toList) SN y.id).2.2 = 0) ∧ Sees 127 [(18, .int .i64 (q : Int)), (13, sv), (12, ow), (2, .int .i64 at_), (3, .slice A l.length c), (4, .pointer (some ⟨w.heap.size, 0, none⟩)), (5, .pointer (some ⟨w1.heap.size, 0, none⟩))] a) l.length ⟨0, ov, by omega, by omega, hB, hOV, (fun x hx => by simp at hx), hS.only _ ⟨rfl, rfl, rfl, rfl, rfl, rfl, rfl, trivial⟩⟩ ?_
    clear hS 
    rintro mm a wl1 ⟨q, ow, hi1, rfl, hBb1, hOw, hez2, hS⟩
    have hE := hEb.kept hBb1
    have hSV := hSVb.kept hBb1
    have hM1 := hM1b.below hBb1 hM1b.lt
    have hM3 := hM3b.below hBb1 hM3b.lt
    have hB := Below.refl wl1.heap.size wl1
    have hM1b1 := hM1
    have hM3b1 := hM3
    have hEb1 := hE
    have hSVb1 := hSV
    have hOwb1 := hOw
    refine reg_seq ?_
    refine sI hS (runs_move rfl) fun _ hS => ?_
    refine sI hS (runs_move rfl) fun _ hS => ?_
    refine sI hS (runs_len rfl undVx) fun _ hS => ?_
    by_cases hlt1 : q < l.length
    · skip
      refine sI hS (lssT rfl rfl (by omega)) fun _ hS => ?_
      refine nil_ok ⟨_, hS.eval rfl, fun h => by simp at h, fun _ => ?_⟩
      obtain ⟨y, hy⟩ : ∃ y, L1[q]? = some y := ⟨L1[q], by simp [hl1, hlt1]⟩
      have hyq := hidL q y hy
      obtain ⟨CA, hca⟩ : ∃ C, cameL (kindL tg.data.toList) SN y.id = C := ⟨_, rfl⟩
      obtain ⟨O, hO⟩ : ∃ a, ((L1.take q).map (withV (kindL tg.data.toList) SN) ++ L1.drop q) = a := ⟨_, rfl⟩
      rw [hO] at hOw
      have hOl : O.length = l.length := by rw [← hO]; simp; omega
      have hOy : O[q]? = some y := by rw [← hO]; exact out_get _ _ hy
      obtain ⟨Ao, co, hso, -, -, -⟩ := id hOw
      subst hso
      have hcap := Verts.cap_le hOw
      have hOwb1 := hOw
      refine qx_seq (qx_block (qx_seq (reg_seq ?_)))
      refine sI hS (runs_fieldK fo26_0 rfl) fun _ hS => ?_
      refine sI hS (runs_load rfl pl9 (hM3.at rfl)) fun _ hS => ?_
      refine sI hS (runs_move rfl) fun _ hS => ?_
      refine sI hS (runs_move rfl) fun _ hS => ?_
      refine seq_op hS (by decide) (runs_call (args := [.string tg, sv, .int .i64 (q : Int)]) goes30 rfl (rcame_any tg SN hsn (q : Int) sv wl1 hSV)) (fun v17 w17 a1 hp hS => ?_)
      rw [← hyq, hca] at hp
      obtain ⟨rfl, hB17⟩ := hp
      have hB := hB.trans (hB17.mono hB.size)
      have hM1 := hM1b1.below hB hM1b1.lt
      have hM3 := hM3b1.below hB hM3b1.lt
      have hE := hEb1.kept hB
      have hSV := hSVb1.kept hB
      have hOw := hOwb1.kept hB
      refine sI hS (runs_move rfl) fun _ hS => ?_
      refine sI hS (runs_extract rfl rfl) fun _ hS => ?_
      refine sI hS (runs_extract rfl rfl) fun _ hS => ?_
      refine sI hS (runs_extract rfl rfl) fun _ hS => ?_
      refine sI hS (runs_assign rfl) fun _ hS => ?_
      refine sI hS (runs_assign rfl) fun _ hS => ?_
      refine sI hS (runs_assign rfl) fun _ hS => ?_
      refine nil_ok (qx_seq (qx_seq (reg_seq ?_)))
      refine sI hS (runs_move rfl) fun _ hS => ?_
      by_cases he : CA.2.2 ≠ 0
      · skip
        refine sI hS (runs_neq (r := true) rfl rfl (by simpa using he)) fun _ hS => ?_
        refine nil_ok (wp_cond_true (hS.eval rfl) (qx_seq (reg_seq ?_)))
        refine sI hS (runs_move rfl) fun _ hS => ?_
        refine sI hS (runs_assign rfl) fun _ hS => ?_
        refine sI hS (runs_assign rfl) fun _ hS => ?_
        refine sI hS (runs_assign rfl) fun _ hS => ?_
        have hE2 : errF (fun y => (cameL (kindL tg.data.toList) SN y.id).2.2) L1 = CA.2.2 := by
          have hx2 : (cameL (kindL tg.data.toList) SN y.id).2.2 = CA.2.2 := by rw [hca]
          rw [← hx2]
          exact errF_at (g := fun y : Vx => (cameL (kindL tg.data.toList) SN y.id).2.2) (fun j z hj hz => hez2 z (List.mem_of_getElem? (i := j) (by rw [List.getElem?_take, if_pos hj]; exact hz))) hy (by rw [hx2]; exact he)
        have hE3 : errF (fun x => (cameL (kindL tg.data.toList) SN x.id).2.2) l = CA.2.2 := by
          rw [← hE2, ← hL1]
          exact (err_map (fun x hx => by show (cameL _ SN ((stepL n es (kindL tg.data.toList) src steps at_ x).1.id)).2.2 = _; rw [nstep_id (hez x hx)])).symm
        have hfin : nextL n es (kindL tg.data.toList) src steps at_ l = ([], [], CA.2.2) := by have h := next_e2 h1 h2 hE1 (by rw [hSN, hE3]; exact he); rw [hSN, hE3] at h; exact h
        exact nil_ok (qx_ret (ret3 (t := 8) (u := 9) (r := 10) (by kernel_rfl) hS rfl rfl rfl ⟨_, rfl, _, _, by rw [hfin]; try rfl, by rw [hfin]; exact verts_nil _, by rw [hfin]; exact edges_nil _, (hBpre0.trans (((hBpre1.trans (((hBb1.trans ((hB).mono hBb1.size))).mono hBpre1.size))).mono hBpre0.size))⟩))
      refine sI hS (runs_neq (r := false) rfl rfl (by simpa using he)) fun _ hS => ?_
      refine nil_ok (wp_cond_false (hS.eval rfl) (wp_skip (qx_seq (?_))))
      obtain ⟨b, o, rfl, hbw, hr⟩ := verts_row hOw (by omega)
      have hry := verts_at hr hOy
      refine reg_seq ?_
      refine sI hS (runs_move rfl) fun _ hS => ?_
      refine sI hS (runs_move rfl) fun _ hS => ?_
      refine sI hS (runs_indexAddrG (j := q) rfl rfl undVx sz28 rfl (by omega)) fun _ hS => ?_
      refine sI hS (runs_loadVx rfl hry) fun _ hS => ?_
      refine seq_op hS (by decide) (runs_allocB (cs := [.int .i64 0, .int .i64 0, .bool false, .bool false, .int .i64 0]) zo28 rfl) (fun v19 w19 a1 hp hS => ?_)
      obtain ⟨rfl, hM19, hB19⟩ := hp
      have hLhM19 : wl1.heap.size ≤ w17.heap.size := hB.size
      have hB := hB.trans (hB19.mono hB.size)
      have hM1 := hM1b1.below hB hM1b1.lt
      have hM3 := hM3b1.below hB hM3b1.lt
      have hE := hEb1.kept hB
      have hSV := hSVb1.kept hB
      have hOw := hOwb1.kept hB
      refine seq_none hS (runs_storeB (cs := vc y) rfl rfl hM19 rfl rfl sz28) (fun v21 w21 a1 hp hS => ?_)
      obtain ⟨hM19, hU21⟩ := hp
      have hB := But.new hB hU21 (fun i e => by rw [e]; exact hLhM19) (Nat.le_refl _)
      have hM1 := hM1b1.below hB hM1b1.lt
      have hM3 := hM3b1.below hB hM3b1.lt
      have hE := hEb1.kept hB
      have hSV := hSVb1.kept hB
      have hOw := hOwb1.kept hB
      refine nil_ok (qx_seq (reg_seq ?_))
      refine sI hS (runs_move rfl) fun _ hS => ?_
      refine sI hS (runs_move rfl) fun _ hS => ?_
      refine sI hS (runs_fieldK fo28_3 rfl) fun _ hS => ?_
      refine seq_none hS (runs_storeC rfl rfl rfl s1_4 hM19 rfl) (fun v23 w23 a1 hp hS => ?_)
      obtain ⟨hM19, hU23⟩ := hp
      have hB := But.new hB hU23 (fun i e => by rw [e]; exact hLhM19) (Nat.le_refl _)
      have hM1 := hM1b1.below hB hM1b1.lt
      have hM3 := hM3b1.below hB hM3b1.lt
      have hE := hEb1.kept hB
      have hSV := hSVb1.kept hB
      have hOw := hOwb1.kept hB
      refine sI hS (runs_fieldK fo28_4 rfl) fun _ hS => ?_
      refine seq_none hS (runs_storeC rfl rfl rfl s1_2 hM19 rfl) (fun v25 w25 a1 hp hS => ?_)
      obtain ⟨hM19, hU25⟩ := hp
      have hB := But.new hB hU25 (fun i e => by rw [e]; exact hLhM19) (Nat.le_refl _)
      have hM1 := hM1b1.below hB hM1b1.lt
      have hM3 := hM3b1.below hB hM3b1.lt
      have hE := hEb1.kept hB
      have hSV := hSVb1.kept hB
      have hOw := hOwb1.kept hB
      refine nil_ok (?_)
      obtain ⟨Z, hZ⟩ : ∃ z : Vx, (⟨y.id, y.val, y.act, CA.2.1, CA.1⟩ : Vx) = z := ⟨_, rfl⟩
      have hD := verts_drop hOw (q + 1) (by omega)
      have hTk := verts_take hOw q (by omega)
      have hl41 : (O.take q ++ [Z]).length = q + 1 := by simp; omega
      have hld : (O.drop (q + 1)).length = O.length - (q + 1) := List.length_drop
      have hlk : (O.take q).length = q := by simp; omega
      have hsz8 : wl1.heap.size ≤ w25.heap.size := hB.size
      have hZx : Has w25 w17.heap.size 50 (vc Z) := by rw [← hZ]; exact hM19
      refine reg_k (KYV w25.heap.size (cellsV (O.take q ++ [Z]))) (fun w' => KYV w25.heap.size (cellsV (O.take q ++ [Z])) w25 w') [.inr (fun v w' => ∃ g, v = .slice (some ⟨g, 0, none⟩) 0 0 ∧ w'.ownsRow w25.heap.size 50 5 v 0 []), .inl (.slice (some ⟨b, o, none⟩) O.length co), .inl (.int .i64 (q : Int)), .inl (.slice (some ⟨b, o, none⟩) q co), .inr (fun v w' => ∃ g2 c2, v = .slice (some ⟨g2, 0, none⟩) (O.take q).length c2 ∧ ((O.take q).length = 0 → c2 = 0) ∧ w'.ownsRow w25.heap.size 50 5 v (O.take q).length (cellsV (O.take q))), .inl (.agg (vc Z).toArray), .inr (fun v w' => ∃ g5, v = .slice (some ⟨g5, 0, none⟩) 1 1 ∧ Has w' g5 50 (vc Z)), .inr (fun v w' => (∃ g3 c3, v = .slice (some ⟨g3, 0, none⟩) (q + 1) c3) ∧ w'.ownsRow w25.heap.size 50 5 v (q + 1) (cellsV (O.take q ++ [Z]))), .inl (.slice (some ⟨b, o, none⟩) O.length co), .inl (.int .i64 (q : Int)), .inl (.int .i64 ((q + 1 : Nat) : Int)), .inl (.slice (if co = q + 1 then some ⟨b, o, none⟩ else (some ⟨b, o, none⟩ : Option Addr).map (·.add ((q + 1) * 5))) (O.length - (q + 1)) (co - (q + 1)))] 12 2 mixed rfl (by kernel_rfl) hS KYV.refl (fun _ h => h.drew) ?_
      refine ks_pr rfl (fun _ _ _ h hk => by obtain ⟨g, h1, h2⟩ := h; exact ⟨g, h1, hk.2.1 _ _ _ List.nil_prefix h2⟩) (fun w' hw hq => (none_ownV (B := w25.heap.size) hw.1.size).mono (by rintro v w5 ⟨h1, hb⟩; exact ⟨h1, hw.trans (KYV.of_below hb hw.1.size), KYV.of_below hb hw.1.size⟩)) (fun u0 => ?_)
      refine ks_is rfl (fun w' hw => runs_move rfl) ?_
      refine ks_is rfl (fun w' hw => runs_move rfl) ?_
      refine ks_is rfl (fun w' hw => runs_sliceToG (k := q) rfl rfl rfl undVx (by rw [Option.isSome_map.symm.trans (congrArg Option.isSome sz28)]; rfl) (by omega)) ?_
      refine ks_pr rfl (fun _ _ _ h hk => by obtain ⟨g2, c2, h1, h3, h2⟩ := h; exact ⟨g2, c2, h1, h3, hk.2.1 _ _ _ (by rw [cellsV_append]; exact List.prefix_append _ _) h2⟩) (fun w' hw hq => (by obtain ⟨g, rfl, h0⟩ := hq (0, _) List.mem_cons_self (by kernel_rfl); exact (copy_ownV (B := w25.heap.size) (hTk.kept hw.1) (by omega) hw.1.size rfl h0 rfl).mono (by rintro v w5 ⟨⟨g2, c2, h1, h3⟩, h2, hb⟩; exact ⟨⟨g2, c2, h1, h3, h2⟩, hw.trans (KYV.of_below hb hw.1.size), KYV.of_below hb hw.1.size⟩))) (fun u4 => ?_)
      refine ks_is rfl (fun w' hw => runs_loadRow rfl (hZx.below hw.1 hZx.lt) Tryz.underlying50 rfl (by rw [sz28]; rfl)) ?_
      refine ks_pr rfl (fun _ _ _ h hk => by obtain ⟨g5, h1, h2⟩ := h; exact ⟨g5, h1, hk.2.2.2 _ _ rfl h2⟩) (fun w' hw hq => (runs_oneV (e := Z) rfl).mono (by rintro v w5 ⟨g5, h1, h2, hb⟩; exact ⟨⟨g5, h1, h2⟩, hw.trans (KYV.of_below hb hw.1.size), KYV.of_below hb hw.1.size⟩)) (fun u6 => ?_)
      refine ks_pr rfl (fun _ _ _ h hk => ⟨h.1, hk.2.1 _ _ _ (List.prefix_refl _) h.2⟩) (fun w' hw hq => (by obtain ⟨g5, rfl, hX⟩ := hq (6, _) List.mem_cons_self (by kernel_rfl); obtain ⟨g2, c2, rfl, hc2, h4⟩ := hq (4, _) (List.mem_cons_of_mem _ List.mem_cons_self) (by kernel_rfl); exact (app_ownV (B := w25.heap.size) (xs := O.take q) (es := [Z]) (n := q + 1) (verts_has1 hX) (by simp; omega) hw.1.size rfl h4 rfl (.inl (by simp)) (fun _ => by rcases Nat.eq_zero_or_pos q with h | h; exact .inr (fun g m c e => by cases e; exact hc2 (by omega)); exact .inl (by omega)) (by rw [hlk]; rfl)).mono (by rintro v w5 ⟨h1, h2, hk, _, _⟩; exact ⟨⟨h1, h2⟩, hw.trans hk, hk⟩))) (fun u7 => ?_)
      refine ks_is rfl (fun w' hw => runs_move rfl) ?_
      refine ks_is rfl (fun w' hw => runs_move rfl) ?_
      refine ks_is rfl (fun w' hw => runs_add (r := ((q + 1 : Nat) : Int)) rfl rfl (by simp [IntKind.wrap, IntKind.bits, IntKind.signed]; omega)) ?_
      refine ks_is rfl (fun w' hw => runs_sliceFromG (l := q + 1) rfl rfl rfl undVx sz28 (by omega)) ?_
      refine (fun a27 w27 hS hK27 hq => ?_)
      have hB27 := hK27.1



      obtain ⟨⟨g3, c3, rfl⟩, h41⟩ := (hq (7, _) List.mem_cons_self)
      clear hq
      have hB := hB.trans (hB27.mono hB.size)
      have hM1 := hM1b1.below hB hM1b1.lt
      have hM3 := hM3b1.below hB hM3b1.lt
      have hE := hEb1.kept hB
      have hSV := hSVb1.kept hB
      have hOw := hOwb1.kept hB
      have hD := hD.kept hB27
      refine tail_op 12 (by kernel_rfl) rfl hS (by decide) (app_ownV (B := w25.heap.size) (xs := O.take q ++ [Z]) (es := O.drop (q + 1)) (n := q + 1 + (O.length - (q + 1))) (by rw [hld.symm] at *; exact hD) (by rw [hl41, hld]; omega) hK27.1.size rfl (by rw [hl41]; exact h41) rfl (.inr (by simp)) (fun h => .inl (by rw [hld] at h; omega)) (by rw [hl41, hld])) (fun v29 w29 a29 hp hS => ⟨trivial, ?_⟩)
      obtain ⟨⟨g6, c6, rfl⟩, hown6, hK6, _, _⟩ := hp
      have hfO : O.take q ++ [Z] ++ O.drop (q + 1) = (L1.take (q + 1)).map (withV (kindL tg.data.toList) SN) ++ L1.drop (q + 1) := by
        rw [← hO, ← out_step (withV (kindL tg.data.toList) SN) L1 hy]
        rw [show Z = withV (kindL tg.data.toList) SN y by rw [← hZ]; unfold withV; rw [hca]]
      rw [hfO] at hown6
      have hOw6 := verts_own hown6 (by rw [← hfO, List.length_append, hl41, hld])
      refine tail_op 13 (by kernel_rfl) rfl hS (by decide) (runs_assign rfl) (fun v30 w30 a30 hp hS => ⟨trivial, ?_⟩)
      obtain ⟨rfl, rfl⟩ := hp
      refine wpAnyH_done (by kernel_rfl) ?_ _
      refine reg_seq ?_
      refine sI hS (runs_move rfl) fun _ hS => ?_
      refine sI hS (runs_add (r := ((q + 1 : Nat) : Int)) rfl rfl (by simp [IntKind.wrap, IntKind.bits, IntKind.signed]; omega)) fun _ hS => ?_
      refine sI hS (runs_assign rfl) fun _ hS => ?_
      exact nil_ok ⟨_, by omega, q + 1, _, by omega, rfl, hBb1.trans ((hB.trans (hK6.1.mono hsz8)).mono hBb1.size), hOw6, errF_take9 hez2 hy hyq (by rw [hca]; exact Classical.not_not.1 he), hS.only _ ⟨rfl, rfl, rfl, rfl, rfl, rfl, rfl, trivial⟩⟩
    refine sI hS (lssF rfl rfl (by omega)) fun _ hS => ?_
    obtain rfl : q = l.length := by omega
    refine nil_ok ⟨_, hS.eval rfl, fun _ => ?_, fun h => by simp at h⟩
    have hB := hBb1
    refine qx_seq (?_)
    refine reg_seq ?_
    refine sI hS (runs_move rfl) fun _ hS => ?_
    refine sI hS (runs_move rfl) fun _ hS => ?_
    refine seq_op hS (by decide) (runs_call (args := [sv]) goes31 rfl (rsort_any SN hsn sv wl1 hSV)) (fun v31 w31 a1 hp hS => ?_)
    obtain ⟨hB31, -, hso⟩ := hp
    have hSo := edges_ownE hso rfl
    have hB := hB.trans (hB31.mono hB.size)
    have hM1 := hM1b.below hB hM1b.lt
    have hM3 := hM3b.below hB hM3b.lt
    have hE := hE.kept hB31
    have hOw := hOw.kept hB31
    refine sI hS (runs_assign rfl) fun _ hS => ?_
    refine sI hS (runs_assign rfl) fun _ hS => ?_
    refine sI hS (runs_assign rfl) fun _ hS => ?_
    rw [List.take_of_length_le (by omega), List.drop_eq_nil_of_le (by omega), List.append_nil] at hOw
    rw [List.take_of_length_le (by omega)] at hez2
    have hE3 : errF (fun x => (cameL (kindL tg.data.toList) SN x.id).2.2) l = 0 := by
      have h := errF_zero.2 hez2
      rw [← h, ← hL1]
      exact (err_map (fun x hx => by show (cameL _ SN ((stepL n es (kindL tg.data.toList) src steps at_ x).1.id)).2.2 = _; rw [nstep_id (hez x hx)])).symm
    have hfin : nextL n es (kindL tg.data.toList) src steps at_ l = (l.map (cameV n es (kindL tg.data.toList) src steps at_ l), sortM SN, 0) := by have h := next_done h1 h2 hE1 (by rw [hSN]; exact hE3); rw [hSN] at h; exact h
    have hmap : L1.map (withV (kindL tg.data.toList) SN) = l.map (cameV n es (kindL tg.data.toList) src steps at_ l) := by rw [← hL1, List.map_map]; exact List.map_congr_left (fun x hx => by show withV _ SN (stepL n es (kindL tg.data.toList) src steps at_ x).1 = _; unfold withV cameV; rw [hSN, nstep_id (hez x hx)])
    rw [hmap] at hOw
    exact nil_ok (qx_ret (ret3 (t := 8) (u := 9) (r := 10) (by kernel_rfl) hS rfl rfl rfl ⟨_, rfl, _, _, by rw [hfin], by rw [hfin]; exact hOw, by rw [hfin]; exact hSo, (hBpre0.trans (((hBpre1.trans ((hB).mono hBpre1.size))).mono hBpre0.size))⟩))
  · skip
    refine reg_seq ?_
    refine sI hS (runs_loadRow rfl hM1 Tryz.underlying24 rfl (by rw [sz24]; rfl)) fun _ hS => ?_
    refine sI hS (runs_loadRow rfl hM3 Tryz.underlying26 rfl (by rw [sz26]; rfl)) fun _ hS => ?_
    refine seq_op hS (by decide) (runs_call (args := [gv n v, .agg (jc tg src steps).toArray]) goes19 rfl (right_any n es v tg src steps w3 hE)) (fun v33 w33 a1 hp hS => ?_)
    obtain ⟨rfl, hB33⟩ := hp
    rw [Bool.eq_false_iff.2 hj] at hS
    have hB := hB.trans (hB33.mono hB.size)
    refine sI hS (runs_not (b := false) rfl) fun _ hS => ?_
    refine sI hS (runs_move rfl) fun _ hS => ?_
    refine sN hS fun _ hS => ?_
    refine sN hS fun _ hS => ?_
    refine sI hS (runs_pick rfl rfl) fun _ hS => ?_
    refine sI hS (runs_move rfl) fun _ hS => ?_
    refine sN hS fun _ hS => ?_
    refine sN hS fun _ hS => ?_
    refine sN hS fun _ hS => ?_
    refine sN hS fun _ hS => ?_
    refine sI hS (runs_pick rfl rfl) fun _ hS => ?_
    refine nil_ok (wp_cond_true (hS.eval rfl) (qx_seq (reg_seq ?_)))
    refine sI hS (runs_assign rfl) fun _ hS => ?_
    refine sI hS (runs_assign rfl) fun _ hS => ?_
    refine sI hS (runs_assign rfl) fun _ hS => ?_
    have hfin : nextL n es (kindL tg.data.toList) src steps at_ l = ([], [], 70) := next_70 (by rw [Bool.eq_false_iff.2 hj]; rfl)
    exact nil_ok (qx_ret (ret3 (t := 8) (u := 9) (r := 10) (by kernel_rfl) hS rfl rfl rfl ⟨_, rfl, _, _, by rw [hfin]; try rfl, by rw [hfin]; exact verts_nil _, by rw [hfin]; exact edges_nil _, hB⟩))
end Go.Proofs.YtapcpmalgdhakaaGreat
/- Layer 9: the document's Run. Conditions: that there are at most 100 edges. -/
namespace Go.Proofs.YtapcpmalgdhakaaGreat
open Go.RowKit
set_option maxRecDepth 100000

set_option maxHeartbeats 2000000 in
theorem rwhole_any (n : Int) (es : List E) (hsm : es.length ≤ 100) (v : Value) (tg : ByteArray) (src steps : Int) (w : World) (hE : Edges w v es) : Ans 18 [gv n v, jv tg src steps] w (fun u w' => ∃ x, u = .tuple #[x, .int .i64 (((wholeL n es (kindL tg.data.toList) src steps).2.1 : Nat) : Int), .int .i64 (wholeL n es (kindL tg.data.toList) src steps).2.2] ∧ Nums w' x (wholeL n es (kindL tg.data.toList) src steps).1 ∧ Below w.heap.size w w') := by
  refine calls_qx (args := [gv n v, .agg (jc tg src steps).toArray]) 48 Tryz.func18 rfl (by kernel_rfl) (by simp) (fun a hS => ?_)
  have hB := Below.refl w.heap.size w
  have hEb := hE
  refine qx_seq (reg_seq ?_)
  refine seq_op hS (by decide) (runs_boxB (cs := [.int .i64 n, v]) rfl rfl) (fun v1 w1 a1 hp hS => ?_)
  obtain ⟨rfl, hM1, hB1⟩ := hp
  have hB := hB.trans (hB1.mono hB.size)
  have hE := hEb.kept hB
  refine seq_op hS (by decide) (runs_boxB (cs := jc tg src steps) rfl rfl) (fun v3 w3 a1 hp hS => ?_)
  obtain ⟨rfl, hM3, hB3⟩ := hp
  have hB := hB.trans (hB3.mono hB.size)
  have hM1 := hM1.below hB3 hM1.lt
  have hE := hEb.kept hB
  refine sI hS (runs_assign rfl) fun _ hS => ?_
  refine sI hS (runs_assign rfl) fun _ hS => ?_
  refine sI hS (runs_assign rfl) fun _ hS => ?_
  refine nil_ok (qx_seq (qx_seq (?_)))
  by_cases hj : jobB n es (kindL tg.data.toList) src steps = true
  · skip
    refine reg_seq ?_
    refine sI hS (runs_loadRow rfl hM1 Tryz.underlying24 rfl (by rw [sz24]; rfl)) fun _ hS => ?_
    refine sI hS (runs_loadRow rfl hM3 Tryz.underlying26 rfl (by rw [sz26]; rfl)) fun _ hS => ?_
    refine seq_op hS (by decide) (runs_call (args := [gv n v, .agg (jc tg src steps).toArray]) goes19 rfl (right_any n es v tg src steps w3 hE)) (fun v5 w5 a1 hp hS => ?_)
    obtain ⟨rfl, hB5⟩ := hp
    rw [hj] at hS
    have hB := hB.trans (hB5.mono hB.size)
    have hM1 := hM1.below hB5 hM1.lt
    have hM3 := hM3.below hB5 hM3.lt
    have hE := hEb.kept hB
    refine sI hS (runs_not (b := true) rfl) fun _ hS => ?_
    refine nil_ok (wp_cond_false (hS.eval rfl) (wp_skip (qx_seq (reg_seq ?_))))
    refine sI hS (runs_loadRow rfl hM1 Tryz.underlying24 rfl (by rw [sz24]; rfl)) fun _ hS => ?_
    refine sI hS (runs_loadRow rfl hM3 Tryz.underlying26 rfl (by rw [sz26]; rfl)) fun _ hS => ?_
    have hn1 := (job_n hj).1
    have hn64 := (job_n hj).2
    have hs1 := (job_iff.1 hj).2.2.2.2.1
    have hs64 := (job_iff.1 hj).2.2.2.2.2
    refine seq_op hS (by decide) (runs_call (args := [gv n v, .agg (jc tg src steps).toArray]) goes20 rfl (rstart_any n (by omega) (by omega) v tg (job_iff.1 hj).2.1 src steps w5)) (fun v7 w7 a1 hp hS => ?_)
    obtain ⟨hown, hB7⟩ := hp
    have hlS : (startL n (kindL tg.data.toList) src).length ≤ 64 := by rw [start_length]; omega
    have hV0 := verts_own hown rfl
    obtain ⟨x0, hx0⟩ : ∃ x, v7 = x := ⟨_, rfl⟩
    rw [hx0] at hS hV0
    have hB := hB.trans (hB7.mono hB.size)
    have hM1 := hM1.below hB7 hM1.lt
    have hM3 := hM3.below hB7 hM3.lt
    have hE := hEb.kept hB
    refine sI hS (runs_assign rfl) fun _ hS => ?_
    refine nil_ok (qx_seq (qx_seq (?_)))
    have hBpre0 := hB
    have hB := Below.refl w7.heap.size w7
    have hM1b := hM1
    have hM3b := hM3
    have hEb := hE
    refine reg_seq ?_
    refine sI hS (runs_assign rfl) fun _ hS => ?_
    refine nil_ok (?_)
    refine qx_for (fun mm a w' => ∃ (d : Nat) (L : List Vx) (lv : Value), d ≤ steps.toNat ∧ mm = steps.toNat - d ∧ Below w7.heap.size w7 w' ∧ Verts w' lv L ∧ loopL n es (kindL tg.data.toList) src steps (steps.toNat - d) d L = loopL n es (kindL tg.data.toList) src steps steps.toNat 0 (startL n (kindL tg.data.toList) src) ∧ L.length ≤ 64 ∧ Sees 48 [(8, .int .i64 (d : Int)), (7, lv), (3, .pointer (some ⟨w1.heap.size, 0, none⟩)), (2, .pointer (some ⟨w.heap.size, 0, none⟩))] a) steps.toNat ⟨0, startL n (kindL tg.data.toList) src, x0, by omega, by omega, hB, hV0, rfl, hlS, hS.only _ ⟨rfl, rfl, rfl, rfl, trivial⟩⟩ ?_
    clear hS 
    rintro mm a wl1 ⟨d, L, lv, hi1, rfl, hBb1, hLv, hF, hLl, hS⟩
    have hE := hEb.kept hBb1
    have hM1 := hM1b.below hBb1 hM1b.lt
    have hM3 := hM3b.below hBb1 hM3b.lt
    have hB := Below.refl wl1.heap.size wl1
    have hM1b1 := hM1
    have hM3b1 := hM3
    have hEb1 := hE
    have hLvb1 := hLv
    refine reg_seq ?_
    refine sI hS (runs_move rfl) fun _ hS => ?_
    refine sI hS (runs_fieldK fo26_2 rfl) fun _ hS => ?_
    refine sI hS (runs_load rfl pl3 (hM3.at rfl)) fun _ hS => ?_
    by_cases hlt1 : (d : Int) < steps
    · skip
      refine sI hS (lssT rfl rfl (by omega)) fun _ hS => ?_
      refine nil_ok ⟨_, hS.eval rfl, fun h => by simp at h, fun _ => ?_⟩
      refine qx_seq (qx_block (qx_seq (qx_seq (reg_seq ?_))))
      refine sI hS (runs_move rfl) fun _ hS => ?_
      refine seq_op hS (by decide) (runs_call (args := [lv]) goes12 rfl (rquiet_any L lv wl1 hLv)) (fun v9 w9 a1 hp hS => ?_)
      obtain ⟨rfl, hB9⟩ := hp
      have hB := hB.trans (hB9.mono hB.size)
      have hM1 := hM1b1.below hB hM1b1.lt
      have hM3 := hM3b1.below hB hM3b1.lt
      have hE := hEb1.kept hB
      have hLv := hLvb1.kept hB
      refine nil_ok (?_)
      by_cases hq : quietL L = true
      · skip
        rw [hq] at hS
        refine wp_cond_true (hS.eval rfl) (qx_seq (reg_seq ?_))
        refine sI hS (runs_move rfl) fun _ hS => ?_
        refine seq_op hS (by decide) (runs_call (args := [lv]) goes15 rfl (rvalues_any L lv w9 hLv (by omega))) (fun v11 w11 a1 hp hS => ?_)
        obtain ⟨hown9, hB11⟩ := hp
        have hB := hB.trans (hB11.mono hB.size)
        have hM1 := hM1b1.below hB hM1b1.lt
        have hM3 := hM3b1.below hB hM3b1.lt
        have hE := hEb1.kept hB
        have hLv := hLvb1.kept hB
        refine sI hS (runs_move rfl) fun _ hS => ?_
        refine sI hS (runs_assign rfl) fun _ hS => ?_
        refine sI hS (runs_assign rfl) fun _ hS => ?_
        refine sI hS (runs_assign rfl) fun _ hS => ?_
        have hfin : wholeL n es (kindL tg.data.toList) src steps = (valuesL L, d, 0) := by
          unfold wholeL
          rw [if_pos hj]
          exact hF.symm.trans (loop_quiet hq)
        exact nil_ok (qx_ret (ret3 (t := 4) (u := 5) (r := 6) (by kernel_rfl) hS rfl rfl rfl ⟨_, rfl, _, by rw [hfin]; try rfl, by rw [hfin]; exact nums_own hown9 rfl, (hBpre0.trans (((hBb1.trans ((hB).mono hBb1.size))).mono hBpre0.size))⟩))
      · skip
        rw [Bool.eq_false_iff.2 hq] at hS
        refine wp_cond_false (hS.eval rfl) (wp_skip (qx_seq (reg_seq ?_)))
        refine sI hS (runs_loadRow rfl hM1 Tryz.underlying24 rfl (by rw [sz24]; rfl)) fun _ hS => ?_
        refine sI hS (runs_loadRow rfl hM3 Tryz.underlying26 rfl (by rw [sz26]; rfl)) fun _ hS => ?_
        refine sI hS (runs_move rfl) fun _ hS => ?_
        refine sI hS (runs_move rfl) fun _ hS => ?_
        refine seq_op hS (by decide) (runs_call (args := [gv n v, .agg (jc tg src steps).toArray, .int .i64 (d : Int), lv]) goes8 rfl (rnext_any n es hsm v tg src steps (d : Int) L lv w9 hE hLv)) (fun v13 w13 a1 hp hS => ?_)
        obtain ⟨xn, yn, rfl, hNv, _, hB13⟩ := hp
        have hB := hB.trans (hB13.mono hB.size)
        have hM1 := hM1b1.below hB hM1b1.lt
        have hM3 := hM3b1.below hB hM3b1.lt
        have hE := hEb1.kept hB
        have hLv := hLvb1.kept hB
        obtain ⟨NX, hNX⟩ : ∃ r, nextL n es (kindL tg.data.toList) src steps (d : Int) L = r := ⟨_, rfl⟩
        rw [hNX] at hS hNv
        have hqf : quietL L = false := Bool.eq_false_iff.2 hq
        refine sI hS (runs_move rfl) fun _ hS => ?_
        refine sI hS (runs_extract rfl rfl) fun _ hS => ?_
        refine sI hS (runs_extract rfl rfl) fun _ hS => ?_
        refine sI hS (runs_extract rfl rfl) fun _ hS => ?_
        refine sI hS (runs_assign rfl) fun _ hS => ?_
        refine sI hS (runs_assign rfl) fun _ hS => ?_
        refine sI hS (runs_assign rfl) fun _ hS => ?_
        refine nil_ok (qx_seq (qx_seq (reg_seq ?_)))
        refine sI hS (runs_move rfl) fun _ hS => ?_
        by_cases he : NX.2.2 ≠ 0
        · skip
          refine sI hS (runs_neq (r := true) rfl rfl (by simpa using he)) fun _ hS => ?_
          refine nil_ok (wp_cond_true (hS.eval rfl) (qx_seq (reg_seq ?_)))
          refine sI hS (runs_move rfl) fun _ hS => ?_
          refine sI hS (runs_move rfl) fun _ hS => ?_
          refine sI hS (runs_assign rfl) fun _ hS => ?_
          refine sI hS (runs_assign rfl) fun _ hS => ?_
          refine sI hS (runs_assign rfl) fun _ hS => ?_
          have hfin : wholeL n es (kindL tg.data.toList) src steps = ([], d, NX.2.2) := by
            unfold wholeL
            rw [if_pos hj]
            refine hF.symm.trans ?_
            have h := loop_bad (n := n) (es := es) (k := (kindL tg.data.toList)) (src := src) (steps := steps) (d := d) (S := steps.toNat) (by omega) hqf (by rw [hNX]; exact he)
            rw [hNX] at h
            exact h
          exact nil_ok (qx_ret (ret3 (t := 4) (u := 5) (r := 6) (by kernel_rfl) hS rfl rfl rfl ⟨_, rfl, _, by rw [hfin]; try rfl, by rw [hfin]; exact nums_nil _, (hBpre0.trans (((hBb1.trans ((hB).mono hBb1.size))).mono hBpre0.size))⟩))
        refine sI hS (runs_neq (r := false) rfl rfl (by simpa using he)) fun _ hS => ?_
        refine nil_ok (wp_cond_false (hS.eval rfl) (wp_skip (reg_seq ?_)))
        refine sI hS (runs_move rfl) fun _ hS => ?_
        refine sI hS (runs_assign rfl) fun _ hS => ?_
        refine nil_ok (reg_seq ?_)
        refine sI hS (runs_move rfl) fun _ hS => ?_
        refine sI hS (runs_add (r := ((d + 1 : Nat) : Int)) rfl rfl (by simp [IntKind.wrap, IntKind.bits, IntKind.signed]; omega)) fun _ hS => ?_
        refine sI hS (runs_assign rfl) fun _ hS => ?_
        have he0 : (nextL n es (kindL tg.data.toList) src steps (d : Int) L).2.2 = 0 := by rw [hNX]; exact Classical.not_not.1 he
        have hst := loop_step (S := steps.toNat) (by omega) hqf he0
        have hln := next_length he0
        rw [hNX] at hst hln
        exact nil_ok ⟨_, by omega, d + 1, NX.1, xn, by omega, rfl, hBb1.trans (hB.mono hBb1.size), hNv, hst.trans hF, by omega, hS.only _ ⟨rfl, rfl, rfl, rfl, trivial⟩⟩
    refine sI hS (lssF rfl rfl (by omega)) fun _ hS => ?_
    refine nil_ok ⟨_, hS.eval rfl, fun _ => ?_, fun h => by simp at h⟩
    have hB := hBb1.trans (hB.mono hBb1.size)
    refine qx_seq (?_)
    have hlv0 : (d : Int) = steps := by omega
    refine reg_guard (fun w' => Below wl1.heap.size wl1 w') [.inl (lv), .inr (fun u w' => w'.ownsRow wl1.heap.size 2 1 u (valuesL L).length (cellsI (valuesL L))), .inl (.pointer (some ⟨w1.heap.size, 0 + 2, none⟩)), .inl (.int .i64 steps), .inr (fun u w' => w'.ownsRow wl1.heap.size 2 1 u (valuesL L).length (cellsI (valuesL L))), .inl (.int .i64 steps), .inl (.int .i64 0)] 7 0 mixed rfl (by kernel_rfl) hS (Below.refl _ _) (fun _ h => h.drew) ?_
    refine hs_is rfl (fun w' hw => runs_move rfl) ?_
    refine hs_pr rfl (fun _ _ _ h hb => owns_kept h hb) (fun w' hw hq => (runs_call (args := [lv]) goes15 rfl (rvalues_any L lv w' (hLv.kept hw) (by omega))).mono (by rintro u w3 ⟨h1, h2⟩; exact ⟨owns_mono h1 hw.size, hw.trans (h2.mono hw.size), h2⟩)) (fun u1 => ?_)
    refine hs_is rfl (fun w' hw => runs_fieldK fo26_2 rfl) ?_
    refine hs_is rfl (fun w' hw => runs_load rfl pl3 ((hM3.below hw hM3.lt).at rfl)) ?_
    refine hs_pr rfl (fun _ _ _ h hb => owns_kept h hb) (fun w' hw hq => (by have h := hq (1, _) List.mem_cons_self (by kernel_rfl); exact (runs_assign rfl).mono (by rintro v w5 ⟨rfl, rfl⟩; exact ⟨h, hw, Below.refl _ _⟩))) (fun u4 => ?_)
    refine hs_is rfl (fun w' hw => runs_assign rfl) ?_
    refine hs_is rfl (fun w' hw => runs_assign rfl) ?_
    refine (fun a15 w15 hS hB15 hq => ?_)

    have hown9 := (hq (4, _) List.mem_cons_self)
    clear hq
    have hB := hB.trans (hB15.mono hB.size)
    have hM1 := hM1b.below hB hM1b.lt
    have hM3 := hM3b.below hB hM3b.lt
    have hE := hE.kept hB15
    refine wpAnyH_done (by kernel_rfl) ?_ _
    have hfin : wholeL n es (kindL tg.data.toList) src steps = (valuesL L, d, 0) := by
      unfold wholeL
      rw [if_pos hj]
      exact hF.symm.trans (loop_all (by omega))
    exact qx_ret (ret3 (t := 4) (u := 5) (r := 6) (by kernel_rfl) hS rfl rfl rfl ⟨_, rfl, _, by rw [hfin, ← hlv0]; try rfl, by rw [hfin]; exact nums_own hown9 rfl, (hBpre0.trans ((hB).mono hBpre0.size))⟩)
  · skip
    refine reg_seq ?_
    refine sI hS (runs_loadRow rfl hM1 Tryz.underlying24 rfl (by rw [sz24]; rfl)) fun _ hS => ?_
    refine sI hS (runs_loadRow rfl hM3 Tryz.underlying26 rfl (by rw [sz26]; rfl)) fun _ hS => ?_
    refine seq_op hS (by decide) (runs_call (args := [gv n v, .agg (jc tg src steps).toArray]) goes19 rfl (right_any n es v tg src steps w3 hE)) (fun v17 w17 a1 hp hS => ?_)
    obtain ⟨rfl, hB17⟩ := hp
    rw [Bool.eq_false_iff.2 hj] at hS
    have hB := hB.trans (hB17.mono hB.size)
    refine sI hS (runs_not (b := false) rfl) fun _ hS => ?_
    refine nil_ok (wp_cond_true (hS.eval rfl) (qx_seq (reg_seq ?_)))
    refine sI hS (runs_assign rfl) fun _ hS => ?_
    refine sI hS (runs_assign rfl) fun _ hS => ?_
    refine sI hS (runs_assign rfl) fun _ hS => ?_
    have hfin : wholeL n es (kindL tg.data.toList) src steps = ([], 0, 70) := by unfold wholeL; rw [if_neg hj]
    exact nil_ok (qx_ret (ret3 (t := 4) (u := 5) (r := 6) (by kernel_rfl) hS rfl rfl rfl ⟨_, rfl, _, by rw [hfin]; try rfl, by rw [hfin]; exact nums_nil _, hB⟩))
end Go.Proofs.YtapcpmalgdhakaaGreat
