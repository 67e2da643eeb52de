/- Layer 8: Came. Conditions: none of our own. -/
import Derived.Test.YtapcpmalgdhakaaFTop
namespace Go.Proofs.Ytapcpmalgdhakaa
open Go.RowKit
set_option maxRecDepth 100000

/-- What is folded on, of those behind the first one. -/
def foldC (k : Nat) : Int → List E → Int × Bool × Int
  | n, [] => (n, true, 0)
  | n, m :: r => if (foldL k n m.2.2).2 ≠ 0 then (0, false, (foldL k n m.2.2).2) else foldC k (foldL k n m.2.2).1 r
def cameO (k : Nat) : List E → Int × Bool × Int
  | [] => (0, false, 0)
  | x :: r => if great x.2.2 then (0, false, 71) else foldC k x.2.2 r
/-- What messages to a vertex come to. -/
def cameL (k : Nat) (l : List E) (v : Int) : Int × Bool × Int := if k = 0 then (0, false, 70) else cameO k (toL l v)
theorem toL_length (l : List E) (v : Int) : (toL l v).length ≤ l.length := by
  unfold toL; rw [sortM_length]; exact List.length_filter_le _ _
theorem fromL_length (l : List E) (v : Int) : (fromL l v).length ≤ l.length := by
  unfold fromL; rw [sortM_length]; exact List.length_filter_le _ _
theorem toL_sub {l : List E} {v : Int} {e : E} (h : e ∈ toL l v) : e ∈ l ∧ e.2.1 = v := by
  unfold toL at h; rw [sortM_mem, List.mem_filter] at h; exact ⟨h.1, by simpa using h.2⟩
theorem fromL_sub {l : List E} {v : Int} {e : E} (h : e ∈ fromL l v) : e ∈ l ∧ e.1 = v := by
  unfold fromL at h; rw [sortM_mem, List.mem_filter] at h; exact ⟨h.1, by simpa using h.2⟩
theorem edges_drop1 {w : World} {A : Option Addr} {c : Nat} {x : E} {r : List E} (h : Edges w (.slice A (x :: r).length c) (x :: r)) : Edges w (.slice (if c = 1 then A else A.map (·.add (1 * 3))) r.length (c - 1)) r := by
  have := edges_drop h 1 (by simp)
  simpa using this
section
variable {P : Program} {L : List (Nat × Value)} {w : World} {ty : TypeId}
theorem runs_sliceRest {t e : TypeId} {x lo : Operand} {A B : Option Addr} {m c : Nat} (hx : vals L x = some (.slice A (m + 1) c)) (hlo : vals L lo = some (.int .i64 1)) (hu : P.underlying t = some (.slice e)) (hs : (P.info? e).map (·.size) = some 3) (hA : (if c = 1 then A else A.map (·.add (1 * 3))) = B) :
    Runs P (.slice t x (some lo) none none) ty L w (Is (.slice B m (c - 1)) w) := by
  have := runs_sliceFromG (ty := ty) (w := w) hx hlo (l := 1) rfl hu hs (by omega)
  rw [hA] at this
  exact this
end
set_option maxHeartbeats 1000000 in
theorem came_any (tg : ByteArray) (es : List E) (hsm : es.length ≤ 10000) (x : Int) (v : Value) (w : World) (hE : Edges w v es) : Ans 29 [.string tg, v, .int .i64 x] w (fun u w' => u = .tuple #[.int .i64 (cameL (kindL tg.data.toList) es x).1, .bool (cameL (kindL tg.data.toList) es x).2.1, .int .i64 (cameL (kindL tg.data.toList) es x).2.2] ∧ Below w.heap.size w w') := by
  refine calls_qx (args := [.string tg, v, .int .i64 x]) 49 Try.func29 rfl (by kernel_rfl) (by simp) (fun a hS => ?_)
  have hB := Below.refl w.heap.size w
  refine qx_seq (reg_seq ?_)
  refine sI hS (runs_assign rfl) fun _ hS => ?_
  refine sI hS (runs_assign rfl) fun _ hS => ?_
  refine sI hS (runs_assign rfl) fun _ hS => ?_
  refine nil_ok (qx_seq (qx_seq (reg_seq ?_)))
  refine sI hS (runs_move rfl) fun _ hS => ?_
  by_cases hk : (kindL tg.data.toList) ≠ 0
  · skip
    refine sI hS (runs_call (args := [.string tg]) goes32 rfl (known_is _ w (b := true) (by simpa using hk))) fun _ hS => ?_
    refine sI hS (runs_not (b := true) rfl) fun _ hS => ?_
    refine nil_ok (wp_cond_false (hS.eval rfl) (wp_skip (qx_seq (reg_seq ?_))))
    refine sI hS (runs_move rfl) fun _ hS => ?_
    refine sI hS (runs_move rfl) fun _ hS => ?_
    refine seq_op hS (by decide) (runs_call (args := [v, .int .i64 x]) goes40 rfl (to_any es hsm x v w hE)) (fun v1 w1 a1 hp hS => ?_)
    obtain ⟨hB1, hT⟩ := hp
    have hT := hT.edges
    obtain ⟨l, hl⟩ : ∃ l, toL es x = l := ⟨_, rfl⟩
    have hlen := toL_length es x
    rw [hl] at hT hlen
    obtain ⟨A, c, rfl, hc1, hc2, hA⟩ := hT
    have hT : Edges w1 (.slice A l.length c) l := ⟨A, c, rfl, hc1, hc2, hA⟩
    have hB := hB.trans (hB1.mono hB.size)
    refine sI hS (runs_assign rfl) fun _ hS => ?_
    refine nil_ok (qx_seq (qx_seq (reg_seq ?_)))
    refine sI hS (runs_move rfl) fun _ hS => ?_
    refine sI hS (runs_len rfl und32) fun _ hS => ?_
    by_cases h0 : l = []
    · skip
      refine sI hS (runs_eql (r := true) rfl rfl (by simp [h0])) fun _ hS => ?_
      refine nil_ok (wp_cond_true (hS.eval rfl) (qx_seq (reg_seq ?_)))
      refine sI hS (runs_assign rfl) fun _ hS => ?_
      refine sI hS (runs_assign rfl) fun _ hS => ?_
      refine sI hS (runs_assign rfl) fun _ hS => ?_
      have hfin : cameL (kindL tg.data.toList) es x = (0, false, 0) := by unfold cameL; rw [if_neg hk, hl, h0]; rfl
      exact nil_ok (qx_ret (ret3 (t := 6) (u := 7) (r := 8) (by kernel_rfl) hS rfl rfl rfl ⟨_, rfl, by rw [hfin], hB⟩))
    refine sI hS (runs_eql (r := false) rfl rfl (by rw [beq_eq_false_iff_ne]; intro h; exact h0 (List.eq_nil_of_length_eq_zero (by omega)))) fun _ hS => ?_
    refine nil_ok (wp_cond_false (hS.eval rfl) (wp_skip (qx_seq (?_))))
    obtain ⟨y, r, rfl⟩ : ∃ y r, l = y :: r := by cases l with | nil => exact absurd rfl h0 | cons y r => exact ⟨y, r, rfl⟩
    obtain ⟨b, o, rfl, hbw, hr⟩ := edges_row hT (by simp)
    have hry := edges_at (i := 0) hr rfl
    obtain ⟨A9, hA9⟩ : ∃ A9, (if c = 1 then some (⟨b, o, none⟩ : Addr) else (some (⟨b, o, none⟩ : Addr)).map (·.add (1 * 3))) = A9 := ⟨_, rfl⟩
    have hR := edges_drop1 hT
    rw [hA9] at hR
    have hrl : r.length ≤ 10000 := by simp at hlen; omega
    refine reg_seq ?_
    refine sI hS (runs_move rfl) fun _ hS => ?_
    refine sI hS (runs_indexAddrG (j := 0) rfl rfl und32 sz48 rfl (by simp)) fun _ hS => ?_
    refine sI hS (runs_fieldK fo48_2 rfl) fun _ hS => ?_
    refine sI hS (runs_load rfl pl2 (hry 2 _ rfl)) fun _ hS => ?_
    refine sI hS (runs_assign rfl) fun _ hS => ?_
    refine nil_ok (qx_seq (qx_seq (reg_seq ?_)))
    refine sI hS (runs_move rfl) fun _ hS => ?_
    by_cases hg : great y.2.2 = true
    · skip
      refine sI hS (runs_call (args := [.int .i64 y.2.2]) goes41 rfl (fgreat_is w1 hg)) fun _ hS => ?_
      refine nil_ok (wp_cond_true (hS.eval rfl) (qx_seq (reg_seq ?_)))
      refine sI hS (runs_assign rfl) fun _ hS => ?_
      refine sI hS (runs_assign rfl) fun _ hS => ?_
      refine sI hS (runs_assign rfl) fun _ hS => ?_
      have hfin : cameL (kindL tg.data.toList) es x = (0, false, 71) := by unfold cameL; rw [if_neg hk, hl, cameO, if_pos hg]
      exact nil_ok (qx_ret (ret3 (t := 6) (u := 7) (r := 8) (by kernel_rfl) hS rfl rfl rfl ⟨_, rfl, by rw [hfin], hB⟩))
    refine sI hS (runs_call (args := [.int .i64 y.2.2]) goes41 rfl (fgreat_is w1 (Bool.eq_false_iff.2 hg))) fun _ hS => ?_
    refine nil_ok (wp_cond_false (hS.eval rfl) (wp_skip (qx_seq (qx_seq (reg_seq ?_)))))
    refine sI hS (runs_move rfl) fun _ hS => ?_
    refine sI hS (runs_sliceRest rfl rfl und32 sz48 hA9) fun _ hS => ?_
    refine sI hS (runs_len rfl und32) fun _ hS => ?_
    refine sI hS (runs_move rfl) fun _ hS => ?_
    refine nil_ok (?_)
    have hBo1 := hB
    refine qx_range (fun mm a w' => ∃ (i : Nat) (n : Int), i ≤ r.length ∧ mm = r.length - i ∧ Below w1.heap.size w1 w' ∧ foldC (kindL tg.data.toList) y.2.2 r = foldC (kindL tg.data.toList) n (r.drop i) ∧ Sees 49 [(32, .int .i64 (i : Int)), (31, .int .i64 ((r.length : Nat) : Int)), (30, .slice A9 r.length (c - 1)), (10, .int .i64 n), (0, .string tg)] a) r.length ⟨0, y.2.2, by omega, by omega, Below.refl _ _, by simp, hS.only _ ⟨rfl, rfl, rfl, rfl, rfl, trivial⟩⟩ ?_
    clear hS
    rintro mm a wl1 ⟨i, n, hi1, rfl, hBl1, hF, hS⟩
    have hR := hR.kept hBl1
    have hB := Below.refl wl1.heap.size wl1
    refine reg_seq ?_
    by_cases hlt1 : i < r.length
    · skip
      refine sI hS (lssT rfl rfl (by omega)) fun _ hS => ?_
      refine nil_ok ⟨_, hS.eval rfl, fun h => by simp at h, fun _ => ?_⟩
      obtain ⟨e, hei⟩ : ∃ e, r[i]? = some e := ⟨r[i], by simp [hlt1]⟩
      obtain ⟨b9, o9, rfl, hbw9, hr9⟩ := edges_row hR (by omega)
      have hre := edges_at hr9 hei
      have hdr : r.drop i = e :: r.drop (i + 1) := List.drop_eq_getElem?_toList_append.trans (by rw [hei]; rfl)
      rw [hdr] at hF
      refine qx_seq (qx_block (qx_seq (reg_seq ?_)))
      refine sI hS (runs_indexAddrG (j := i) rfl rfl und32 sz48 rfl hlt1) fun _ hS => ?_
      refine sI hS (runs_loadM rfl hre) fun _ hS => ?_
      refine seq_op hS (by decide) (runs_allocB (cs := [.int .i64 0, .int .i64 0, .int .i64 0]) zo48 rfl) (fun v3 w3 a1 hp hS => ?_)
      obtain ⟨rfl, hM3, hB3⟩ := hp
      have hLhM3 : wl1.heap.size ≤ wl1.heap.size := hB.size
      have hB := hB.trans (hB3.mono hB.size)
      refine seq_none hS (runs_storeB (cs := encE e) rfl rfl hM3 rfl rfl sz48) (fun v5 w5 a1 hp hS => ?_)
      obtain ⟨hM3, hU5⟩ := hp
      have hB := But.new hB hU5 (fun i e => by rw [e]; exact hLhM3) (Nat.le_refl _)
      refine nil_ok (qx_seq (reg_seq ?_))
      refine sI hS (runs_assign rfl) fun _ hS => ?_
      refine nil_ok (qx_seq (reg_seq ?_))
      refine sI hS (runs_move rfl) fun _ hS => ?_
      refine sI hS (runs_move rfl) fun _ hS => ?_
      refine sI hS (runs_fieldK fo48_2 rfl) fun _ hS => ?_
      refine sI hS (runs_load rfl pl2 (hM3.at rfl)) fun _ hS => ?_
      refine seq_op hS (by decide) (runs_call (args := [.string tg, .int .i64 n, .int .i64 e.2.2]) goes42 rfl (fold_any tg n e.2.2 w5)) (fun v7 w7 a1 hp hS => ?_)
      obtain ⟨rfl, rfl⟩ := hp
      refine sI hS (runs_move rfl) fun _ hS => ?_
      refine sI hS (runs_extract rfl rfl) fun _ hS => ?_
      refine sI hS (runs_extract rfl rfl) fun _ hS => ?_
      refine sI hS (runs_assign rfl) fun _ hS => ?_
      refine sI hS (runs_assign rfl) fun _ hS => ?_
      refine nil_ok (qx_seq (reg_seq ?_))
      refine sI hS (runs_move rfl) fun _ hS => ?_
      by_cases he : (foldL (kindL tg.data.toList) n e.2.2).2 ≠ 0
      · skip
        refine sI hS (runs_neq (r := true) rfl rfl (by simpa using he)) fun _ hS => ?_
        refine nil_ok (wp_cond_true (hS.eval rfl) (qx_seq (reg_seq ?_)))
        refine sI hS (runs_move rfl) fun _ hS => ?_
        refine sI hS (runs_assign rfl) fun _ hS => ?_
        refine sI hS (runs_assign rfl) fun _ hS => ?_
        refine sI hS (runs_assign rfl) fun _ hS => ?_
        have hfin : cameL (kindL tg.data.toList) es x = (0, false, (foldL (kindL tg.data.toList) n e.2.2).2) := by unfold cameL; rw [if_neg hk, hl, cameO, if_neg hg, hF, foldC, if_pos he]
        exact nil_ok (qx_ret (ret3 (t := 6) (u := 7) (r := 8) (by kernel_rfl) hS rfl rfl rfl ⟨_, rfl, by rw [hfin]; rfl, hBo1.trans ((hBl1.trans ((hB).mono hBl1.size)).mono hBo1.size)⟩))
      refine sI hS (runs_neq (r := false) rfl rfl (by simpa using he)) fun _ hS => ?_
      refine nil_ok (wp_cond_false (hS.eval rfl) (wp_skip (reg_seq ?_)))
      refine sI hS (runs_add (r := ((i + 1 : Nat) : Int)) rfl rfl (by simp [IntKind.wrap, IntKind.bits, IntKind.signed]; omega)) fun _ hS => ?_
      refine sI hS (runs_move rfl) fun _ hS => ?_
      exact nil_ok ⟨_, by omega, i + 1, (foldL (kindL tg.data.toList) n e.2.2).1, by omega, rfl, hBl1.trans (hB.mono hBl1.size), by rw [hF, foldC, if_neg he], hS.only _ ⟨rfl, rfl, rfl, rfl, rfl, trivial⟩⟩
    refine sI hS (lssF rfl rfl (by omega)) fun _ hS => ?_
    obtain rfl : i = r.length := by omega
    refine nil_ok ⟨_, hS.eval rfl, fun _ => ?_, fun h => by simp at h⟩
    have hB := hBo1.trans ((hBl1.trans (hB.mono hBl1.size)).mono hBo1.size)
    rw [List.drop_length] at hF
    refine qx_seq (reg_seq ?_)
    refine sI hS (runs_move rfl) fun _ hS => ?_
    refine sI hS (runs_assign rfl) fun _ hS => ?_
    refine sI hS (runs_assign rfl) fun _ hS => ?_
    refine sI hS (runs_assign rfl) fun _ hS => ?_
    have hfin : cameL (kindL tg.data.toList) es x = (n, true, 0) := by unfold cameL; rw [if_neg hk, hl, cameO, if_neg hg, hF]; rfl
    exact nil_ok (qx_ret (ret3 (t := 6) (u := 7) (r := 8) (by kernel_rfl) hS rfl rfl rfl ⟨_, rfl, by rw [hfin], hB⟩))
  refine sI hS (runs_call (args := [.string tg]) goes32 rfl (known_is _ w (b := false) (by simpa using hk))) fun _ hS => ?_
  refine sI hS (runs_not (b := false) rfl) fun _ hS => ?_
  refine nil_ok (wp_cond_true (hS.eval rfl) (qx_seq (reg_seq ?_)))
  refine sI hS (runs_assign rfl) fun _ hS => ?_
  refine sI hS (runs_assign rfl) fun _ hS => ?_
  refine sI hS (runs_assign rfl) fun _ hS => ?_
  have hfin : cameL (kindL tg.data.toList) es x = (0, false, 70) := by unfold cameL; rw [if_pos (Classical.not_not.1 hk)]
  exact nil_ok (qx_ret (ret3 (t := 6) (u := 7) (r := 8) (by kernel_rfl) hS rfl rfl rfl ⟨_, rfl, by rw [hfin], hB⟩))
end Go.Proofs.Ytapcpmalgdhakaa
