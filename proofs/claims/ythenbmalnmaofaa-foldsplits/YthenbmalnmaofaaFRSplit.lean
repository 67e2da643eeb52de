/- Layer 8: the document's Split. Conditions: that each To is a whole number of 64 bits. -/
import Derived.Test.YthenbmalnmaofaaFParts
namespace Go.Proofs.Ythenbmalnmaofaa
open Go.RowKit
open Part (own)
set_option maxRecDepth 100000

section
variable {L : List (Nat × Value)} {w : World} {ty : TypeId}
theorem none_ownMM {B : Nat} (hB : B ≤ w.heap.size) : Runs Try.prog (.buildSlice 34 0 #[]) ty L w (fun v w' => w'.ownsRow B 22 1 v 0 [] ∧ Below w.heap.size w w') := by
  obtain ⟨i3, hi3, hz3, hs3, hb3⟩ := info_parts infM
  exact (runs_buildNone undMM hi3).mono (by rintro v w3 ⟨rfl, rfl⟩; exact ⟨⟨rfl, .inr ⟨_, 0, #[], rfl, hB, heap_alloc_new _ _, Nat.le_refl _, by unfold maxLen; omega, rfl, rfl⟩⟩, (Below.refl _ _).alloc (Nat.le_refl _) _⟩)
end
theorem snoc_get {α : Type} {xs : List α} {x u : α} {j : Nat} (h : (xs ++ [x])[j]? = some u) : (xs[j]? = some u ∧ j < xs.length) ∨ (j = xs.length ∧ u = x) := by
  rw [List.getElem?_append] at h
  split at h
  · rename_i hj; exact .inl ⟨h, hj⟩
  · rename_i hj
    have h1 := (List.getElem?_eq_some_iff.1 h).1
    simp at h1
    have h2 : j = xs.length := by omega
    subst h2
    simp at h
    exact .inr ⟨rfl, h.symm⟩
set_option maxHeartbeats 1000000 in
theorem rsplit_any (k : Int) (l : List E) (hsm : l.length ≤ 10000) (hto : ∀ e ∈ l, e.2.1 < 9223372036854775808) (v : Value) (w : World) (hE : Edges w v l) : Ans 21 [.int .i64 k, v] w (fun u w' => Below w.heap.size w w' ∧ ∃ x, u = .tuple #[x, .bool (splitOk k l)] ∧ (splitOk k l = true → RowsM w' x (splitL k l)) ∧ (splitOk k l = false → x = .slice none 0 0)) := by
  obtain ⟨A, c, rfl, h1, h2, hA⟩ := hE
  have hE : Edges w (.slice A l.length c) l := ⟨A, c, rfl, h1, h2, hA⟩
  refine calls_qx (args := [.int .i64 k, .slice A l.length c]) 57 Try.func21 rfl (by kernel_rfl) (by simp) (fun a hS => ?_)
  have hB := Below.refl w.heap.size w
  have hEb := hE
  refine qx_seq (reg_seq ?_)
  refine sI hS (runs_assign rfl) fun _ hS => ?_
  refine sI hS (runs_assign rfl) fun _ hS => ?_
  refine nil_ok (qx_seq (qx_seq (reg_seq ?_)))
  refine sI hS (runs_move rfl) fun _ hS => ?_
  by_cases k1 : k < 1
  · skip
    refine sI hS (lssT rfl rfl (by omega)) fun _ hS => ?_
    refine sI hS (runs_move rfl) fun _ hS => ?_
    refine sN hS fun _ hS => ?_
    refine sN hS fun _ hS => ?_
    refine sI hS (runs_pick rfl rfl) fun _ hS => ?_
    refine nil_ok (wp_cond_true (hS.eval rfl) (qx_seq (reg_seq ?_)))
    refine sI hS (runs_assign rfl) fun _ hS => ?_
    refine sI hS (runs_assign rfl) fun _ hS => ?_
    have hok : splitOk k l = false := by unfold splitOk; simp; omega
    exact nil_ok (qx_ret (ret2 (t := 4) (u := 5) (by kernel_rfl) hS rfl rfl ⟨_, rfl, hB, _, by rw [hok], (fun h => by rw [hok] at h; cases h), fun _ => rfl⟩))
  refine sI hS (lssF rfl rfl (by omega)) fun _ hS => ?_
  refine sI hS (runs_move rfl) fun _ hS => ?_
  refine sY hS (runs_move rfl) fun _ hS => ?_
  by_cases k2 : k > 64
  · skip
    refine sY hS (gtrT rfl rfl (by omega)) fun _ hS => ?_
    refine sI hS (runs_pick rfl rfl) fun _ hS => ?_
    refine nil_ok (wp_cond_true (hS.eval rfl) (qx_seq (reg_seq ?_)))
    refine sI hS (runs_assign rfl) fun _ hS => ?_
    refine sI hS (runs_assign rfl) fun _ hS => ?_
    have hok : splitOk k l = false := by unfold splitOk; simp; omega
    exact nil_ok (qx_ret (ret2 (t := 4) (u := 5) (by kernel_rfl) hS rfl rfl ⟨_, rfl, hB, _, by rw [hok], (fun h => by rw [hok] at h; cases h), fun _ => rfl⟩))
  refine sY hS (gtrF rfl rfl (by omega)) fun _ hS => ?_
  refine sI hS (runs_pick rfl rfl) fun _ hS => ?_
  refine nil_ok (wp_cond_false (hS.eval rfl) (wp_skip (qx_seq (?_))))
  obtain ⟨n, rfl⟩ : ∃ n : Nat, k = n := ⟨k.toNat, by omega⟩
  refine reg_seq ?_
  refine seq_op hS (by decide) (none_ownMM (B := w.heap.size) hB.size) (fun v1 w1 a1 hp hS => ?_)
  obtain ⟨hsv, hB1⟩ := hp
  have hB := hB.trans (hB1.mono hB.size)
  have hE := hEb.kept hB
  refine sI hS (runs_assign rfl) fun _ hS => ?_
  refine nil_ok (qx_seq (qx_seq (reg_seq ?_)))
  refine sI hS (runs_assign rfl) fun _ hS => ?_
  refine nil_ok (?_)
  refine qx_for (fun mm a w' => ∃ (i : Nat) (vs : List Value) (sv : Value), i ≤ n ∧ mm = n - i ∧ Below w.heap.size w w' ∧ w'.ownsRow w.heap.size 22 1 sv i vs ∧ (∀ (j : Nat) (u : Value), vs[j]? = some u → w'.ownsRow w.heap.size 41 3 u (sortM (ptL (n : Int) l j)).length (cellsE (sortM (ptL (n : Int) l j)))) ∧ (0 < i → ∀ x ∈ l, 0 ≤ x.2.1) ∧ Sees 57 [(7, .int .i64 (i : Int)), (6, sv), (1, .slice A l.length c), (0, .int .i64 (n : Int))] a) n ⟨0, [], _, by omega, by omega, hB, hsv, (fun j u hj => by simp at hj), (fun h => absurd h (by omega)), hS.only _ ⟨rfl, rfl, rfl, rfl, trivial⟩⟩ ?_
  clear hS hsv
  rintro mm a wl1 ⟨i, vs, sv, hi1, rfl, hBb1, hsv, hrows, hng0, hS⟩
  have hBsz1 := hBb1.size
  have hE := hEb.kept hBb1
  have hB := Below.refl wl1.heap.size wl1
  have hEb1 := hE
  refine reg_seq ?_
  refine sI hS (runs_move rfl) fun _ hS => ?_
  refine sI hS (runs_move rfl) fun _ hS => ?_
  by_cases hlt1 : i < n
  · skip
    refine sI hS (lssT rfl rfl (by omega)) fun _ hS => ?_
    refine nil_ok ⟨_, hS.eval rfl, fun h => by simp at h, fun _ => ?_⟩
    have hsvb := hsv
    have hrowsb := hrows
    refine qx_seq (qx_block (qx_seq (reg_seq ?_)))
    refine seq_op hS (by decide) (none_ownM (B := wl1.heap.size) hB.size) (fun v3 w3 a1 hp hS => ?_)
    obtain ⟨⟨g, rfl, h0⟩, hB3⟩ := hp
    have hB := hB.trans (hB3.mono hB.size)
    have hE := hEb1.kept hB
    have hsv := owns_kept hsv hB3
    have hrows := (fun j u hj => owns_kept (hrows j u hj) hB3)
    refine sI hS (runs_assign rfl) fun _ hS => ?_
    refine nil_ok (qx_seq (qx_seq (reg_seq ?_)))
    refine sI hS (runs_assign rfl) fun _ hS => ?_
    refine nil_ok (?_)
    refine qx_for (fun mm a w' => ∃ (j : Nat) (hv : Value), j ≤ l.length ∧ mm = l.length - j ∧ Below wl1.heap.size wl1 w' ∧ w'.ownsRow wl1.heap.size 41 3 hv (ptL (n : Int) (l.take j) i).length (cellsE (ptL (n : Int) (l.take j) i)) ∧ (∀ x ∈ l.take j, 0 ≤ x.2.1) ∧ Sees 57 [(9, .int .i64 (j : Int)), (8, hv), (7, .int .i64 (i : Int)), (6, sv), (1, .slice A l.length c), (0, .int .i64 (n : Int))] a) l.length ⟨0, _, by omega, by omega, hB, h0, (fun x hx => by simp at hx), hS.only _ ⟨rfl, rfl, rfl, rfl, rfl, rfl, trivial⟩⟩ ?_
    clear hS 
    rintro mm a wl2 ⟨j, hv, hi2, rfl, hBb2, hown, hng, hS⟩
    have hBsz2 := hBb2.size
    have hE := hEb1.kept hBb2
    have hsv := owns_kept hsvb hBb2
    have hrows := fun j u hj => owns_kept (hrowsb j u hj) hBb2
    have hownb := hown
    have hB := Below.refl wl2.heap.size wl2
    refine reg_seq ?_
    refine sI hS (runs_move rfl) fun _ hS => ?_
    refine sI hS (runs_move rfl) fun _ hS => ?_
    refine sI hS (runs_len rfl und32) fun _ hS => ?_
    by_cases hlt2 : j < l.length
    · skip
      refine sI hS (lssT rfl rfl (by omega)) fun _ hS => ?_
      refine nil_ok ⟨_, hS.eval rfl, fun h => by simp at h, fun _ => ?_⟩
      obtain ⟨e, hej⟩ : ∃ e, l[j]? = some e := ⟨l[j], by simp [hlt2]⟩
      obtain ⟨b, o, hAe, hbw, hr⟩ := edges_row hE (by omega)
      have hre := edges_at hr hej
      have hem := List.mem_of_getElem? hej
      have hfl := ptL_le (n : Int) (l.take j) i
      have htk : (l.take j).length ≤ j := by simp; omega
      have hsn : ptL (n : Int) (l.take (j + 1)) i = (ptL (n : Int) (l.take j) i) ++ (if own e.2.1 (n : Int) = (i : Int) then [e] else []) := by rw [List.take_add_one, hej, Option.toList_some, ptL_snoc]
      have htoe := hto e hem
      refine qx_seq (qx_block (qx_seq (qx_seq (reg_seq ?_))))
      refine sI hS (runs_move rfl) fun _ hS => ?_
      refine sI hS (runs_move rfl) fun _ hS => ?_
      refine sI hS (runs_indexAddrG (j := j) (by rw [← hAe]; rfl) rfl und32 sz41 rfl hlt2) fun _ hS => ?_
      refine sI hS (runs_fieldK fo41_1 rfl) fun _ hS => ?_
      refine sI hS (runs_load rfl pl3 (hre 1 _ rfl)) fun _ hS => ?_
      by_cases hn : e.2.1 < 0
      · skip
        refine sI hS (lssT rfl rfl (by omega)) fun _ hS => ?_
        refine nil_ok (wp_cond_true (hS.eval rfl) (qx_seq (reg_seq ?_)))
        refine sI hS (runs_assign rfl) fun _ hS => ?_
        refine sI hS (runs_assign rfl) fun _ hS => ?_
        have hok : splitOk (n : Int) l = false := by unfold splitOk; rw [show negB l = true from List.any_eq_true.2 ⟨e, hem, by simpa using hn⟩]; simp
        exact nil_ok (qx_ret (ret2 (t := 4) (u := 5) (by kernel_rfl) hS rfl rfl ⟨_, rfl, (hBb1.trans (((hBb2.trans ((hB).mono hBb2.size))).mono hBb1.size)), _, by rw [hok], (fun h => by rw [hok] at h; cases h), fun _ => rfl⟩))
      refine sI hS (lssF rfl rfl (by omega)) fun _ hS => ?_
      refine nil_ok (wp_cond_false (hS.eval rfl) (wp_skip (qx_seq (reg_seq ?_))))
      refine sI hS (runs_move rfl) fun _ hS => ?_
      refine sI hS (runs_move rfl) fun _ hS => ?_
      refine sI hS (runs_indexAddrG (j := j) (by rw [← hAe]; rfl) rfl und32 sz41 rfl hlt2) fun _ hS => ?_
      refine sI hS (runs_fieldK fo41_1 rfl) fun _ hS => ?_
      refine sI hS (runs_load rfl pl3 (hre 1 _ rfl)) fun _ hS => ?_
      refine sI hS (runs_move rfl) fun _ hS => ?_
      refine sI hS (runs_call (args := [.int .i64 e.2.1, .int .i64 (n : Int)]) goes39 rfl (rowner_any e.2.1 (n : Int) htoe wl2)) fun _ hS => ?_
      refine sI hS (runs_move rfl) fun _ hS => ?_
      by_cases ho : own e.2.1 (n : Int) = (i : Int)
      · skip
        refine sI hS (runs_eql (r := true) rfl rfl (by simp [ho])) fun _ hS => ?_
        refine nil_ok (wp_cond_true (hS.eval rfl) (reg_seq ?_))
        refine sI hS (runs_move rfl) fun _ hS => ?_
        refine sI hS (runs_move rfl) fun _ hS => ?_
        refine sI hS (runs_move rfl) fun _ hS => ?_
        refine sI hS (runs_indexAddrG (j := j) (by rw [← hAe]; rfl) rfl und32 sz41 rfl hlt2) fun _ hS => ?_
        refine sI hS (runs_loadM rfl hre) fun _ hS => ?_
        refine seq_op hS (by decide) (runs_oneM (e := e) rfl) (fun v5 w5 a1 hp hS => ?_)
        obtain ⟨g2, rfl, hX, hB5⟩ := hp
        have hB := hB.trans (hB5.mono hB.size)
        have hown := owns_kept hown hB5
        refine seq_op hS (by decide) (push_ownM (B := wl1.heap.size) (acc := (ptL (n : Int) (l.take j) i)) (e := e) rfl hown rfl hX (by omega) (Nat.le_trans hBsz2 hB.size)) (fun v7 w7 a1 hp hS => ?_)
        obtain ⟨_, hown3, _, hB7⟩ := hp
        refine sI hS (runs_assign rfl) fun _ hS => ?_
        refine nil_ok (reg_seq ?_)
        refine sI hS (runs_move rfl) fun _ hS => ?_
        refine sI hS (runs_add (r := ((j + 1 : Nat) : Int)) rfl rfl (by simp [IntKind.wrap, IntKind.bits, IntKind.signed]; omega)) fun _ hS => ?_
        refine sI hS (runs_assign rfl) fun _ hS => ?_
        exact nil_ok ⟨_, by omega, j + 1, v7, by omega, rfl, hBb2.trans ((hB.mono hBb2.size).trans hB7), by rw [hsn, if_pos ho, List.length_append]; exact hown3, fun x hx => by rw [List.take_add_one, hej, Option.toList_some] at hx; rcases List.mem_append.1 hx with hx | hx; exact hng x hx; rw [List.mem_singleton] at hx; rw [hx]; omega, hS.only _ ⟨rfl, rfl, rfl, rfl, rfl, rfl, trivial⟩⟩
      refine sI hS (runs_eql (r := false) rfl rfl (by simp [ho])) fun _ hS => ?_
      refine nil_ok (wp_cond_false (hS.eval rfl) (wp_skip (reg_seq ?_)))
      refine sI hS (runs_move rfl) fun _ hS => ?_
      refine sI hS (runs_add (r := ((j + 1 : Nat) : Int)) rfl rfl (by simp [IntKind.wrap, IntKind.bits, IntKind.signed]; omega)) fun _ hS => ?_
      refine sI hS (runs_assign rfl) fun _ hS => ?_
      exact nil_ok ⟨_, by omega, j + 1, hv, by omega, rfl, hBb2.trans (hB.mono hBb2.size), by rw [hsn, if_neg ho, List.append_nil]; exact hown, fun x hx => by rw [List.take_add_one, hej, Option.toList_some] at hx; rcases List.mem_append.1 hx with hx | hx; exact hng x hx; rw [List.mem_singleton] at hx; rw [hx]; omega, hS.only _ ⟨rfl, rfl, rfl, rfl, rfl, rfl, trivial⟩⟩
    refine sI hS (lssF rfl rfl (by omega)) fun _ hS => ?_
    obtain rfl : j = l.length := by omega
    refine nil_ok ⟨_, hS.eval rfl, fun _ => ?_, fun h => by simp at h⟩
    have hB := hBb2
    rw [List.take_length] at hown hng
    refine reg_seq ?_
    refine sI hS (runs_move rfl) fun _ hS => ?_
    refine sI hS (runs_move rfl) fun _ hS => ?_
    refine seq_op hS (by decide) (runs_call (args := [hv]) goes13 rfl (rsort_any (ptL (n : Int) l i) (Nat.le_trans (ptL_le _ _ _) hsm) hv wl2 (edges_ownE hown rfl))) (fun v8 w8 a1 hp hS => ?_)
    obtain ⟨hB8, ⟨gs, cs, rfl⟩, hns⟩ := hp
    have hns := owns_mono hns (Nat.le_trans hBsz1 hB.size)
    have hB := hB.trans (hB8.mono hB.size)
    have hsv := owns_kept hsv hB8
    have hown := owns_kept hown hB8
    have hrows := (fun j u hj => owns_kept (hrows j u hj) hB8)
    refine seq_op hS (by decide) (runs_oneMM rfl) (fun v10 w10 a1 hp hS => ?_)
    obtain ⟨g2, rfl, hX, hB10⟩ := hp
    have hB := hB.trans (hB10.mono hB.size)
    have hsv := owns_kept hsv hB10
    have hown := owns_kept hown hB10
    have hns := owns_kept hns hB10
    have hrows := (fun j u hj => owns_kept (hrows j u hj) hB10)
    refine seq_op hS (by decide) (push_ownMM (B := w.heap.size) rfl hsv rfl hX rfl (by omega) (Nat.le_trans hBsz1 hB.size)) (fun v12 w12 a1 hp hS => ?_)
    obtain ⟨hsv2, hB12, hkk⟩ := hp
    refine sI hS (runs_assign rfl) fun _ hS => ?_
    refine nil_ok (reg_seq ?_)
    refine sI hS (runs_move rfl) fun _ hS => ?_
    refine sI hS (runs_add (r := ((i + 1 : Nat) : Int)) rfl rfl (by simp [IntKind.wrap, IntKind.bits, IntKind.signed]; omega)) fun _ hS => ?_
    refine sI hS (runs_assign rfl) fun _ hS => ?_
    exact nil_ok ⟨_, by omega, i + 1, _, v12, by omega, rfl, hBb1.trans ((hB.mono hBb1.size).trans hB12), hsv2, (fun j u hj => by rcases snoc_get hj with ⟨hj1, _⟩ | ⟨hj1, hj2⟩; exact hkk _ _ _ _ (hrows j u hj1); rw [show j = i by rw [hj1, hsv.1]; omega, hj2]; exact hkk _ _ _ _ hns), fun _ => hng, hS.only _ ⟨rfl, rfl, rfl, rfl, trivial⟩⟩
  refine sI hS (lssF rfl rfl (by omega)) fun _ hS => ?_
  obtain rfl : n = i := by omega
  refine nil_ok ⟨_, hS.eval rfl, fun _ => ?_, fun h => by simp at h⟩
  have hB := hBb1
  refine qx_seq (reg_seq ?_)
  refine sI hS (runs_move rfl) fun _ hS => ?_
  refine sI hS (runs_assign rfl) fun _ hS => ?_
  refine sI hS (runs_assign rfl) fun _ hS => ?_
  have hok : splitOk (n : Int) l = true := splitOk_iff.2 ⟨by omega, by omega, by unfold negB; rw [List.any_eq_false]; intro x hx; have := hng0 (by omega) x hx; simp; omega⟩
  have hsp : (splitL (n : Int) l).length = n := by rw [splitL_length, Int.toNat_natCast]
  have hrm : RowsM wl1 sv (splitL (n : Int) l) := by
    have hvl : vs.length = n := by have := hsv.1; omega
    rcases hsv.2 with ⟨_, h0⟩ | ⟨g9, c9, cur, rfl, hg1, hg2, hg3, hg4, hg5, hg6⟩
    · omega
    · refine ⟨g9, 0, c9, by rw [hsp], by rw [hsp]; exact hg3, (Array.getElem?_eq_some_iff.1 hg2).1, vs, by rw [hsp, hvl], fun j u hu => ?_, fun j u l2 hu hl2 => ?_⟩
      · rw [← hg6, List.getElem?_take] at hu
        split at hu
        · simp only [World.cell?, hg2, Nat.zero_add]; simpa using hu
        · cases hu
      · have hjn := (List.getElem?_eq_some_iff.1 hu).1
        rw [splitL_get (by rw [Int.toNat_natCast]; omega)] at hl2
        cases hl2
        exact edges_ownE (hrows j u hu) rfl
  exact nil_ok (qx_ret (ret2 (t := 4) (u := 5) (by kernel_rfl) hS rfl rfl ⟨_, rfl, hB, _, by rw [hok], (fun _ => hrm), (fun h => by rw [hok] at h; cases h)⟩))
end Go.Proofs.Ythenbmalnmaofaa
