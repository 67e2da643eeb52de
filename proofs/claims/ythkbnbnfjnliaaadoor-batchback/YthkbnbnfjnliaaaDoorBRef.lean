/- Layer 11: the document's Rows and Root. Conditions: at most 10000 messages, each field within 64 bits. -/
import Derived.Test.YthkbnbnfjnliaaaDoorJ35
import Derived.Test.YthkbnbnfjnliaaaDoorWRefNum
import Derived.Test.YthkbnbnfjnliaaaDoorTRef
import Derived.Test.YthkbnbnfjnliaaaDoorXRefPut
namespace Go.Proofs.YthkbnbnfjnliaaaDoor
open Go.RowKit
set_option maxRecDepth 100000

theorem undB64 : Tryd.prog.underlying 41 = some (.int .u64) := by kernel_rfl
theorem rnum_a (n : Nat) (w : World) (hn : n < 18446744073709551616) : Ans 44 [.int .u64 (n : Int)] w (fun u w' => u = .string (S (Wire.num n)) ∧ Below w.heap.size w w') :=
  (refNum_any n w hn).mono (by rintro e w' ⟨rfl, h⟩; exact ⟨_, rfl, rfl, h⟩)
theorem rint_a (n : Int) (w : World) (h1 : -9223372036854775808 ≤ n) (h2 : n ≤ 9223372036854775807) : Ans 45 [.int .i64 n] w (fun u w' => u = .string (S (Wire.num (Wire.fold n))) ∧ Below w.heap.size w w') :=
  (refInt_any n w h1 h2).mono (by rintro e w' ⟨rfl, h⟩; exact ⟨_, rfl, rfl, h⟩)
def rowB (l : List E) : List Value := (l.map (fun m => S (rowM m))).map Value.string
theorem rowB_snoc {l : List E} {i : Nat} {x : E} (h : l[i]? = some x) : rowB (l.take (i + 1)) = rowB (l.take i) ++ [.string (S (rowM x))] := by
  unfold rowB; rw [List.take_add_one, h, Option.toList_some, List.map_append, List.map_append]; rfl
theorem rowB_sort (l : List E) : rowB (sortM l) = ((rowsM l).map S).map Value.string := by
  unfold rowB rowsM; rw [List.map_map]; simp
section
variable {L : List (Nat × Value)} {w : World} {ty : TypeId}
theorem none_ownS {B : Nat} (hB : B ≤ w.heap.size) : Runs Tryd.prog (.buildSlice 37 0 #[]) ty L w (fun v w' => (∃ g, v = .slice (some ⟨g, 0, none⟩) 0 0 ∧ w'.ownsRow B 9 1 v 0 []) ∧ Below w.heap.size w w') := by
  obtain ⟨i48, hi48, hz48, hs48, hb48⟩ := info_parts infStr
  exact (runs_buildNone undStrs hi48).mono (by
    rintro v w3 ⟨rfl, rfl⟩
    refine ⟨⟨_, rfl, ⟨rfl, .inr ⟨w.heap.size, 0, #[], rfl, hB, ?_, Nat.le_refl _, by unfold maxLen; omega, rfl, rfl⟩⟩⟩, (Below.refl _ _).alloc (Nat.le_refl _) _⟩
    exact heap_alloc_new _ _)
theorem push_ownSK {B n g2 : Nat} {s x : Operand} {sv : Value} {xs : List Value} {t : ByteArray} (hs : vals L s = some sv) (hown : w.ownsRow B 9 1 sv n xs) (hx : vals L x = some (.slice (some ⟨g2, 0, none⟩) 1 1)) (hX : Has w g2 9 [.string t]) (hn : n ≤ 10000) (hB : B ≤ w.heap.size) (hcap : 0 < n ∨ ∀ g m c, sv = .slice (some g) m c → c = 0) :
    Runs Tryd.prog (.call { callee := .builtin .append, args := #[s, x], argTypes := #[37, 37] }) ty L w (fun u w2 => w2.ownsRow B 9 1 u (n + 1) (xs ++ [.string t]) ∧ KR 9 1 B (xs ++ [.string t]) w w2) := by
  obtain ⟨i48, hi48, hz48, hs48, hb48⟩ := info_parts infStr
  exact (push_own1 undStrs hi48 hz48 hs48 hb48 rfl (by omega) (by omega) hs hown hx hX rfl (by simp [Value.oneCell']) hn hB hcap).mono (by rintro u w2 ⟨_, h2, h3⟩; exact ⟨h2, h3⟩)
theorem owns_other {T : TypeId} {w2 : World} {B n sz : Nat} {e : TypeId} {v : Value} {xs : List Value} (h : w.ownsRow B e sz v n xs) (k : ∀ i t cs, t ≠ T → Has w i t cs → Has w2 i t cs) (he : e ≠ T) : w2.ownsRow B e sz v n xs := by
  refine ⟨h.1, ?_⟩
  rcases h.2 with h | ⟨g4, c4, cur, h0, h4, hh, hrest⟩
  · exact .inl h
  · refine .inr ⟨g4, c4, cur, h0, h4, ?_, hrest⟩
    have := k g4 e cur.toList he (by unfold Has; simpa using hh)
    unfold Has at this
    simpa using this
theorem S_cat (a b : List Nat) : S a ++ S b = S (a ++ b) := (S_append a b).symm
end
set_option maxHeartbeats 1000000 in
theorem rrows_any (l : List E) (hl : l.length ≤ 10000) (hf : FitsM l) (v : Value) (w : World) (hE : Edges w v l) : Ans 27 [v] w (fun u w' => Strs w' u ((rowsM l).map S) ∧ Below w.heap.size w w') := by
  obtain ⟨A, c, rfl, hc1, hc2, hA⟩ := hE
  have hE : Edges w (.slice A l.length c) l := ⟨A, c, rfl, hc1, hc2, hA⟩
  have hcm := hc2
  unfold maxLen at hcm
  refine calls_qx (args := [.slice A l.length c]) 58 Tryd.func27 rfl (by kernel_rfl) (by simp) (fun a hS => ?_)
  have hB := Below.refl w.heap.size w
  refine qx_seq (reg_seq ?_)
  refine sI hS (runs_assign rfl) fun _ hS => ?_
  refine nil_ok (qx_seq (reg_seq ?_))
  refine sI hS (runs_move rfl) fun _ hS => ?_
  refine seq_op hS (by decide) (runs_call (args := [.slice A l.length c]) goes43 rfl (rsort_any l hl _ w hE)) (fun v1 w1 a1 hp hS => ?_)
  obtain ⟨hB1, ⟨gs, cs, rfl⟩, hos⟩ := hp
  have hSo := edges_ownE hos rfl
  have hB := hB.trans (hB1.mono hB.size)
  refine seq_op hS (by decide) (none_ownS (B := w.heap.size) hB.size) (fun v3 w3 a1 hp hS => ?_)
  obtain ⟨⟨g0, rfl, h0⟩, hB3⟩ := hp
  have hB := hB.trans (hB3.mono hB.size)
  have hSo := hSo.kept hB3
  have hos := owns_kept hos hB3
  refine sI hS (runs_assign rfl) fun _ hS => ?_
  refine sI hS (runs_assign rfl) fun _ hS => ?_
  refine nil_ok (qx_seq (qx_seq (reg_seq ?_)))
  refine sI hS (runs_assign rfl) fun _ hS => ?_
  have hsl := sortM_length l
  have hfs := hf.sort
  refine nil_ok (?_)
  refine qx_for (fun mm a w' => ∃ (i : Nat) (ov : Value), i ≤ (sortM l).length ∧ mm = (sortM l).length - i ∧ Below w.heap.size w w' ∧ w'.ownsRow w.heap.size 31 3 (.slice (some ⟨gs, 0, none⟩) (sortM l).length cs) (sortM l).length (cellsE (sortM l)) ∧ (i = 0 → ov = .slice (some ⟨g0, 0, none⟩) 0 0) ∧ w'.ownsRow w.heap.size 9 1 ov i (rowB ((sortM l).take i)) ∧ Sees 58 [(5, .int .i64 (i : Int)), (4, ov), (3, .slice (some ⟨gs, 0, none⟩) (sortM l).length cs)] a) (sortM l).length ⟨0, _, by omega, by omega, hB, hos, (fun _ => rfl), h0, hS.only _ ⟨rfl, rfl, rfl, trivial⟩⟩ ?_
  clear hS 
  rintro mm a wl1 ⟨i, ov, hi1, rfl, hBb1, hos, hz, hown, hS⟩
  have hBsz1 := hBb1.size
  have hSo := edges_ownE hos rfl
  have hB := Below.refl wl1.heap.size wl1
  refine reg_seq ?_
  refine sI hS (runs_move rfl) fun _ hS => ?_
  refine sI hS (runs_move rfl) fun _ hS => ?_
  refine sI hS (runs_len rfl und32) fun _ hS => ?_
  by_cases hlt1 : i < (sortM l).length
  · skip
    refine sI hS (lssT rfl rfl (by omega)) fun _ hS => ?_
    refine nil_ok ⟨_, hS.eval rfl, fun h => by simp at h, fun _ => ?_⟩
    obtain ⟨x, hx⟩ : ∃ x, (sortM l)[i]? = some x := ⟨(sortM l)[i], by simp [hlt1]⟩
    obtain ⟨b, o, hbe, hbw, hr⟩ := edges_row hSo (by omega)
    cases hbe
    have hrx := edges_at hr hx
    obtain ⟨q1, q2, q3⟩ := hfs x (List.mem_of_getElem? hx)
    refine qx_seq (qx_block (qx_seq (reg_seq ?_)))
    refine sI hS (runs_move rfl) fun _ hS => ?_
    refine sI hS (runs_move rfl) fun _ hS => ?_
    refine sI hS (runs_indexAddrG (j := i) rfl rfl und32 sz41 rfl hlt1) fun _ hS => ?_
    refine sI hS (runs_fieldK fo41_0 rfl) fun _ hS => ?_
    refine sI hS (runs_load rfl pl3 (hrx 0 (.int .i64 x.1) rfl)) fun _ hS => ?_
    by_cases n1 : x.1 < 0
    · skip
      refine sI hS (lssT rfl rfl (by omega)) fun _ hS => ?_
      refine sI hS (runs_move rfl) fun _ hS => ?_
      refine sN hS fun _ hS => ?_
      refine sN hS fun _ hS => ?_
      refine sN hS fun _ hS => ?_
      refine sN hS fun _ hS => ?_
      refine sN hS fun _ hS => ?_
      refine sN hS fun _ hS => ?_
      refine sI hS (runs_pick rfl rfl) fun _ hS => ?_
      refine nil_ok (wp_cond_true (hS.eval rfl) (reg_seq ?_))
      refine sI hS (runs_move rfl) fun _ hS => ?_
      refine seq_op hS (by decide) (runs_oneSt (s := ⟨#[]⟩) rfl) (fun v5 w5 a1 hp hS => ?_)
      obtain ⟨g2, rfl, hX, hB5⟩ := hp
      have hB := hB.trans (hB5.mono hB.size)
      refine seq_op hS (by decide) (push_ownSK (B := w.heap.size) (t := ⟨#[]⟩) rfl (owns_kept hown hB) rfl hX (by omega) (Nat.le_trans hBsz1 hB.size) ((Nat.eq_zero_or_pos i).elim (fun h => .inr (fun g m c e => by rw [hz h] at e; cases e; rfl)) .inl)) (fun v7 w7 a1 hp hS => ?_)
      obtain ⟨hown3, hK3⟩ := hp
      refine sI hS (runs_assign rfl) fun _ hS => ?_
      refine nil_ok (reg_seq ?_)
      refine sI hS (runs_move rfl) fun _ hS => ?_
      refine sI hS (runs_add (r := ((i + 1 : Nat) : Int)) rfl rfl (by simp [IntKind.wrap, IntKind.bits, IntKind.signed]; omega)) fun _ hS => ?_
      refine sI hS (runs_assign rfl) fun _ hS => ?_
      exact nil_ok ⟨_, by omega, i + 1, v7, by omega, rfl, hBb1.trans ((hB.mono hBb1.size).trans hK3.1), owns_other (owns_kept hos hB) hK3.2.2.1 (by decide), (fun h => by omega), by rw [rowB_snoc hx, show rowM x = [] by unfold rowM; rw [if_pos (by omega)]]; exact hown3, hS.only _ ⟨rfl, rfl, rfl, trivial⟩⟩
    refine sI hS (lssF rfl rfl (by omega)) fun _ hS => ?_
    refine sI hS (runs_move rfl) fun _ hS => ?_
    refine sY hS (runs_move rfl) fun _ hS => ?_
    refine sY hS (runs_move rfl) fun _ hS => ?_
    refine sY hS (runs_indexAddrG (j := i) rfl rfl und32 sz41 rfl hlt1) fun _ hS => ?_
    refine sY hS (runs_fieldK fo41_1 rfl) fun _ hS => ?_
    refine sY hS (runs_load rfl pl3 (hrx 1 (.int .i64 x.2.1) rfl)) fun _ hS => ?_
    by_cases n2 : x.2.1 < 0
    · skip
      refine sY hS (lssT rfl rfl (by omega)) fun _ hS => ?_
      refine sI hS (runs_pick rfl rfl) fun _ hS => ?_
      refine nil_ok (wp_cond_true (hS.eval rfl) (reg_seq ?_))
      refine sI hS (runs_move rfl) fun _ hS => ?_
      refine seq_op hS (by decide) (runs_oneSt (s := ⟨#[]⟩) rfl) (fun v8 w8 a1 hp hS => ?_)
      obtain ⟨g2, rfl, hX, hB8⟩ := hp
      have hB := hB.trans (hB8.mono hB.size)
      refine seq_op hS (by decide) (push_ownSK (B := w.heap.size) (t := ⟨#[]⟩) rfl (owns_kept hown hB) rfl hX (by omega) (Nat.le_trans hBsz1 hB.size) ((Nat.eq_zero_or_pos i).elim (fun h => .inr (fun g m c e => by rw [hz h] at e; cases e; rfl)) .inl)) (fun v10 w10 a1 hp hS => ?_)
      obtain ⟨hown3, hK3⟩ := hp
      refine sI hS (runs_assign rfl) fun _ hS => ?_
      refine nil_ok (reg_seq ?_)
      refine sI hS (runs_move rfl) fun _ hS => ?_
      refine sI hS (runs_add (r := ((i + 1 : Nat) : Int)) rfl rfl (by simp [IntKind.wrap, IntKind.bits, IntKind.signed]; omega)) fun _ hS => ?_
      refine sI hS (runs_assign rfl) fun _ hS => ?_
      exact nil_ok ⟨_, by omega, i + 1, v10, by omega, rfl, hBb1.trans ((hB.mono hBb1.size).trans hK3.1), owns_other (owns_kept hos hB) hK3.2.2.1 (by decide), (fun h => by omega), by rw [rowB_snoc hx, show rowM x = [] by unfold rowM; rw [if_pos (by omega)]]; exact hown3, hS.only _ ⟨rfl, rfl, rfl, trivial⟩⟩
    refine sY hS (lssF rfl rfl (by omega)) fun _ hS => ?_
    refine sI hS (runs_pick rfl rfl) fun _ hS => ?_
    refine nil_ok (wp_cond_false (hS.eval rfl) (?_))
    have p1 : x.1 = ((x.1.toNat : Nat) : Int) := by omega
    have p2 : x.2.1 = ((x.2.1.toNat : Nat) : Int) := by omega
    have l1 := Wire.num_len10 x.1.toNat (by omega)
    have l2 := Wire.num_len10 x.2.1.toNat (by omega)
    have l3 := Wire.num_len10 (Wire.fold x.2.2) (Wire.fold_lt _ q3.1 q3.2)
    have hrow : rowM x = Wire.num x.1.toNat ++ Wire.num x.2.1.toNat ++ Wire.num (Wire.fold x.2.2) := by unfold rowM; rw [if_neg (by omega)]
    refine reg_guard (fun w' => Below wl1.heap.size wl1 w') [.inl (ov), .inl (.slice (some ⟨gs, 0, none⟩) (sortM l).length cs), .inl (.int .i64 (i : Int)), .inl (.pointer (some ⟨gs, 0 + i * 3, none⟩)), .inl (.pointer (some ⟨gs, 0 + i * 3 + 0, none⟩)), .inl (.int .i64 x.1), .inl (.int .u64 ((x.1.toNat : Nat) : Int)), .inl (.string (S (Wire.num x.1.toNat))), .inl (.slice (some ⟨gs, 0, none⟩) (sortM l).length cs), .inl (.int .i64 (i : Int)), .inl (.pointer (some ⟨gs, 0 + i * 3, none⟩)), .inl (.pointer (some ⟨gs, 0 + i * 3 + 1, none⟩)), .inl (.int .i64 x.2.1), .inl (.int .u64 ((x.2.1.toNat : Nat) : Int)), .inl (.string (S (Wire.num x.2.1.toNat))), .inl (.string (S (Wire.num x.1.toNat ++ Wire.num x.2.1.toNat))), .inl (.slice (some ⟨gs, 0, none⟩) (sortM l).length cs), .inl (.int .i64 (i : Int)), .inl (.pointer (some ⟨gs, 0 + i * 3, none⟩)), .inl (.pointer (some ⟨gs, 0 + i * 3 + 2, none⟩)), .inl (.int .i64 x.2.2), .inl (.string (S (Wire.num (Wire.fold x.2.2)))), .inl (.string (S (rowM x))), .inr (fun v w' => ∃ g2, v = .slice (some ⟨g2, 0, none⟩) 1 1 ∧ Has w' g2 9 [.string (S (rowM x))])] 24 2 mixed rfl (by kernel_rfl) hS (Below.refl _ _) (fun _ h => h.drew) ?_
    refine hs_is rfl (fun w' hw => runs_move rfl) ?_
    refine hs_is rfl (fun w' hw => runs_move rfl) ?_
    refine hs_is rfl (fun w' hw => runs_move rfl) ?_
    refine hs_is rfl (fun w' hw => runs_indexAddrG (j := i) rfl rfl und32 sz41 rfl hlt1) ?_
    refine hs_is rfl (fun w' hw => runs_fieldK fo41_0 rfl) ?_
    refine hs_is rfl (fun w' hw => runs_load rfl pl3 ((range_below hrx hw hbw) 0 (.int .i64 x.1) rfl)) ?_
    refine hs_is rfl (fun w' hw => runs_convInt (r := ((x.1.toNat : Nat) : Int)) rfl (by decide) undB64 (by simp [IntKind.wrap, IntKind.bits, IntKind.signed]; omega)) ?_
    refine hs_val rfl (fun w' hw hq => (runs_call (args := [.int .u64 ((x.1.toNat : Nat) : Int)]) goes44 rfl (rnum_a x.1.toNat w' (by omega))).mono (by rintro u w5 ⟨rfl, hb⟩; exact ⟨rfl, hw.trans (hb.mono hw.size), hb⟩)) ?_
    refine hs_is rfl (fun w' hw => runs_move rfl) ?_
    refine hs_is rfl (fun w' hw => runs_move rfl) ?_
    refine hs_is rfl (fun w' hw => runs_indexAddrG (j := i) rfl rfl und32 sz41 rfl hlt1) ?_
    refine hs_is rfl (fun w' hw => runs_fieldK fo41_1 rfl) ?_
    refine hs_is rfl (fun w' hw => runs_load rfl pl3 ((range_below hrx hw hbw) 1 (.int .i64 x.2.1) rfl)) ?_
    refine hs_is rfl (fun w' hw => runs_convInt (r := ((x.2.1.toNat : Nat) : Int)) rfl (by decide) undB64 (by simp [IntKind.wrap, IntKind.bits, IntKind.signed]; omega)) ?_
    refine hs_val rfl (fun w' hw hq => (runs_call (args := [.int .u64 ((x.2.1.toNat : Nat) : Int)]) goes44 rfl (rnum_a x.2.1.toNat w' (by omega))).mono (by rintro u w5 ⟨rfl, hb⟩; exact ⟨rfl, hw.trans (hb.mono hw.size), hb⟩)) ?_
    refine hs_is rfl (fun w' hw => runs_catG rfl rfl (S_cat _ _) (by rw [S_size, S_size]; omega)) ?_
    refine hs_is rfl (fun w' hw => runs_move rfl) ?_
    refine hs_is rfl (fun w' hw => runs_move rfl) ?_
    refine hs_is rfl (fun w' hw => runs_indexAddrG (j := i) rfl rfl und32 sz41 rfl hlt1) ?_
    refine hs_is rfl (fun w' hw => runs_fieldK fo41_2 rfl) ?_
    refine hs_is rfl (fun w' hw => runs_load rfl pl2 ((range_below hrx hw hbw) 2 (.int .i64 x.2.2) rfl)) ?_
    refine hs_val rfl (fun w' hw hq => (runs_call (args := [.int .i64 x.2.2]) goes45 rfl (rint_a x.2.2 w' q3.1 q3.2)).mono (by rintro u w5 ⟨rfl, hb⟩; exact ⟨rfl, hw.trans (hb.mono hw.size), hb⟩)) ?_
    refine hs_is rfl (fun w' hw => runs_catG rfl rfl (by rw [S_cat, hrow]) (by rw [S_size, S_size, List.length_append]; omega)) ?_
    refine hs_pr rfl (fun _ _ _ h hk => by obtain ⟨g2, h1, h2⟩ := h; exact ⟨g2, h1, h2.below hk h2.lt⟩) (fun w' hw hq => (runs_oneSt (s := S (rowM x)) rfl).mono (by rintro v w5 ⟨g2, h1, h2, hb⟩; exact ⟨⟨g2, h1, h2⟩, hw.trans (hb.mono hw.size), hb⟩)) (fun u23 => ?_)
    refine (fun a11 w11 hS hB11 hq => ?_)
    obtain ⟨g2, rfl, hX⟩ := (hq (23, _) List.mem_cons_self)
    clear hq
    have hB := hB.trans (hB11.mono hB.size)
    refine tail_op 24 (by kernel_rfl) rfl hS (by decide) (push_ownSK (B := w.heap.size) (t := S (rowM x)) rfl (owns_kept hown hB) rfl hX (by omega) (Nat.le_trans hBsz1 hB.size) ((Nat.eq_zero_or_pos i).elim (fun h => .inr (fun g m c e => by rw [hz h] at e; cases e; rfl)) .inl)) (fun v13 w13 a13 hp hS => ⟨trivial, ?_⟩)
    obtain ⟨hown3, hK3⟩ := hp
    refine tail_op 25 (by kernel_rfl) rfl hS (by decide) (runs_assign rfl) (fun v14 w14 a14 hp hS => ⟨trivial, ?_⟩)
    obtain ⟨rfl, rfl⟩ := hp
    refine wpAnyH_done (by kernel_rfl) ?_ _
    refine reg_seq ?_
    refine sI hS (runs_move rfl) fun _ hS => ?_
    refine sI hS (runs_add (r := ((i + 1 : Nat) : Int)) rfl rfl (by simp [IntKind.wrap, IntKind.bits, IntKind.signed]; omega)) fun _ hS => ?_
    refine sI hS (runs_assign rfl) fun _ hS => ?_
    exact nil_ok ⟨_, by omega, i + 1, v14, by omega, rfl, hBb1.trans ((hB.mono hBb1.size).trans hK3.1), owns_other (owns_kept hos hB) hK3.2.2.1 (by decide), (fun h => by omega), by rw [rowB_snoc hx]; exact hown3, hS.only _ ⟨rfl, rfl, rfl, trivial⟩⟩
  refine sI hS (lssF rfl rfl (by omega)) fun _ hS => ?_
  obtain rfl : i = (sortM l).length := by omega
  refine nil_ok ⟨_, hS.eval rfl, fun _ => ?_, fun h => by simp at h⟩
  have hB := hBb1
  rw [List.take_length, rowB_sort] at hown
  refine qx_seq (reg_seq ?_)
  refine sI hS (runs_move rfl) fun _ hS => ?_
  refine sI hS (runs_assign rfl) fun _ hS => ?_
  exact nil_ok (qx_ret (ret1 (t := 2) (by kernel_rfl) hS rfl ⟨_, rfl, strs_ownR hown (by rw [List.length_map, rowsM_length, sortM_length]), hB⟩))
set_option maxRecDepth 100000 in
set_option maxHeartbeats 1000000 in
theorem rroot_any (l : List E) (hl : l.length ≤ 10000) (hf : FitsM l) (v : Value) (w : World) (hE : Edges w v l) : Ans 10 [v] w (fun u w' => u = .agg (U8 (rootM l)).toArray ∧ Below w.heap.size w w') := by
  refine calls_qx (args := [v]) 6 Tryd.func10 rfl (by kernel_rfl) (by simp) (fun a hS => ?_)
  refine qx_seq (reg_seq ?_)
  refine seq_op hS (by decide) alloc_hash (fun v1 w1 a1 hp1 hS => ?_)
  obtain ⟨rfl, rfl⟩ := hp1
  have hH1 := Has.new w 35 (U8 (List.replicate 32 0))
  have hB1 : Below w.heap.size w (w.alloc (.cells (U8 (List.replicate 32 0)).toArray 35)) := (Below.refl _ _).alloc (Nat.le_refl _) _
  generalize w.alloc (.cells (U8 (List.replicate 32 0)).toArray 35) = w1 at *
  have hE1 := hE.kept hB1
  refine nil_ok (qx_seq (reg_seq ?_))
  refine seq_is hS (by decide) (runs_move rfl) (fun a1 hS => ?_)
  refine seq_op hS (by decide) (runs_call (args := [v]) goes27 rfl (rrows_any l hl hf v w1 hE1)) (fun v2 w2 a2 hp2 hS => ?_)
  obtain ⟨hR, hB2⟩ := hp2
  have hroot := refRootH_any ((rowsM l).map S) v2 w2 hR (fun s hs => Nat.le_trans (rowsS_small hf s hs) (by omega)) (by rw [List.length_map, rowsM_length]; omega)
  rw [rowsS_root] at hroot
  refine seq_op hS (by decide) (runs_call (args := [v2]) goes26 rfl (hash_post (fun w' => Below w2.heap.size w2 w') hroot (fun _ h => h))) (fun v3 w3 a3 hp3 hS => ?_)
  obtain ⟨rfl, hB3⟩ := hp3
  have hH3 := (hH1.below hB2 hH1.lt).below hB3 (Nat.lt_of_lt_of_le hH1.lt hB2.size)
  have hlen : (rootM l).length = 32 := rootM_len l
  refine seq_none hS (runs_storeRow (cs := (U8 (rootM l)).toArray) rfl rfl hH3 (by simp [hlen]) (agg_all _) (by rw [infHash]; simp [hlen])) (fun v6 w6 a6 hp6 hS => ?_)
  obtain ⟨rfl, rfl⟩ := hp6
  exact nil_ok (qx_ret (retRow (t := 0) (p := 2) (by kernel_rfl) hS rfl (has_setRow (cs := U8 (rootM l)) hH3) rfl undHash rfl (by rw [infHash]; simp [hlen]) ⟨_, rfl, rfl, below_row ((hB1.trans (hB2.mono hB1.size)).trans (hB3.mono (Nat.le_trans hB1.size hB2.size))) (Nat.le_refl _) _⟩))
end Go.Proofs.YthkbnbnfjnliaaaDoor
