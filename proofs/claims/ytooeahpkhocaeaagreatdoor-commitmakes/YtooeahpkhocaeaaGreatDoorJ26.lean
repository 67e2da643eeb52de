/- Layer 11: the document's Rows and Root. Conditions: at most 10000 messages, each field within 64 bits. -/
import Derived.Test.YtooeahpkhocaeaaGreatDoorJ25
import Derived.Test.YtooeahpkhocaeaaGreatDoorJ16
import Derived.Test.YtooeahpkhocaeaaGreatDoorTRef
import Derived.Test.YtooeahpkhocaeaaGreatDoorJ24
import Derived.Test.YtooeahpkhocaeaaGreatDoorJ19
import Derived.Test.YtooeahpkhocaeaaGreatDoorJ22
import Derived.Shelf.SlSortCmp.NoneTotal
namespace Go.Proofs.YtooeahpkhocaeaaGreatDoor
open Go.RowKit
set_option maxRecDepth 100000

theorem undB64 : Tryz.prog.underlying 44 = some (.int .u64) := by kernel_rfl
theorem rnum_a (n : Nat) (w : World) (hn : n < 18446744073709551616) : Ans 50 [.int .u64 (n : Int)] w (fun u w' => u = .string (S (Wire.num n)) ∧ Below w.heap.size w w') :=
  (refNum_any n w hn).mono (by rintro e w' ⟨rfl, h⟩; exact ⟨_, rfl, rfl, h⟩)
theorem rint_a (n : Int) (w : World) (h1 : -9223372036854775808 ≤ n) (h2 : n ≤ 9223372036854775807) : Ans 51 [.int .i64 n] w (fun u w' => u = .string (S (Wire.num (Wire.fold n))) ∧ Below w.heap.size w w') :=
  (refInt_any n w h1 h2).mono (by rintro e w' ⟨rfl, h⟩; exact ⟨_, rfl, rfl, h⟩)
def rowB (l : List E) : List Value := (l.map (fun m => S (rowM m))).map Value.string
theorem rowB_snoc {l : List E} {i : Nat} {x : E} (h : l[i]? = some x) : rowB (l.take (i + 1)) = rowB (l.take i) ++ [.string (S (rowM x))] := by
  unfold rowB; rw [List.take_add_one, h, Option.toList_some, List.map_append, List.map_append]; rfl
theorem rowB_sort (l : List E) : rowB (sortM l) = ((rowsM l).map S).map Value.string := by
  unfold rowB rowsM; rw [List.map_map]; simp
section
variable {L : List (Nat × Value)} {w : World} {ty : TypeId}
theorem none_ownS {B : Nat} (hB : B ≤ w.heap.size) : Runs Tryz.prog (.buildSlice 62 0 #[]) ty L w (fun v w' => (∃ g, v = .slice (some ⟨g, 0, none⟩) 0 0 ∧ w'.ownsRow B 9 1 v 0 []) ∧ Below w.heap.size w w') := by
  obtain ⟨i48, hi48, hz48, hs48, hb48⟩ := info_parts infStr
  exact (runs_buildNone undStrs hi48).mono (by
    rintro v w3 ⟨rfl, rfl⟩
    refine ⟨⟨_, rfl, ⟨rfl, .inr ⟨w.heap.size, 0, #[], rfl, hB, ?_, Nat.le_refl _, by unfold maxLen; omega, rfl, rfl⟩⟩⟩, (Below.refl _ _).alloc (Nat.le_refl _) _⟩
    exact heap_alloc_new _ _)
theorem push_ownSK {B n g2 : Nat} {s x : Operand} {sv : Value} {xs : List Value} {t : ByteArray} (hs : vals L s = some sv) (hown : w.ownsRow B 9 1 sv n xs) (hx : vals L x = some (.slice (some ⟨g2, 0, none⟩) 1 1)) (hX : Has w g2 9 [.string t]) (hn : n ≤ 10000) (hB : B ≤ w.heap.size) (hcap : 0 < n ∨ ∀ g m c, sv = .slice (some g) m c → c = 0) :
    Runs Tryz.prog (.call { callee := .builtin .append, args := #[s, x], argTypes := #[62, 62] }) ty L w (fun u w2 => w2.ownsRow B 9 1 u (n + 1) (xs ++ [.string t]) ∧ KR 9 1 B (xs ++ [.string t]) w w2) := by
  obtain ⟨i48, hi48, hz48, hs48, hb48⟩ := info_parts infStr
  exact (push_own1 undStrs hi48 hz48 hs48 hb48 rfl (by omega) (by omega) hs hown hx hX rfl (by simp [Value.oneCell']) hn hB hcap).mono (by rintro u w2 ⟨_, h2, h3⟩; exact ⟨h2, h3⟩)
theorem owns_other {T : TypeId} {w2 : World} {B n sz : Nat} {e : TypeId} {v : Value} {xs : List Value} (h : w.ownsRow B e sz v n xs) (k : ∀ i t cs, t ≠ T → Has w i t cs → Has w2 i t cs) (he : e ≠ T) : w2.ownsRow B e sz v n xs := by
  refine ⟨h.1, ?_⟩
  rcases h.2 with h | ⟨g4, c4, cur, h0, h4, hh, hrest⟩
  · exact .inl h
  · refine .inr ⟨g4, c4, cur, h0, h4, ?_, hrest⟩
    have := k g4 e cur.toList he (by unfold Has; simpa using hh)
    unfold Has at this
    simpa using this
theorem S_cat (a b : List Nat) : S a ++ S b = S (a ++ b) := (S_append a b).symm
end
set_option maxHeartbeats 1000000 in
theorem rrows_any (l : List E) (hl : l.length ≤ 10000) (hf : FitsM l) (v : Value) (w : World) (hE : Edges w v l) : Ans 35 [v] w (fun u w' => Strs w' u ((rowsM l).map S) ∧ Below w.heap.size w w') := by
  obtain ⟨A, c, rfl, hc1, hc2, hA⟩ := hE
  have hE : Edges w (.slice A l.length c) l := ⟨A, c, rfl, hc1, hc2, hA⟩
  have hcm := hc2
  unfold maxLen at hcm
  refine calls_qx (args := [.slice A l.length c]) 58 Tryz.func35 rfl (by kernel_rfl) (by simp) (fun a hS => ?_)
  have hB := Below.refl w.heap.size w
  refine qx_seq (reg_seq ?_)
  refine sI hS (runs_assign rfl) fun _ hS => ?_
  refine nil_ok (qx_seq (reg_seq ?_))
  refine sI hS (runs_move rfl) fun _ hS => ?_
  refine seq_op hS (by decide) (runs_call (args := [.slice A l.length c]) goes49 rfl (rsort_any l hl _ w hE)) (fun v1 w1 a1 hp hS => ?_)
  obtain ⟨hB1, ⟨gs, cs, rfl⟩, hos⟩ := hp
  have hSo := edges_ownE hos rfl
  have hB := hB.trans (hB1.mono hB.size)
  refine seq_op hS (by decide) (none_ownS (B := w.heap.size) hB.size) (fun v3 w3 a1 hp hS => ?_)
  obtain ⟨⟨g0, rfl, h0⟩, hB3⟩ := hp
  have hB := hB.trans (hB3.mono hB.size)
  have hSo := hSo.kept hB3
  have hos := owns_kept hos hB3
  refine sI hS (runs_assign rfl) fun _ hS => ?_
  refine sI hS (runs_assign rfl) fun _ hS => ?_
  refine nil_ok (qx_seq (qx_seq (reg_seq ?_)))
  refine sI hS (runs_assign rfl) fun _ hS => ?_
  have hsl := sortM_length l
  have hfs := hf.sort
  refine nil_ok (?_)
  refine qx_for (fun mm a w' => ∃ (i : Nat) (ov : Value), i ≤ (sortM l).length ∧ mm = (sortM l).length - i ∧ Below w.heap.size w w' ∧ w'.ownsRow w.heap.size 81 3 (.slice (some ⟨gs, 0, none⟩) (sortM l).length cs) (sortM l).length (cellsE (sortM l)) ∧ (i = 0 → ov = .slice (some ⟨g0, 0, none⟩) 0 0) ∧ w'.ownsRow w.heap.size 9 1 ov i (rowB ((sortM l).take i)) ∧ Sees 58 [(5, .int .i64 (i : Int)), (4, ov), (3, .slice (some ⟨gs, 0, none⟩) (sortM l).length cs)] a) (sortM l).length ⟨0, _, by omega, by omega, hB, hos, (fun _ => rfl), h0, hS.only _ ⟨rfl, rfl, rfl, trivial⟩⟩ ?_
  clear hS 
  rintro mm a wl1 ⟨i, ov, hi1, rfl, hBb1, hos, hz, hown, hS⟩
  have hBsz1 := hBb1.size
  have hSo := edges_ownE hos rfl
  have hB := Below.refl wl1.heap.size wl1
  refine reg_seq ?_
  refine sI hS (runs_move rfl) fun _ hS => ?_
  refine sI hS (runs_move rfl) fun _ hS => ?_
  refine sI hS (runs_len rfl und32) fun _ hS => ?_
  by_cases hlt1 : i < (sortM l).length
  · skip
    refine sI hS (lssT rfl rfl (by omega)) fun _ hS => ?_
    refine nil_ok ⟨_, hS.eval rfl, fun h => by simp at h, fun _ => ?_⟩
    obtain ⟨x, hx⟩ : ∃ x, (sortM l)[i]? = some x := ⟨(sortM l)[i], by simp [hlt1]⟩
    obtain ⟨b, o, hbe, hbw, hr⟩ := edges_row hSo (by omega)
    cases hbe
    have hrx := edges_at hr hx
    obtain ⟨q1, q2, q3⟩ := hfs x (List.mem_of_getElem? hx)
    refine qx_seq (qx_block (qx_seq (reg_seq ?_)))
    refine sI hS (runs_move rfl) fun _ hS => ?_
    refine sI hS (runs_move rfl) fun _ hS => ?_
    refine sI hS (runs_indexAddrG (j := i) rfl rfl und32 sz41 rfl hlt1) fun _ hS => ?_
    refine sI hS (runs_fieldK fo41_0 rfl) fun _ hS => ?_
    refine sI hS (runs_load rfl pl3 (hrx 0 (.int .i64 x.1) rfl)) fun _ hS => ?_
    by_cases n1 : x.1 < 0
    · skip
      refine sI hS (lssT rfl rfl (by omega)) fun _ hS => ?_
      refine sI hS (runs_move rfl) fun _ hS => ?_
      refine sN hS fun _ hS => ?_
      refine sN hS fun _ hS => ?_
      refine sN hS fun _ hS => ?_
      refine sN hS fun _ hS => ?_
      refine sN hS fun _ hS => ?_
      refine sN hS fun _ hS => ?_
      refine sI hS (runs_pick rfl rfl) fun _ hS => ?_
      refine nil_ok (wp_cond_true (hS.eval rfl) (reg_seq ?_))
      refine sI hS (runs_move rfl) fun _ hS => ?_
      refine seq_op hS (by decide) (runs_oneSt (s := ⟨#[]⟩) rfl) (fun v5 w5 a1 hp hS => ?_)
      obtain ⟨g2, rfl, hX, hB5⟩ := hp
      have hB := hB.trans (hB5.mono hB.size)
      refine seq_op hS (by decide) (push_ownSK (B := w.heap.size) (t := ⟨#[]⟩) rfl (owns_kept hown hB) rfl hX (by omega) (Nat.le_trans hBsz1 hB.size) ((Nat.eq_zero_or_pos i).elim (fun h => .inr (fun g m c e => by rw [hz h] at e; cases e; rfl)) .inl)) (fun v7 w7 a1 hp hS => ?_)
      obtain ⟨hown3, hK3⟩ := hp
      refine sI hS (runs_assign rfl) fun _ hS => ?_
      refine nil_ok (reg_seq ?_)
      refine sI hS (runs_move rfl) fun _ hS => ?_
      refine sI hS (runs_add (r := ((i + 1 : Nat) : Int)) rfl rfl (by simp [IntKind.wrap, IntKind.bits, IntKind.signed]; omega)) fun _ hS => ?_
      refine sI hS (runs_assign rfl) fun _ hS => ?_
      exact nil_ok ⟨_, by omega, i + 1, v7, by omega, rfl, hBb1.trans ((hB.mono hBb1.size).trans hK3.1), owns_other (owns_kept hos hB) hK3.2.2.1 (by decide), (fun h => by omega), by rw [rowB_snoc hx, show rowM x = [] by unfold rowM; rw [if_pos (by omega)]]; exact hown3, hS.only _ ⟨rfl, rfl, rfl, trivial⟩⟩
    refine sI hS (lssF rfl rfl (by omega)) fun _ hS => ?_
    refine sI hS (runs_move rfl) fun _ hS => ?_
    refine sY hS (runs_move rfl) fun _ hS => ?_
    refine sY hS (runs_move rfl) fun _ hS => ?_
    refine sY hS (runs_indexAddrG (j := i) rfl rfl und32 sz41 rfl hlt1) fun _ hS => ?_
    refine sY hS (runs_fieldK fo41_1 rfl) fun _ hS => ?_
    refine sY hS (runs_load rfl pl3 (hrx 1 (.int .i64 x.2.1) rfl)) fun _ hS => ?_
    by_cases n2 : x.2.1 < 0
    · skip
      refine sY hS (lssT rfl rfl (by omega)) fun _ hS => ?_
      refine sI hS (runs_pick rfl rfl) fun _ hS => ?_
      refine nil_ok (wp_cond_true (hS.eval rfl) (reg_seq ?_))
      refine sI hS (runs_move rfl) fun _ hS => ?_
      refine seq_op hS (by decide) (runs_oneSt (s := ⟨#[]⟩) rfl) (fun v8 w8 a1 hp hS => ?_)
      obtain ⟨g2, rfl, hX, hB8⟩ := hp
      have hB := hB.trans (hB8.mono hB.size)
      refine seq_op hS (by decide) (push_ownSK (B := w.heap.size) (t := ⟨#[]⟩) rfl (owns_kept hown hB) rfl hX (by omega) (Nat.le_trans hBsz1 hB.size) ((Nat.eq_zero_or_pos i).elim (fun h => .inr (fun g m c e => by rw [hz h] at e; cases e; rfl)) .inl)) (fun v10 w10 a1 hp hS => ?_)
      obtain ⟨hown3, hK3⟩ := hp
      refine sI hS (runs_assign rfl) fun _ hS => ?_
      refine nil_ok (reg_seq ?_)
      refine sI hS (runs_move rfl) fun _ hS => ?_
      refine sI hS (runs_add (r := ((i + 1 : Nat) : Int)) rfl rfl (by simp [IntKind.wrap, IntKind.bits, IntKind.signed]; omega)) fun _ hS => ?_
      refine sI hS (runs_assign rfl) fun _ hS => ?_
      exact nil_ok ⟨_, by omega, i + 1, v10, by omega, rfl, hBb1.trans ((hB.mono hBb1.size).trans hK3.1), owns_other (owns_kept hos hB) hK3.2.2.1 (by decide), (fun h => by omega), by rw [rowB_snoc hx, show rowM x = [] by unfold rowM; rw [if_pos (by omega)]]; exact hown3, hS.only _ ⟨rfl, rfl, rfl, trivial⟩⟩
    refine sY hS (lssF rfl rfl (by omega)) fun _ hS => ?_
    refine sI hS (runs_pick rfl rfl) fun _ hS => ?_
    refine nil_ok (wp_cond_false (hS.eval rfl) (?_))
    have p1 : x.1 = ((x.1.toNat : Nat) : Int) := by omega
    have p2 : x.2.1 = ((x.2.1.toNat : Nat) : Int) := by omega
    have l1 := Wire.num_len10 x.1.toNat (by omega)
    have l2 := Wire.num_len10 x.2.1.toNat (by omega)
    have l3 := Wire.num_len10 (Wire.fold x.2.2) (Wire.fold_lt _ q3.1 q3.2)
    have hrow : rowM x = Wire.num x.1.toNat ++ Wire.num x.2.1.toNat ++ Wire.num (Wire.fold x.2.2) := by unfold rowM; rw [if_neg (by omega)]
    refine reg_guard (fun w' => Below wl1.heap.size wl1 w') [.inl (ov), .inl (.slice (some ⟨gs, 0, none⟩) (sortM l).length cs), .inl (.int .i64 (i : Int)), .inl (.pointer (some ⟨gs, 0 + i * 3, none⟩)), .inl (.pointer (some ⟨gs, 0 + i * 3 + 0, none⟩)), .inl (.int .i64 x.1), .inl (.int .u64 ((x.1.toNat : Nat) : Int)), .inl (.string (S (Wire.num x.1.toNat))), .inl (.slice (some ⟨gs, 0, none⟩) (sortM l).length cs), .inl (.int .i64 (i : Int)), .inl (.pointer (some ⟨gs, 0 + i * 3, none⟩)), .inl (.pointer (some ⟨gs, 0 + i * 3 + 1, none⟩)), .inl (.int .i64 x.2.1), .inl (.int .u64 ((x.2.1.toNat : Nat) : Int)), .inl (.string (S (Wire.num x.2.1.toNat))), .inl (.string (S (Wire.num x.1.toNat ++ Wire.num x.2.1.toNat))), .inl (.slice (some ⟨gs, 0, none⟩) (sortM l).length cs), .inl (.int .i64 (i : Int)), .inl (.pointer (some ⟨gs, 0 + i * 3, none⟩)), .inl (.pointer (some ⟨gs, 0 + i * 3 + 2, none⟩)), .inl (.int .i64 x.2.2), .inl (.string (S (Wire.num (Wire.fold x.2.2)))), .inl (.string (S (rowM x))), .inr (fun v w' => ∃ g2, v = .slice (some ⟨g2, 0, none⟩) 1 1 ∧ Has w' g2 9 [.string (S (rowM x))])] 24 2 mixed rfl (by kernel_rfl) hS (Below.refl _ _) (fun _ h => h.drew) ?_
    refine hs_is rfl (fun w' hw => runs_move rfl) ?_
    refine hs_is rfl (fun w' hw => runs_move rfl) ?_
    refine hs_is rfl (fun w' hw => runs_move rfl) ?_
    refine hs_is rfl (fun w' hw => runs_indexAddrG (j := i) rfl rfl und32 sz41 rfl hlt1) ?_
    refine hs_is rfl (fun w' hw => runs_fieldK fo41_0 rfl) ?_
    refine hs_is rfl (fun w' hw => runs_load rfl pl3 ((range_below hrx hw hbw) 0 (.int .i64 x.1) rfl)) ?_
    refine hs_is rfl (fun w' hw => runs_convInt (r := ((x.1.toNat : Nat) : Int)) rfl (by decide) undB64 (by simp [IntKind.wrap, IntKind.bits, IntKind.signed]; omega)) ?_
    refine hs_val rfl (fun w' hw hq => (runs_call (args := [.int .u64 ((x.1.toNat : Nat) : Int)]) goes50 rfl (rnum_a x.1.toNat w' (by omega))).mono (by rintro u w5 ⟨rfl, hb⟩; exact ⟨rfl, hw.trans (hb.mono hw.size), hb⟩)) ?_
    refine hs_is rfl (fun w' hw => runs_move rfl) ?_
    refine hs_is rfl (fun w' hw => runs_move rfl) ?_
    refine hs_is rfl (fun w' hw => runs_indexAddrG (j := i) rfl rfl und32 sz41 rfl hlt1) ?_
    refine hs_is rfl (fun w' hw => runs_fieldK fo41_1 rfl) ?_
    refine hs_is rfl (fun w' hw => runs_load rfl pl3 ((range_below hrx hw hbw) 1 (.int .i64 x.2.1) rfl)) ?_
    refine hs_is rfl (fun w' hw => runs_convInt (r := ((x.2.1.toNat : Nat) : Int)) rfl (by decide) undB64 (by simp [IntKind.wrap, IntKind.bits, IntKind.signed]; omega)) ?_
    refine hs_val rfl (fun w' hw hq => (runs_call (args := [.int .u64 ((x.2.1.toNat : Nat) : Int)]) goes50 rfl (rnum_a x.2.1.toNat w' (by omega))).mono (by rintro u w5 ⟨rfl, hb⟩; exact ⟨rfl, hw.trans (hb.mono hw.size), hb⟩)) ?_
    refine hs_is rfl (fun w' hw => runs_catG rfl rfl (S_cat _ _) (by rw [S_size, S_size]; omega)) ?_
    refine hs_is rfl (fun w' hw => runs_move rfl) ?_
    refine hs_is rfl (fun w' hw => runs_move rfl) ?_
    refine hs_is rfl (fun w' hw => runs_indexAddrG (j := i) rfl rfl und32 sz41 rfl hlt1) ?_
    refine hs_is rfl (fun w' hw => runs_fieldK fo41_2 rfl) ?_
    refine hs_is rfl (fun w' hw => runs_load rfl pl2 ((range_below hrx hw hbw) 2 (.int .i64 x.2.2) rfl)) ?_
    refine hs_val rfl (fun w' hw hq => (runs_call (args := [.int .i64 x.2.2]) goes51 rfl (rint_a x.2.2 w' q3.1 q3.2)).mono (by rintro u w5 ⟨rfl, hb⟩; exact ⟨rfl, hw.trans (hb.mono hw.size), hb⟩)) ?_
    refine hs_is rfl (fun w' hw => runs_catG rfl rfl (by rw [S_cat, hrow]) (by rw [S_size, S_size, List.length_append]; omega)) ?_
    refine hs_pr rfl (fun _ _ _ h hk => by obtain ⟨g2, h1, h2⟩ := h; exact ⟨g2, h1, h2.below hk h2.lt⟩) (fun w' hw hq => (runs_oneSt (s := S (rowM x)) rfl).mono (by rintro v w5 ⟨g2, h1, h2, hb⟩; exact ⟨⟨g2, h1, h2⟩, hw.trans (hb.mono hw.size), hb⟩)) (fun u23 => ?_)
    refine (fun a11 w11 hS hB11 hq => ?_)
    obtain ⟨g2, rfl, hX⟩ := (hq (23, _) List.mem_cons_self)
    clear hq
    have hB := hB.trans (hB11.mono hB.size)
    refine tail_op 24 (by kernel_rfl) rfl hS (by decide) (push_ownSK (B := w.heap.size) (t := S (rowM x)) rfl (owns_kept hown hB) rfl hX (by omega) (Nat.le_trans hBsz1 hB.size) ((Nat.eq_zero_or_pos i).elim (fun h => .inr (fun g m c e => by rw [hz h] at e; cases e; rfl)) .inl)) (fun v13 w13 a13 hp hS => ⟨trivial, ?_⟩)
    obtain ⟨hown3, hK3⟩ := hp
    refine tail_op 25 (by kernel_rfl) rfl hS (by decide) (runs_assign rfl) (fun v14 w14 a14 hp hS => ⟨trivial, ?_⟩)
    obtain ⟨rfl, rfl⟩ := hp
    refine wpAnyH_done (by kernel_rfl) ?_ _
    refine reg_seq ?_
    refine sI hS (runs_move rfl) fun _ hS => ?_
    refine sI hS (runs_add (r := ((i + 1 : Nat) : Int)) rfl rfl (by simp [IntKind.wrap, IntKind.bits, IntKind.signed]; omega)) fun _ hS => ?_
    refine sI hS (runs_assign rfl) fun _ hS => ?_
    exact nil_ok ⟨_, by omega, i + 1, v14, by omega, rfl, hBb1.trans ((hB.mono hBb1.size).trans hK3.1), owns_other (owns_kept hos hB) hK3.2.2.1 (by decide), (fun h => by omega), by rw [rowB_snoc hx]; exact hown3, hS.only _ ⟨rfl, rfl, rfl, trivial⟩⟩
  refine sI hS (lssF rfl rfl (by omega)) fun _ hS => ?_
  obtain rfl : i = (sortM l).length := by omega
  refine nil_ok ⟨_, hS.eval rfl, fun _ => ?_, fun h => by simp at h⟩
  have hB := hBb1
  rw [List.take_length, rowB_sort] at hown
  refine qx_seq (reg_seq ?_)
  refine sI hS (runs_move rfl) fun _ hS => ?_
  refine sI hS (runs_assign rfl) fun _ hS => ?_
  exact nil_ok (qx_ret (ret1 (t := 2) (by kernel_rfl) hS rfl ⟨_, rfl, strs_ownR hown (by rw [List.length_map, rowsM_length, sortM_length]), hB⟩))
end Go.Proofs.YtooeahpkhocaeaaGreatDoor
/- Layer 11: the program's Check. Conditions: at most 10000 messages. -/
namespace Go.Proofs.YtooeahpkhocaeaaGreatDoor
open Go.RowKit
set_option maxRecDepth 100000

def place (e : E) : Nat := e.1.toNat * 64 + e.2.1.toNat
end Go.Proofs.YtooeahpkhocaeaaGreatDoor
/- Layer 8: messages put in order: the library's sort with the program's own comparing. Conditions: none of our own. -/
namespace Go.Proofs.YtooeahpkhocaeaaGreatDoor
open Go.Shelf Go.RowKit
set_option maxRecDepth 100000

def sortE_ren : Go.Shelf.Ren := ⟨fun | 6 => 74 | 15 => 71 | 14 => 89 | 28 => 87 | 29 => 88 | 20 => 94 | 21 => 95 | 22 => 96 | 23 => 97 | 24 => 98 | 25 => 99 | 26 => 100 | 27 => 101 | 46 => 104 | 47 => 105 | 48 => 106 | 49 => 107 | 50 => 108 | 57 => 110 | n => n, fun | 22 => 30 | 24 => 81 | 25 => 111 | 3 => 3 | 39 => 68 | 0 => 0 | 53 => 121 | 55 => 44 | 4 => 4 | 46 => 136 | 45 => 135 | 50 => 140 | 5 => 5 | 9 => 9 | 66 => 145 | 70 => 148 | 76 => 150 | 77 => 151 | n => n, fun | n => n⟩
theorem sortE : Go.Proofs.SlLaysF0.n6 Tryz.prog sortE_ren := {
  mixed := by kernel_rfl
  f6 := ⟨Tryz.f74.name, by decide, Tryz.func74.trans (congrArg some (by kernel_rfl))⟩
  f14 := ⟨Tryz.f89.name, by decide, Tryz.func89.trans (congrArg some (by kernel_rfl))⟩
  f15 := Tryz.func71.trans (congrArg some (by kernel_rfl))
  f20 := ⟨Tryz.f94.name, by decide, Tryz.func94.trans (congrArg some (by kernel_rfl))⟩
  f21 := ⟨Tryz.f95.name, by decide, Tryz.func95.trans (congrArg some (by kernel_rfl))⟩
  f22 := ⟨Tryz.f96.name, by decide, Tryz.func96.trans (congrArg some (by kernel_rfl))⟩
  f23 := ⟨Tryz.f97.name, by decide, Tryz.func97.trans (congrArg some (by kernel_rfl))⟩
  f24 := ⟨Tryz.f98.name, by decide, Tryz.func98.trans (congrArg some (by kernel_rfl))⟩
  f25 := ⟨Tryz.f99.name, by decide, Tryz.func99.trans (congrArg some (by kernel_rfl))⟩
  f26 := ⟨Tryz.f100.name, by decide, Tryz.func100.trans (congrArg some (by kernel_rfl))⟩
  f27 := ⟨Tryz.f101.name, by decide, Tryz.func101.trans (congrArg some (by kernel_rfl))⟩
  f28 := Tryz.func87.trans (congrArg some (by kernel_rfl))
  f29 := Tryz.func88.trans (congrArg some (by kernel_rfl))
  f46 := ⟨Tryz.f104.name, by decide, Tryz.func104.trans (congrArg some (by kernel_rfl))⟩
  f47 := Tryz.func105.trans (congrArg some (by kernel_rfl))
  f48 := Tryz.func106.trans (congrArg some (by kernel_rfl))
  f49 := ⟨Tryz.f107.name, by decide, Tryz.func107.trans (congrArg some (by kernel_rfl))⟩
  f50 := ⟨Tryz.f108.name, by decide, Tryz.func108.trans (congrArg some (by kernel_rfl))⟩
  f57 := ⟨Tryz.f110.name, by decide, Tryz.func110.trans (congrArg some (by kernel_rfl))⟩
  t0 := Tryz.underlying0
  a0 := Tryz.isAgg0
  z0 := Tryz.sizeOf0
  v0 := Tryz.zeroValue0
  t3 := Tryz.underlying3
  a3 := Tryz.isAgg3
  z3 := Tryz.sizeOf3
  v3 := Tryz.zeroValue3
  t4 := Tryz.underlying4
  a4 := Tryz.isAgg4
  z4 := Tryz.sizeOf4
  v4 := Tryz.zeroValue4
  t5 := Tryz.underlying5
  a5 := Tryz.isAgg5
  z5 := Tryz.sizeOf5
  v5 := Tryz.zeroValue5
  t9 := Tryz.underlying9
  a9 := Tryz.isAgg9
  z9 := Tryz.sizeOf9
  v9 := Tryz.zeroValue9
  t22 := Tryz.underlying30
  a22 := Tryz.isAgg30
  z22 := Tryz.sizeOf30
  v22 := Tryz.zeroValue30
  t25 := Tryz.underlying111
  a25 := Tryz.isAgg111
  z25 := Tryz.sizeOf111
  v25 := Tryz.zeroValue111
  t39 := Tryz.underlying68
  a39 := Tryz.isAgg68
  z39 := Tryz.sizeOf68
  v39 := Tryz.zeroValue68
  t45 := Tryz.underlying135
  a45 := Tryz.isAgg135
  z45 := Tryz.sizeOf135
  v45 := Tryz.zeroValue135
  t46 := Tryz.underlying136
  a46 := Tryz.isAgg136
  z46 := Tryz.sizeOf136
  v46 := Tryz.zeroValue136
  t50 := Tryz.underlying140
  a50 := Tryz.isAgg140
  z50 := Tryz.sizeOf140
  v50 := Tryz.zeroValue140
  t53 := Tryz.underlying121
  a53 := Tryz.isAgg121
  z53 := Tryz.sizeOf121
  v53 := Tryz.zeroValue121
  t55 := Tryz.underlying44
  a55 := Tryz.isAgg44
  z55 := Tryz.sizeOf44
  v55 := Tryz.zeroValue44
  t66 := Tryz.underlying145
  a66 := Tryz.isAgg145
  z66 := Tryz.sizeOf145
  v66 := Tryz.zeroValue145
  t70 := Tryz.underlying148
  a70 := Tryz.isAgg148
  z70 := Tryz.sizeOf148
  v70 := Tryz.zeroValue148
  t76 := Tryz.underlying150
  a76 := Tryz.isAgg150
  z76 := Tryz.sizeOf150
  v76 := Tryz.zeroValue150
  t77 := Tryz.underlying151
  a77 := Tryz.isAgg151
  z77 := Tryz.sizeOf151
  v77 := Tryz.zeroValue151 }
theorem ltM_cf (a b : E) : ltOf cfM a b = lessM a b := by
  unfold ltOf cfM cmpI lessM
  repeat' split
  all_goals first
    | (rw [decide_eq_decide]; omega)
    | (simp only [decide_eq_decide]; omega)
    | omega
theorem swoM : Sort.SWO (ltOf cfM) where
  irrefl x := by rw [ltM_cf, lessM_no]; omega
  trans x y z h1 h2 := by rw [ltM_cf, lessM_iff] at *; omega
  ntrans x y z h1 h2 := by rw [ltM_cf, lessM_no] at *; omega
theorem holdsE {w : World} {g : Nat} {cur : Array Value} {es : List E} (hg : w.heap[g]? = some (.cells cur 81 (0, 0))) (h : cur.toList.take (es.length * 3) = cellsE es) : Sort.HoldsK encE 3 w g 0 es.toArray := by
  intro j hj
  simp only [Sort.size_flatK, List.size_toArray] at hj
  rw [Sort.get_flatK _ _ _ _ (by simpa using hj)]
  have hq : j / 3 < es.length := by omega
  have he : es.toArray[j / 3]! = es[j / 3] := by simp [hq]
  have h1 := cellsE_get es (j / 3) es[j / 3] (List.getElem?_eq_getElem hq)
  have h2 : (cellsE es)[j]? = (encE es[j / 3])[j % 3]? := by
    rw [← h1, List.getElem?_take, if_pos (Nat.mod_lt _ (by omega)), List.getElem?_drop, show j / 3 * 3 + j % 3 = j by omega]
  have h3 : (encE es[j / 3])[j % 3]? = some (encE es[j / 3])[j % 3]! := by
    have : j % 3 < (encE es[j / 3]).length := by simp [encE]; omega
    rw [List.getElem?_eq_getElem this, getElem!_pos (encE es[j / 3]) (j % 3) this]
  rw [h3, ← h, List.getElem?_take, if_pos hj] at h2
  rw [he]
  refine ⟨?_, ?_⟩
  · simp only [World.cell?, hg, Nat.zero_add, id]; simpa using h2
  · simp [World.frozen?, hg]
theorem rangeK {w : World} {g : Nat} {d : Array E} (h : Sort.HoldsK encE 3 w g 0 d) : w.rangeAt g 0 (cellsE d.toList) := by
  intro j v hv
  have hj : j < d.toList.length * 3 := by have := (List.getElem?_eq_some_iff.1 hv).1; rwa [cellsE_length] at this
  have hq : j / 3 < d.toList.length := by omega
  have h1 := cellsE_get d.toList (j / 3) d.toList[j / 3] (List.getElem?_eq_getElem hq)
  have h2 : (cellsE d.toList)[j]? = (encE d.toList[j / 3])[j % 3]? := by
    rw [← h1, List.getElem?_take, if_pos (Nat.mod_lt _ (by omega)), List.getElem?_drop, show j / 3 * 3 + j % 3 = j by omega]
  have hd : j / 3 < d.size := by simpa using hq
  have := (h.cell (i := j / 3) (c := j % 3) hd (Nat.mod_lt _ (by omega))).1
  rw [show 0 + j / 3 * 3 + j % 3 = 0 + j by omega] at this
  rw [this, ← hv, h2]
  have he : d[j / 3]! = d.toList[j / 3] := by simp [hd]
  have h3 : j % 3 < (encE d.toList[j / 3]).length := by simp [encE]; omega
  rw [he, List.getElem?_eq_getElem h3, getElem!_pos (encE d.toList[j / 3]) (j % 3) h3]
theorem sortWorld_below {B : Nat} {w : World} {g n : Nat} {d : Array E} {os : Array Obj} (hB : B ≤ g) (hw : B ≤ w.heap.size) : Below B w (sortWorldK encE 3 w g 0 n d os) := by
  refine ⟨rfl, rfl, rfl, ?_, fun i hi => ?_⟩
  · simp only [sortWorldK, Sort.grow, Sort.putRowK, Sort.putRow, Sort.mapBlock, Sort.ahead]
    simp
  · simp only [sortWorldK, Sort.grow, Sort.putRowK, Sort.putRow, Sort.mapBlock, Sort.ahead]
    rw [Array.getElem?_append_left (by simp; omega), Array.getElem?_modify]
    rw [if_neg (by omega)]
theorem sorted_ofM {es : List E} {d : Array E} (hp : Sort.PermIn 0 es.toArray.size es.toArray d) (hs : Sort.SortedIn (ltOf cfM) 0 es.toArray.size d) : d.toList = sortM es := by
  obtain ⟨h1, _, h3⟩ := hp
  have e1 : (d.extract 0 es.toArray.size) = d := by rw [← h1]; simp
  have e2 : (es.toArray.extract 0 es.toArray.size) = es.toArray := by simp
  rw [e1, e2] at h3
  have hperm : d.toList.Perm es := by simpa using h3
  refine sortM_is hperm ?_
  rw [List.pairwise_iff_getElem]
  intro i j hi hj hij
  have hsz : d.toList.length = es.length := hperm.length_eq
  have := hs i j (Nat.zero_le _) hij (by simp; omega)
  have hi' : i < d.size := by simpa using hi
  have hj' : j < d.size := by simpa using hj
  rw [getElem!_pos d j hj', getElem!_pos d i hi', ltM_cf] at this
  simpa [leM] using this
set_option maxHeartbeats 1000000 in
theorem sort_any (es : List E) (hsm : es.length ≤ 10000) (B : Nat) (v : Value) (w : World) (hown : w.ownsRow B 81 3 v es.length (cellsE es)) : Ans 74 [v, .func (.func 75) #[] #[]] w (fun _ w' => Below B w w' ∧ EdgesB B w' v (sortM es)) := by
  rcases hown.2 with ⟨rfl, h0⟩ | ⟨g, cap, cur, rfl, hg, hh, hc1, hc2, hc3, hc4⟩
  · obtain rfl : es = [] := List.eq_nil_of_length_eq_zero h0
    have h := AnyF.slices_SortFunc_none sortE none 0 (.func (.func 75) #[] #[]) w
    change Calls Tryz.prog 74 _ _ _ at h
    exact h.mono (by rintro e w' ⟨rfl, rfl⟩; exact ⟨_, rfl, Below.refl _ _, edgesB_nil _ _⟩)
  · have hgl : g < w.heap.size := (Array.getElem?_eq_some_iff.1 hh).1
    have hH := holdsE hh hc4
    have eg : ∀ args w, (callFunc 75 args).run Tryz.prog w = .ok (.enter 75 args) w := enters_of Tryz.func75 (by kernel_rfl) rfl
    have hcmp : CmpLays Tryz.prog 75 #[] encE 3 cfM g 0 es.toArray.size w := fun _ _ _ _ x y =>
      (cmp_any x y _).mono (by rintro e w' ⟨v, rfl, rfl, q, os, rfl⟩; exact ⟨rfl, q, os, rfl⟩)
    have h := AnyQ.slices_SortFunc sortE 3 Tryz.isAgg81 Tryz.sizeOf81 encE (fun _ => rfl) (fun x v hv => by simp [encE] at hv; rcases hv with rfl | rfl | rfl <;> rfl) cfM swoM 75 #[] g 0 cap es.toArray w eg hcmp hH hgl (by simp; omega)
    change Calls Tryz.prog 74 _ _ _ at h
    rw [show es.toArray.size = es.length by simp] at h
    refine h.mono ?_
    rintro e w' ⟨rfl, d, n, os, hp, hs, rfl⟩
    have hdl := sorted_ofM (by simpa using hp) (by simpa using hs)
    refine ⟨_, rfl, sortWorld_below hg (by omega), ?_⟩
    have hl : (sortM es).length = es.length := sortM_length es
    refine ⟨_, cap, by rw [hl], by omega, hc2, fun _ => ⟨g, 0, rfl, hg, ?_, ?_⟩⟩
    · have h2 := (sortWorld_below (B := 0) (w := w) (g := g) (n := n) (d := d) (os := os) (Nat.zero_le _) (Nat.zero_le _)).size
      exact Nat.lt_of_lt_of_le hgl h2
    · rw [← hdl]
      refine rangeK ?_
      unfold sortWorldK
      have hH2 := Sort.holdsK_ahead (enc := encE) (k := 3) w n g 0 es.toArray hH
      have hH3 := Sort.holdsK_putRowK (enc := encE) (k := 3) (Sort.ahead w n) g 0 es.toArray d hH2 hp.1
      exact Sort.holdsK_grow (enc := encE) (k := 3) _ os g 0 d (by simp [Sort.putRowK, Sort.putRow, Sort.mapBlock, Sort.ahead]; exact hgl) hH3
end Go.Proofs.YtooeahpkhocaeaaGreatDoor
