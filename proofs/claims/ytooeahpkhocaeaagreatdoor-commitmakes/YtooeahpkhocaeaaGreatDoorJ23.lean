/- Layer 8: the document's Sort. Conditions: none of our own. -/
import Derived.Test.YtooeahpkhocaeaaGreatDoorJ22
import Derived.ProofKit
import Derived.OpenShut
import Derived.ShutString
import Derived.Lib.LaidTab
import Derived.ChangeOld
import Derived.ChangeSame
import Derived.Below
import Derived.Deep.Slices
import Derived.Test.YtooeahpkhocaeaaGreatDoorJ19
import Derived.Test.YtooeahpkhocaeaaGreatDoorJ18
namespace Go.Proofs.YtooeahpkhocaeaaGreatDoor
open Go.RowKit
set_option maxRecDepth 100000

section
variable {P : Program} {L : List (Nat × Value)} {w : World} {ty : TypeId}
theorem runs_sliceFromE {t e : TypeId} {x lo : Operand} {A B : Option Addr} {m c l : Nat} {i : Int} (hx : vals L x = some (.slice A m c)) (hlo : vals L lo = some (.int .i64 i)) (hi' : i = (l : Int)) (hu : P.underlying t = some (.slice e)) (hs : (P.info? e).map (·.size) = some 3) (hlm : l ≤ m) (hA : (if c = l then A else A.map (·.add (l * 3))) = B) :
    Runs P (.slice t x (some lo) none none) ty L w (Is (.slice B (m - l) (c - l)) w) := by
  have := runs_sliceFromG (ty := ty) (w := w) hx hlo hi' hu hs hlm
  rw [hA] at this
  exact this
end
theorem Edges.cap_le {w : World} {A : Option Addr} {c : Nat} {l : List E} (h : Edges w (.slice A l.length c) l) : l.length ≤ c := by
  obtain ⟨A', c', hv, h1, _, _⟩ := h
  simp only [Value.slice.injEq, true_and] at hv
  omega
theorem edges_has1 {w : World} {g : Nat} {x : E} (h : Has w g 81 (encE x)) : Edges w (.slice (some ⟨g, 0, none⟩) 1 1) [x] :=
  ⟨_, _, rfl, Nat.le_refl _, by unfold maxLen; omega, fun _ => ⟨g, 0, rfl, h.lt, fun j v hv => by rw [Nat.zero_add, h.cell]; exact hv⟩⟩
set_option maxHeartbeats 1000000 in
theorem rsort_any (l : List E) (hsm : l.length ≤ 10000) (v : Value) (w : World) (hE : Edges w v l) : Ans 49 [v] w (fun u w' => Below w.heap.size w w' ∧ (∃ g c, u = .slice (some ⟨g, 0, none⟩) (sortM l).length c) ∧ w'.ownsRow w.heap.size 81 3 u (sortM l).length (cellsE (sortM l))) := by
  obtain ⟨A, c, rfl, h1, h2, hA⟩ := hE
  have hE : Edges w (.slice A l.length c) l := ⟨A, c, rfl, h1, h2, hA⟩
  refine calls_qx (args := [.slice A l.length c]) 47 Tryz.func49 rfl (by kernel_rfl) (by simp) (fun a hS => ?_)
  have hB := Below.refl w.heap.size w
  have hEb := hE
  refine qx_seq (reg_seq ?_)
  refine sI hS (runs_assign rfl) fun _ hS => ?_
  refine nil_ok (qx_seq (reg_seq ?_))
  refine seq_op hS (by decide) (none_ownM (B := w.heap.size) hB.size) (fun v1 w1 a1 hp hS => ?_)
  obtain ⟨⟨g, rfl, h0⟩, hB1⟩ := hp
  have hB := hB.trans (hB1.mono hB.size)
  have hE := hEb.kept hB
  refine sI hS (runs_assign rfl) fun _ hS => ?_
  refine nil_ok (qx_seq (qx_seq (reg_seq ?_)))
  refine sI hS (runs_assign rfl) fun _ hS => ?_
  refine nil_ok (?_)
  refine qx_for (fun mm a w' => ∃ (i : Nat) (go co : Nat) (O : List E), i ≤ l.length ∧ mm = l.length - i ∧ Below w.heap.size w w' ∧ O = sortM (l.take i) ∧ w'.ownsRow w.heap.size 81 3 (.slice (some ⟨go, 0, none⟩) O.length co) O.length (cellsE O) ∧ Sees 47 [(4, .int .i64 (i : Int)), (3, .slice (some ⟨go, 0, none⟩) O.length co), (0, .slice A l.length c)] a) l.length ⟨0, g, 0, [], by omega, by omega, hB, by simp [sortM], h0, hS.only _ ⟨rfl, rfl, rfl, trivial⟩⟩ ?_
  clear hS 
  rintro mm a wl1 ⟨i, go, co, O, hi1, rfl, hBb1, hO, hown, hS⟩
  have hBsz1 := hBb1.size
  have hE := hEb.kept hBb1
  have hB := Below.refl wl1.heap.size wl1
  have hEb1 := hE
  refine reg_seq ?_
  refine sI hS (runs_move rfl) fun _ hS => ?_
  refine sI hS (runs_move rfl) fun _ hS => ?_
  refine sI hS (runs_len rfl und32) fun _ hS => ?_
  by_cases hlt1 : i < l.length
  · skip
    refine sI hS (lssT rfl rfl (by omega)) fun _ hS => ?_
    refine nil_ok ⟨_, hS.eval rfl, fun h => by simp at h, fun _ => ?_⟩
    obtain ⟨x, hxi⟩ : ∃ x, l[i]? = some x := ⟨l[i], by simp [hlt1]⟩
    have ole : O.length ≤ 10000 := by rw [hO, sortM_length, List.length_take]; omega
    have hownb := hown
    refine qx_seq (qx_block (qx_seq (reg_seq ?_)))
    refine sI hS (runs_assign rfl) fun _ hS => ?_
    refine nil_ok (qx_seq (?_))
    refine qx_for (fun mm a w' => ∃ (q : Nat), q ≤ O.length ∧ mm = O.length - q ∧ Below wl1.heap.size wl1 w' ∧ (∀ j y, j < q → O[j]? = some y → lessM x y = false) ∧ Sees 47 [(5, .int .i64 (q : Int)), (4, .int .i64 (i : Int)), (3, .slice (some ⟨go, 0, none⟩) O.length co), (0, .slice A l.length c)] a) O.length ⟨0, by omega, by omega, hB, (fun j y hj => by omega), hS.only _ ⟨rfl, rfl, rfl, rfl, trivial⟩⟩ ?_
    clear hS 
    rintro mm a wl2 ⟨q, hi2, rfl, hBb2, hno, hS⟩
    have hE := hEb1.kept hBb2
    have hown := owns_kept hownb hBb2
    have hB := Below.refl wl2.heap.size wl2
    have hEb2 := hE
    by_cases hq : q < O.length
    · skip
      obtain ⟨y, hyq⟩ : ∃ y, O[q]? = some y := ⟨O[q], by simp [hq]⟩
      obtain ⟨bo, oo, hAo, hbo, hro⟩ := edges_row (edges_ownE hown rfl) (by omega)
      cases hAo
      have hry := edges_at hro hyq
      obtain ⟨b, o, hAe, hbw, hr⟩ := edges_row hE (by omega)
      have hrx := edges_at hr hxi
      by_cases hle : lessM x y = true
      · skip
        refine reg_guard (fun w' => Below wl2.heap.size wl2 w') [.inl (.int .i64 (q : Int)), .inl (.slice (some ⟨go, 0, none⟩) O.length co), .inl (.int .i64 ((O.length : Nat) : Int)), .inl (.bool true), .inl (.bool true), .inl (.slice A l.length c), .inl (.int .i64 (i : Int)), .inl (.pointer (some ⟨b, o + i * 3, none⟩)), .inl (.agg (encE x).toArray), .inl (.slice (some ⟨go, 0, none⟩) O.length co), .inl (.int .i64 (q : Int)), .inl (.pointer (some ⟨go, 0 + q * 3, none⟩)), .inl (.agg (encE y).toArray), .inl (.bool true), .inl (.bool false), .inl (.bool false)] 16 0 mixed rfl (by kernel_rfl) hS (Below.refl _ _) (fun _ h => h.drew) ?_
        refine hs_is rfl (fun w' hw => runs_move rfl) ?_
        refine hs_is rfl (fun w' hw => runs_move rfl) ?_
        refine hs_is rfl (fun w' hw => runs_len rfl und32) ?_
        refine hs_is rfl (fun w' hw => lssT rfl rfl (by omega)) ?_
        refine hs_is rfl (fun w' hw => runs_move rfl) ?_
        refine hs_yis rfl rfl (fun w' hw => runs_move rfl) ?_
        refine hs_yis rfl rfl (fun w' hw => runs_move rfl) ?_
        refine hs_yis rfl rfl (fun w' hw => runs_indexAddrG (j := i) (by rw [← hAe]; rfl) rfl und32 sz41 rfl hlt1) ?_
        refine hs_yis rfl rfl (fun w' hw => runs_loadM rfl (range_below hrx hw hbw)) ?_
        refine hs_yis rfl rfl (fun w' hw => runs_move rfl) ?_
        refine hs_yis rfl rfl (fun w' hw => runs_move rfl) ?_
        refine hs_yis rfl rfl (fun w' hw => runs_indexAddrG (j := q) rfl rfl und32 sz41 rfl hq) ?_
        refine hs_yis rfl rfl (fun w' hw => runs_loadM rfl (range_below hry hw hbo)) ?_
        refine hs_yval rfl rfl (fun w' hw hq => (runs_call (args := [.agg (encE x).toArray, .agg (encE y).toArray]) goes69 rfl (less_is (r := true) hle w')).mono (by rintro u w5 ⟨rfl, hb⟩; exact ⟨rfl, hw.trans (hb.mono hw.size), hb⟩)) ?_
        refine hs_yis rfl rfl (fun w' hw => runs_not (b := true) rfl) ?_
        refine hs_is rfl (fun w' hw => runs_pick rfl rfl) ?_
        refine (fun a3 w3 hS hB3 hq => ?_)
        clear hq
        have hB := hB.trans (hB3.mono hB.size)
        have hE := hEb2.kept hB
        have hown := owns_kept hown hB3
        refine wpAnyH_done (by kernel_rfl) ?_ _
        have hins : insM x O = O.take q ++ [x] ++ O.drop q := insM_at x O q hi2 hno (fun z hz => by rw [hyq] at hz; cases hz; exact hle)
        refine ⟨_, hS.eval rfl, fun _ => ?_, fun h => by simp at h⟩
        have hB := hBb2.trans (hB.mono hBb2.size)
        have hsz8 : wl1.heap.size ≤ w3.heap.size := hB.size
        have hOE := edges_ownE hown rfl
        have hD := edges_drop hOE q hi2
        have hTk := edges_take hOE q hi2
        obtain ⟨A13, hA13⟩ : ∃ A13, (if co = q then some (⟨go, 0, none⟩ : Addr) else (some (⟨go, 0, none⟩ : Addr)).map (·.add (q * 3))) = A13 := ⟨_, rfl⟩
        rw [hA13] at hD
        have hl41 : (O.take q ++ [x]).length = q + 1 := by simp; omega
        have hco : O.length ≤ co := hOE.cap_le
        have hinl : (insM x O).length = O.length + 1 := (insM_perm x O).length_eq
        obtain ⟨b, o, hAe, hbw, hr⟩ := edges_row hE (by omega)
        have hrx := edges_at hr hxi
        have hwW := hBsz1
        refine reg_k (KY w3.heap.size (cellsE (O.take q ++ [x]))) (fun w' => KY w3.heap.size (cellsE (O.take q ++ [x])) w3 w') [.inr (fun v w' => ∃ g, v = .slice (some ⟨g, 0, none⟩) 0 0 ∧ w'.ownsRow w3.heap.size 81 3 v 0 []), .inl (.slice (some ⟨go, 0, none⟩) O.length co), .inl (.int .i64 (q : Int)), .inl (.slice (some ⟨go, 0, none⟩) q co), .inr (fun v w' => ∃ g2 c2, v = .slice (some ⟨g2, 0, none⟩) (O.take q).length c2 ∧ ((O.take q).length = 0 → c2 = 0) ∧ w'.ownsRow w3.heap.size 81 3 v (O.take q).length (cellsE (O.take q))), .inl (.slice A l.length c), .inl (.int .i64 (i : Int)), .inl (.pointer (some ⟨b, o + i * 3, none⟩)), .inl (.agg (encE x).toArray), .inr (fun v w' => ∃ g5, v = .slice (some ⟨g5, 0, none⟩) 1 1 ∧ Has w' g5 81 (encE x)), .inr (fun v w' => (∃ g3 c3, v = .slice (some ⟨g3, 0, none⟩) (q + 1) c3) ∧ w'.ownsRow w3.heap.size 81 3 v (q + 1) (cellsE (O.take q ++ [x]))), .inl (.slice (some ⟨go, 0, none⟩) O.length co), .inl (.int .i64 (q : Int)), .inl (.slice A13 (O.length - q) (co - q))] 14 2 mixed rfl (by kernel_rfl) hS KY.refl (fun _ h => h.drew) ?_
        refine ks_pr rfl (fun _ _ _ h hk => by obtain ⟨g, h1, h2⟩ := h; exact ⟨g, h1, hk.2.1 _ _ _ List.nil_prefix h2⟩) (fun w' hw hq => (none_ownM (B := w3.heap.size) hw.1.size).mono (by rintro v w5 ⟨h1, hb⟩; exact ⟨h1, hw.trans (KY.of_below hb hw.1.size), KY.of_below hb hw.1.size⟩)) (fun u0 => ?_)
        refine ks_is rfl (fun w' hw => runs_move rfl) ?_
        refine ks_is rfl (fun w' hw => runs_move rfl) ?_
        refine ks_is rfl (fun w' hw => runs_sliceToG (k := q) rfl rfl rfl und32 (by rw [Option.isSome_map.symm.trans (congrArg Option.isSome sz41)]; rfl) (by omega)) ?_
        refine ks_pr rfl (fun _ _ _ h hk => by obtain ⟨g2, c2, h1, h3, h2⟩ := h; exact ⟨g2, c2, h1, h3, hk.2.1 _ _ _ (by rw [cellsE_append]; exact List.prefix_append _ _) h2⟩) (fun w' hw hq => (by obtain ⟨g, rfl, h0⟩ := hq (0, _) List.mem_cons_self (by kernel_rfl); exact (copy_ownM (B := w3.heap.size) (hTk.kept hw.1) (by rw [List.length_take]; omega) hw.1.size rfl h0 rfl).mono (by rintro v w5 ⟨⟨g2, c2, h1, h3⟩, h2, hb⟩; exact ⟨⟨g2, c2, h1, h3, h2⟩, hw.trans (KY.of_below hb hw.1.size), KY.of_below hb hw.1.size⟩))) (fun u4 => ?_)
        refine ks_is rfl (fun w' hw => runs_move rfl) ?_
        refine ks_is rfl (fun w' hw => runs_move rfl) ?_
        refine ks_is rfl (fun w' hw => runs_indexAddrG (j := i) (by rw [← hAe]; rfl) rfl und32 sz41 rfl hlt1) ?_
        refine ks_is rfl (fun w' hw => runs_loadM rfl (range_below hrx hw.1 hbw)) ?_
        refine ks_pr rfl (fun _ _ _ h hk => by obtain ⟨g5, h1, h2⟩ := h; exact ⟨g5, h1, hk.2.2.2 _ _ rfl h2⟩) (fun w' hw hq => (runs_oneM rfl).mono (by rintro v w5 ⟨g5, h1, h2, hb⟩; exact ⟨⟨g5, h1, h2⟩, hw.trans (KY.of_below hb hw.1.size), KY.of_below hb hw.1.size⟩)) (fun u9 => ?_)
        refine ks_pr rfl (fun _ _ _ h hk => ⟨h.1, hk.2.1 _ _ _ (List.prefix_refl _) h.2⟩) (fun w' hw hq => (by obtain ⟨g5, rfl, hX⟩ := hq (9, _) List.mem_cons_self (by kernel_rfl); obtain ⟨g2, c2, rfl, hc2, h4⟩ := hq (4, _) (List.mem_cons_of_mem _ List.mem_cons_self) (by kernel_rfl); exact (app_ownY (B := w3.heap.size) (xs := O.take q) (es := [x]) (n := q + 1) (edges_has1 hX) (by rw [List.length_take]; simp; omega) hw.1.size rfl h4 rfl (.inl (by simp)) (fun _ => by rcases Nat.eq_zero_or_pos q with h | h; exact .inr (fun g m c e => by cases e; exact hc2 (by simp [h])); exact .inl (by omega)) (by rw [List.length_take]; simp; omega)).mono (by rintro v w5 ⟨h1, h2, hk, _, _⟩; exact ⟨⟨h1, h2⟩, hw.trans hk, hk⟩))) (fun u10 => ?_)
        refine ks_is rfl (fun w' hw => runs_move rfl) ?_
        refine ks_is rfl (fun w' hw => runs_move rfl) ?_
        refine ks_is rfl (fun w' hw => runs_sliceFromE (l := q) rfl rfl rfl und32 sz41 hi2 hA13) ?_
        refine (fun a5 w5 hS hK5 hq => ?_)
        have hB5 := hK5.1



        obtain ⟨⟨g3, c3, rfl⟩, h41⟩ := (hq (10, _) List.mem_cons_self)
        clear hq
        have hB := hB.trans (hB5.mono hB.size)
        have hE := hE.kept hB5
        have hD := hD.kept hB5
        have hown := owns_kept hown hB5
        refine tail_op 14 (by kernel_rfl) rfl hS (by decide) (app_ownY (B := w3.heap.size) (xs := O.take q ++ [x]) (es := O.drop q) (n := (insM x O).length) hD (by rw [hl41, List.length_drop]; omega) hK5.1.size rfl (by rw [hl41]; exact h41) rfl (.inr (by simp)) (fun h => .inl (by rw [List.length_drop] at h; omega)) (by rw [hl41, List.length_drop]; omega)) (fun v7 w7 a7 hp hS => ⟨trivial, ?_⟩)
        obtain ⟨⟨g6, c6, rfl⟩, hown6, hK6, _, _⟩ := hp
        rw [← hins] at hown6
        have hown6 := owns_mono hown6 (Nat.le_trans hwW hsz8)
        refine tail_op 15 (by kernel_rfl) rfl hS (by decide) (runs_assign rfl) (fun v8 w8 a8 hp hS => ⟨trivial, ?_⟩)
        obtain ⟨rfl, rfl⟩ := hp
        refine wpAnyH_done (by kernel_rfl) ?_ _
        refine reg_seq ?_
        refine sI hS (runs_move rfl) fun _ hS => ?_
        refine sI hS (runs_add (r := ((i + 1 : Nat) : Int)) rfl rfl (by simp [IntKind.wrap, IntKind.bits, IntKind.signed]; omega)) fun _ hS => ?_
        refine sI hS (runs_assign rfl) fun _ hS => ?_
        exact nil_ok ⟨_, by omega, i + 1, g6, c6, insM x O, by omega, rfl, hBb1.trans ((hB.trans (hK6.1.mono hsz8)).mono hBb1.size), by rw [sortM_snoc hxi, ← hO], hown6, hS.only _ ⟨rfl, rfl, rfl, trivial⟩⟩
      · skip
        refine reg_guard (fun w' => Below wl2.heap.size wl2 w') [.inl (.int .i64 (q : Int)), .inl (.slice (some ⟨go, 0, none⟩) O.length co), .inl (.int .i64 ((O.length : Nat) : Int)), .inl (.bool true), .inl (.bool true), .inl (.slice A l.length c), .inl (.int .i64 (i : Int)), .inl (.pointer (some ⟨b, o + i * 3, none⟩)), .inl (.agg (encE x).toArray), .inl (.slice (some ⟨go, 0, none⟩) O.length co), .inl (.int .i64 (q : Int)), .inl (.pointer (some ⟨go, 0 + q * 3, none⟩)), .inl (.agg (encE y).toArray), .inl (.bool false), .inl (.bool true), .inl (.bool true)] 16 0 mixed rfl (by kernel_rfl) hS (Below.refl _ _) (fun _ h => h.drew) ?_
        refine hs_is rfl (fun w' hw => runs_move rfl) ?_
        refine hs_is rfl (fun w' hw => runs_move rfl) ?_
        refine hs_is rfl (fun w' hw => runs_len rfl und32) ?_
        refine hs_is rfl (fun w' hw => lssT rfl rfl (by omega)) ?_
        refine hs_is rfl (fun w' hw => runs_move rfl) ?_
        refine hs_yis rfl rfl (fun w' hw => runs_move rfl) ?_
        refine hs_yis rfl rfl (fun w' hw => runs_move rfl) ?_
        refine hs_yis rfl rfl (fun w' hw => runs_indexAddrG (j := i) (by rw [← hAe]; rfl) rfl und32 sz41 rfl hlt1) ?_
        refine hs_yis rfl rfl (fun w' hw => runs_loadM rfl (range_below hrx hw hbw)) ?_
        refine hs_yis rfl rfl (fun w' hw => runs_move rfl) ?_
        refine hs_yis rfl rfl (fun w' hw => runs_move rfl) ?_
        refine hs_yis rfl rfl (fun w' hw => runs_indexAddrG (j := q) rfl rfl und32 sz41 rfl hq) ?_
        refine hs_yis rfl rfl (fun w' hw => runs_loadM rfl (range_below hry hw hbo)) ?_
        refine hs_yval rfl rfl (fun w' hw hq => (runs_call (args := [.agg (encE x).toArray, .agg (encE y).toArray]) goes69 rfl (less_is (r := false) (Bool.eq_false_iff.2 hle) w')).mono (by rintro u w5 ⟨rfl, hb⟩; exact ⟨rfl, hw.trans (hb.mono hw.size), hb⟩)) ?_
        refine hs_yis rfl rfl (fun w' hw => runs_not (b := false) rfl) ?_
        refine hs_is rfl (fun w' hw => runs_pick rfl rfl) ?_
        refine (fun a9 w9 hS hB9 hq => ?_)
        clear hq
        have hB := hB.trans (hB9.mono hB.size)
        have hE := hEb2.kept hB
        have hown := owns_kept hown hB9
        refine wpAnyH_done (by kernel_rfl) ?_ _
        refine ⟨_, hS.eval rfl, fun h => by simp at h, fun _ => ?_⟩
        refine qx_block (reg_seq ?_)
        refine sI hS (runs_move rfl) fun _ hS => ?_
        refine sI hS (runs_add (r := ((q + 1 : Nat) : Int)) rfl rfl (by simp [IntKind.wrap, IntKind.bits, IntKind.signed]; omega)) fun _ hS => ?_
        refine sI hS (runs_assign rfl) fun _ hS => ?_
        exact nil_ok ⟨_, by omega, q + 1, by omega, rfl, hBb2.trans (hB.mono hBb2.size), (fun j z hj hz => by rcases Nat.lt_or_eq_of_le (Nat.le_of_lt_succ hj) with h | rfl; exact hno j z h hz; rw [hyq] at hz; cases hz; exact Bool.eq_false_iff.2 hle), hS.only _ ⟨rfl, rfl, rfl, rfl, trivial⟩⟩
    · skip
      refine reg_guard (fun w' => Below wl2.heap.size wl2 w') [.inl (.int .i64 (q : Int)), .inl (.slice (some ⟨go, 0, none⟩) O.length co), .inl (.int .i64 ((O.length : Nat) : Int)), .inl (.bool false), .inl (.bool false), .inl undef, .inl undef, .inl undef, .inl undef, .inl undef, .inl undef, .inl undef, .inl undef, .inl undef, .inl undef, .inl (.bool false)] 16 0 mixed rfl (by kernel_rfl) hS (Below.refl _ _) (fun _ h => h.drew) ?_
      refine hs_is rfl (fun w' hw => runs_move rfl) ?_
      refine hs_is rfl (fun w' hw => runs_move rfl) ?_
      refine hs_is rfl (fun w' hw => runs_len rfl und32) ?_
      refine hs_is rfl (fun w' hw => lssF rfl rfl (by omega)) ?_
      refine hs_is rfl (fun w' hw => runs_move rfl) ?_
      refine hs_no rfl rfl rfl ?_
      refine hs_no rfl rfl rfl ?_
      refine hs_no rfl rfl rfl ?_
      refine hs_no rfl rfl rfl ?_
      refine hs_no rfl rfl rfl ?_
      refine hs_no rfl rfl rfl ?_
      refine hs_no rfl rfl rfl ?_
      refine hs_no rfl rfl rfl ?_
      refine hs_no rfl rfl rfl ?_
      refine hs_no rfl rfl rfl ?_
      refine hs_is rfl (fun w' hw => runs_pick rfl rfl) ?_
      refine (fun a11 w11 hS hB11 hq => ?_)
      clear hq
      have hB := hB.trans (hB11.mono hB.size)
      have hE := hEb2.kept hB
      have hown := owns_kept hown hB11
      refine wpAnyH_done (by kernel_rfl) ?_ _
      have hins : insM x O = O.take q ++ [x] ++ O.drop q := insM_at x O q hi2 hno (fun z hz => by rw [List.getElem?_eq_none (by omega)] at hz; cases hz)
      refine ⟨_, hS.eval rfl, fun _ => ?_, fun h => by simp at h⟩
      have hB := hBb2.trans (hB.mono hBb2.size)
      have hsz8 : wl1.heap.size ≤ w11.heap.size := hB.size
      have hOE := edges_ownE hown rfl
      have hD := edges_drop hOE q hi2
      have hTk := edges_take hOE q hi2
      obtain ⟨A13, hA13⟩ : ∃ A13, (if co = q then some (⟨go, 0, none⟩ : Addr) else (some (⟨go, 0, none⟩ : Addr)).map (·.add (q * 3))) = A13 := ⟨_, rfl⟩
      rw [hA13] at hD
      have hl41 : (O.take q ++ [x]).length = q + 1 := by simp; omega
      have hco : O.length ≤ co := hOE.cap_le
      have hinl : (insM x O).length = O.length + 1 := (insM_perm x O).length_eq
      obtain ⟨b, o, hAe, hbw, hr⟩ := edges_row hE (by omega)
      have hrx := edges_at hr hxi
      have hwW := hBsz1
      refine reg_k (KY w11.heap.size (cellsE (O.take q ++ [x]))) (fun w' => KY w11.heap.size (cellsE (O.take q ++ [x])) w11 w') [.inr (fun v w' => ∃ g, v = .slice (some ⟨g, 0, none⟩) 0 0 ∧ w'.ownsRow w11.heap.size 81 3 v 0 []), .inl (.slice (some ⟨go, 0, none⟩) O.length co), .inl (.int .i64 (q : Int)), .inl (.slice (some ⟨go, 0, none⟩) q co), .inr (fun v w' => ∃ g2 c2, v = .slice (some ⟨g2, 0, none⟩) (O.take q).length c2 ∧ ((O.take q).length = 0 → c2 = 0) ∧ w'.ownsRow w11.heap.size 81 3 v (O.take q).length (cellsE (O.take q))), .inl (.slice A l.length c), .inl (.int .i64 (i : Int)), .inl (.pointer (some ⟨b, o + i * 3, none⟩)), .inl (.agg (encE x).toArray), .inr (fun v w' => ∃ g5, v = .slice (some ⟨g5, 0, none⟩) 1 1 ∧ Has w' g5 81 (encE x)), .inr (fun v w' => (∃ g3 c3, v = .slice (some ⟨g3, 0, none⟩) (q + 1) c3) ∧ w'.ownsRow w11.heap.size 81 3 v (q + 1) (cellsE (O.take q ++ [x]))), .inl (.slice (some ⟨go, 0, none⟩) O.length co), .inl (.int .i64 (q : Int)), .inl (.slice A13 (O.length - q) (co - q))] 14 2 mixed rfl (by kernel_rfl) hS KY.refl (fun _ h => h.drew) ?_
      refine ks_pr rfl (fun _ _ _ h hk => by obtain ⟨g, h1, h2⟩ := h; exact ⟨g, h1, hk.2.1 _ _ _ List.nil_prefix h2⟩) (fun w' hw hq => (none_ownM (B := w11.heap.size) hw.1.size).mono (by rintro v w5 ⟨h1, hb⟩; exact ⟨h1, hw.trans (KY.of_below hb hw.1.size), KY.of_below hb hw.1.size⟩)) (fun u0 => ?_)
      refine ks_is rfl (fun w' hw => runs_move rfl) ?_
      refine ks_is rfl (fun w' hw => runs_move rfl) ?_
      refine ks_is rfl (fun w' hw => runs_sliceToG (k := q) rfl rfl rfl und32 (by rw [Option.isSome_map.symm.trans (congrArg Option.isSome sz41)]; rfl) (by omega)) ?_
      refine ks_pr rfl (fun _ _ _ h hk => by obtain ⟨g2, c2, h1, h3, h2⟩ := h; exact ⟨g2, c2, h1, h3, hk.2.1 _ _ _ (by rw [cellsE_append]; exact List.prefix_append _ _) h2⟩) (fun w' hw hq => (by obtain ⟨g, rfl, h0⟩ := hq (0, _) List.mem_cons_self (by kernel_rfl); exact (copy_ownM (B := w11.heap.size) (hTk.kept hw.1) (by rw [List.length_take]; omega) hw.1.size rfl h0 rfl).mono (by rintro v w5 ⟨⟨g2, c2, h1, h3⟩, h2, hb⟩; exact ⟨⟨g2, c2, h1, h3, h2⟩, hw.trans (KY.of_below hb hw.1.size), KY.of_below hb hw.1.size⟩))) (fun u4 => ?_)
      refine ks_is rfl (fun w' hw => runs_move rfl) ?_
      refine ks_is rfl (fun w' hw => runs_move rfl) ?_
      refine ks_is rfl (fun w' hw => runs_indexAddrG (j := i) (by rw [← hAe]; rfl) rfl und32 sz41 rfl hlt1) ?_
      refine ks_is rfl (fun w' hw => runs_loadM rfl (range_below hrx hw.1 hbw)) ?_
      refine ks_pr rfl (fun _ _ _ h hk => by obtain ⟨g5, h1, h2⟩ := h; exact ⟨g5, h1, hk.2.2.2 _ _ rfl h2⟩) (fun w' hw hq => (runs_oneM rfl).mono (by rintro v w5 ⟨g5, h1, h2, hb⟩; exact ⟨⟨g5, h1, h2⟩, hw.trans (KY.of_below hb hw.1.size), KY.of_below hb hw.1.size⟩)) (fun u9 => ?_)
      refine ks_pr rfl (fun _ _ _ h hk => ⟨h.1, hk.2.1 _ _ _ (List.prefix_refl _) h.2⟩) (fun w' hw hq => (by obtain ⟨g5, rfl, hX⟩ := hq (9, _) List.mem_cons_self (by kernel_rfl); obtain ⟨g2, c2, rfl, hc2, h4⟩ := hq (4, _) (List.mem_cons_of_mem _ List.mem_cons_self) (by kernel_rfl); exact (app_ownY (B := w11.heap.size) (xs := O.take q) (es := [x]) (n := q + 1) (edges_has1 hX) (by rw [List.length_take]; simp; omega) hw.1.size rfl h4 rfl (.inl (by simp)) (fun _ => by rcases Nat.eq_zero_or_pos q with h | h; exact .inr (fun g m c e => by cases e; exact hc2 (by simp [h])); exact .inl (by omega)) (by rw [List.length_take]; simp; omega)).mono (by rintro v w5 ⟨h1, h2, hk, _, _⟩; exact ⟨⟨h1, h2⟩, hw.trans hk, hk⟩))) (fun u10 => ?_)
      refine ks_is rfl (fun w' hw => runs_move rfl) ?_
      refine ks_is rfl (fun w' hw => runs_move rfl) ?_
      refine ks_is rfl (fun w' hw => runs_sliceFromE (l := q) rfl rfl rfl und32 sz41 hi2 hA13) ?_
      refine (fun a13 w13 hS hK13 hq => ?_)
      have hB13 := hK13.1



      obtain ⟨⟨g3, c3, rfl⟩, h41⟩ := (hq (10, _) List.mem_cons_self)
      clear hq
      have hB := hB.trans (hB13.mono hB.size)
      have hD := hD.kept hB13
      have hown := owns_kept hown hB13
      refine tail_op 14 (by kernel_rfl) rfl hS (by decide) (app_ownY (B := w11.heap.size) (xs := O.take q ++ [x]) (es := O.drop q) (n := (insM x O).length) hD (by rw [hl41, List.length_drop]; omega) hK13.1.size rfl (by rw [hl41]; exact h41) rfl (.inr (by simp)) (fun h => .inl (by rw [List.length_drop] at h; omega)) (by rw [hl41, List.length_drop]; omega)) (fun v15 w15 a15 hp hS => ⟨trivial, ?_⟩)
      obtain ⟨⟨g6, c6, rfl⟩, hown6, hK6, _, _⟩ := hp
      rw [← hins] at hown6
      have hown6 := owns_mono hown6 (Nat.le_trans hwW hsz8)
      refine tail_op 15 (by kernel_rfl) rfl hS (by decide) (runs_assign rfl) (fun v16 w16 a16 hp hS => ⟨trivial, ?_⟩)
      obtain ⟨rfl, rfl⟩ := hp
      refine wpAnyH_done (by kernel_rfl) ?_ _
      refine reg_seq ?_
      refine sI hS (runs_move rfl) fun _ hS => ?_
      refine sI hS (runs_add (r := ((i + 1 : Nat) : Int)) rfl rfl (by simp [IntKind.wrap, IntKind.bits, IntKind.signed]; omega)) fun _ hS => ?_
      refine sI hS (runs_assign rfl) fun _ hS => ?_
      exact nil_ok ⟨_, by omega, i + 1, g6, c6, insM x O, by omega, rfl, hBb1.trans ((hB.trans (hK6.1.mono hsz8)).mono hBb1.size), by rw [sortM_snoc hxi, ← hO], hown6, hS.only _ ⟨rfl, rfl, rfl, trivial⟩⟩
  refine sI hS (lssF rfl rfl (by omega)) fun _ hS => ?_
  obtain rfl : i = l.length := by omega
  refine nil_ok ⟨_, hS.eval rfl, fun _ => ?_, fun h => by simp at h⟩
  have hB := hBb1
  rw [List.take_length] at hO
  subst hO
  refine qx_seq (reg_seq ?_)
  refine sI hS (runs_move rfl) fun _ hS => ?_
  refine sI hS (runs_assign rfl) fun _ hS => ?_
  exact nil_ok (qx_ret (ret1 (t := 2) (by kernel_rfl) hS rfl ⟨_, rfl, hB, ⟨_, _, rfl⟩, hown⟩))
end Go.Proofs.YtooeahpkhocaeaaGreatDoor
/- modillionlaw08.FoldRises, walked. Conditions: none of our own. -/
namespace Go.Proofs.YtooeahpkhocaeaaGreatDoor
open Go.RowKit
set_option maxRecDepth 100000

end Go.Proofs.YtooeahpkhocaeaaGreatDoor
/- How graphs, messages and numbers come in. No condition. -/
namespace Go.Proofs.YtooeahpkhocaeaaGreatDoor
open Go.ChangeShapes Go.WideShapes Go.ChangeAt Go.RowKit
set_option maxRecDepth 100000

theorem und2 : Tryz.prog.underlying 2 = some (.int .i64) := by kernel_rfl
theorem ce3 : Tryz.prog.cellsOf 3 = 1 := by kernel_rfl
theorem ce2 : Tryz.prog.cellsOf 2 = 1 := by kernel_rfl
theorem ce41 : Tryz.prog.cellsOf 81 = 3 := by kernel_rfl
section
variable {H : Type} {enc : TypeId × Value → H} {W : World} {base b0 : Nat} {r : Reach} {sp : Nat → Bool} {held : Bool} {v : Value} {d : DataW H} {p : List MemPlace}
theorem cells3 {a : Addr} {cs : List Value} (h : W.cells? base a 3 = some cs) : ∀ j u, cs[j]? = some u → W.cell? (a.add j) = some u := by
  unfold World.cells? at h
  split at h
  · intro j u hj
    have hlen : cs.length = 3 := by simpa using Lib.mapM_length h
    have hj3 : j < 3 := by have := (List.getElem?_eq_some_iff.1 hj).1; omega
    obtain ⟨b, hb, hf⟩ := Lib.mapM_at h j j (by simp [hj3])
    rw [hb] at hj
    rw [hf, ← hj]
  · cases h
end
end Go.Proofs.YtooeahpkhocaeaaGreatDoor
/- Strings cut, as lists of bytes. No condition. -/
namespace Go.Proofs.YtooeahpkhocaeaaGreatDoor
open Go.RowKit
set_option maxRecDepth 100000

theorem bl_sub (s : ByteArray) (a b : Nat) : bl (sub s a b) = ((bl s).drop a).take (b - a) := by
  unfold bl sub
  rw [ByteArray.data_extract, Array.toList_extract, List.extract_eq_take_drop, List.map_take, List.map_drop]
theorem bl_cut (s : ByteArray) (a : Nat) : bl (cut s a) = (bl s).drop a := by
  have := bl_sub s a s.size
  unfold sub at this
  unfold cut
  rw [this, List.take_of_length_le]
  rw [List.length_drop, bl_length]; omega
end Go.Proofs.YtooeahpkhocaeaaGreatDoor
/- The contract of the document's own number. No condition. -/
namespace Go.Proofs.YtooeahpkhocaeaaGreatDoor
open Go.RowKit
set_option maxRecDepth 100000

end Go.Proofs.YtooeahpkhocaeaaGreatDoor
