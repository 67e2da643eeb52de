/- The document's own Same and Prove; a copy of a slice of strings. Conditions: at most 1000000 leaves of 900 bytes. -/
import Derived.Test.YtdemoidmhmdgkaaDoorWChecks
import Derived.Test.YtdemoidmhmdgkaaDoorWTwo
namespace Go.Proofs.YtdemoidmhmdgkaaDoor
open Go.RowKit
set_option maxRecDepth 100000

theorem run_neHash (a b : List Nat) (la : a.length = 32) (lb : b.length = 32) (w : World) : (binOp .neq 26 (.agg (U8 a).toArray) (.agg (U8 b).toArray)).run Tryd.prog w = .ok (.bool (a != b)) w := by
  rw [run_neq_struct]
  rw [run_eqArr 9998 a b la lb w]
  rfl
section
variable {L : List (Nat × Value)} {w : World} {ty : TypeId}
theorem runs_neHash {t' : TypeId} {X Y : Operand} {x y : List Nat} {r : Bool} (hx : vals L X = some (.agg (U8 x).toArray)) (hy : vals L Y = some (.agg (U8 y).toArray)) (lx : x.length = 32) (ly : y.length = 32) (hr : (x != y) = r) : Runs Tryd.prog (.binOp .neq 26 X Y t') ty L w (Is (.bool r) w) := fun o a K Q ho _ hL hK => by
  have ex := hL X (by simp [Op.operands]) _ hx
  have ey := hL Y (by simp [Op.operands]) _ hy
  have h := run_neHash x y lx ly w
  have hg : (eqGuard .neq 26 X Y (.agg (U8 x).toArray) (.agg (U8 y).toArray)).run Tryd.prog w = .ok () w := by
    have hp : Tryd.prog.eqGuardType Tryd.prog.depth 26 = false := by kernel_rfl
    simp [eqGuard, hp]
  unfold Oper.wp
  have : (execOp a.eval o).run Tryd.prog w = .ok (.value (.bool r)) w := by
    simp only [execOp, ho, ex, ey]
    simp only [Sem.run_bind, hg, Result.andThen_ok, h, hr, Sem.run_pure]
  rw [this]
  exact hK _ w ⟨rfl, rfl⟩
/-- A copy of a slice of strings. -/
theorem copy_strs {s x : Operand} {g : Nat} {v : Value} {ss : List ByteArray} (hH : Strs w v ss) (hn : ss.length ≤ 1000) (hs2 : vals L s = some (.slice (some ⟨g, 0, none⟩) 0 0)) (hx : vals L x = some v) :
    Runs Tryd.prog (.call { callee := .builtin .append, args := #[s, x], argTypes := #[22, 22] }) ty L w (fun u w2 => Strs w2 u ss ∧ Below w.heap.size w w2) := by
  obtain ⟨i9, hi9, hz9, hzs9, hzb9⟩ := info_parts infStr
  obtain ⟨A, c, rfl, hc1, hc2, hA⟩ := hH
  by_cases h0 : ss.length = 0
  · rw [h0] at hx
    refine (runs_appendNone undStrs hi9 hs2 (Nat.le_refl _) (by simp) hx).mono ?_
    rintro u w2 ⟨rfl, rfl⟩
    exact ⟨⟨_, 0, by rw [h0], by omega, by unfold maxLen; omega, fun h => by omega⟩, Below.refl _ _⟩
  · obtain ⟨b, o, rfl, hb, hcell⟩ := hA (by omega)
    refine (runs_append0 (m := ss.length) undStrs hi9 hz9 hzs9 hzb9 (by simp [Value.cells]) hs2 hx (news := ss.map Value.string) (by simp) (fun j u hu => ?_) (by omega) (by omega) (by omega)).mono ?_
    · rw [List.getElem?_map] at hu
      obtain ⟨s, hs3, rfl⟩ := Option.map_eq_some_iff.1 hu
      have hj : j < ss.length := (List.getElem?_eq_some_iff.1 hs3).1
      rw [show (⟨b, o, none⟩ : Addr).add j = ⟨b, o + j, none⟩ from by unfold Addr.add; split <;> simp_all, hcell j hj, List.getD_eq_getElem?_getD, hs3]
      rfl
    · rintro u w2 ⟨h3, h4⟩
      exact ⟨strs_own h3 rfl, h4⟩
end
theorem eq_upto : ∀ (hs gs : List (List Nat)), hs.length = gs.length → (∀ j, j < hs.length → hs.getD j [] = gs.getD j []) → hs = gs := fun hs gs hl h => by
  apply List.ext_getElem hl
  intro i h1 h2
  have := h i h1
  simpa [h1, h2] using this
theorem getD_mem {hs : List (List Nat)} {i : Nat} (h : i < hs.length) : hs.getD i [] ∈ hs := by
  rw [List.getD_eq_getElem?_getD, List.getElem?_eq_getElem h]; exact List.getElem_mem h
noncomputable def blk25 (id : Nat) : Code := ((Tryd.f24.body.bind (blockIn id)).getD .skip)
set_option maxRecDepth 100000 in
theorem same_loop (N R : Act → World → Prop) (X : Nat → Act → World → Prop) (hs gs : List (List Nat)) (A B : Option Addr) (c d : Nat) (w : World) (a : Act) (ha : Hashes w (.slice A hs.length c) hs) (hb : Hashes w (.slice B gs.length d) gs) (hl : hs.length = gs.length)
    (hS : Sees 26 [(5, .int .i64 0), (0, .slice A hs.length c), (1, .slice B gs.length d)] a)
    (h : ∀ a' w', hs = gs → Below w.heap.size w w' → Sees 26 [] a' → N a' w') (hr : ∀ a' w', hs ≠ gs → Below w.heap.size w w' → Sees 26 [(4, .bool false)] a' → R a' w') : (blk25 0).wp Tryd.prog (Qx N X R) a w := by
  obtain ⟨A', c', e1, hc1, hc2, hok, hA⟩ := ha
  obtain ⟨B', d', e2, hd1, hd2, hok2, hB⟩ := hb
  simp only [Value.slice.injEq] at e1 e2
  obtain ⟨rfl, _, rfl⟩ := e1
  obtain ⟨rfl, _, rfl⟩ := e2
  unfold maxLen at hc2
  refine qx_for (fun m a w' => ∃ i, i ≤ hs.length ∧ m = hs.length - i ∧ Below w.heap.size w w' ∧ (∀ j, j < i → hs.getD j [] = gs.getD j []) ∧ Sees 26 [(5, .int .i64 (i : Int)), (0, .slice A hs.length c), (1, .slice B gs.length d)] a) hs.length ⟨0, by omega, by omega, Below.refl _ _, by simp, hS⟩ ?_
  rintro m a w' ⟨i, hi, rfl, hBw, hsame, hS⟩
  refine reg_seq ?_
  refine seq_is hS (by decide) (runs_move rfl) (fun a1 hS => ?_)
  refine seq_is hS (by decide) (runs_move rfl) (fun a1 hS => ?_)
  refine seq_is hS (by decide) (runs_len rfl undHashes) (fun a1 hS => ?_)
  by_cases hlt : i < hs.length
  · obtain ⟨b, o, rfl, hb, hra⟩ := hA (by omega)
    obtain ⟨b2, o2, rfl, hb2, hra2⟩ := hB (by omega)
    have hx := hash_mid hra hok i hlt
    have hy := hash_mid hra2 hok2 i (by omega)
    obtain ⟨lx, _⟩ := hok _ (getD_mem hlt)
    obtain ⟨ly, _⟩ := hok2 _ (getD_mem (i := i) (by omega))
    refine seq_is hS (by decide) (runs_lss (r := true) rfl rfl (by rw [decide_eq_true_eq]; omega)) (fun a1 hS => ?_)
    refine nil_ok ⟨_, hS.eval rfl, fun h => by simp at h, fun _ => ?_⟩
    refine qx_seq (qx_block (qx_seq (reg_guard (fun w2 => Below w.heap.size w w2) [.inl (.slice (some ⟨b, o, none⟩) hs.length c), .inl (.int .i64 (i : Int)), .inl (.pointer (some ⟨b, o + i * 32, none⟩)), .inl (.agg (U8 (hs.getD i [])).toArray), .inl (.slice (some ⟨b2, o2, none⟩) gs.length d), .inl (.int .i64 (i : Int)), .inl (.pointer (some ⟨b2, o2 + i * 32, none⟩)), .inl (.agg (U8 (gs.getD i [])).toArray), .inl (.bool (hs.getD i [] != gs.getD i []))] 9 0 mixed rfl (by kernel_rfl) hS hBw (fun _ h => h.drew) ?_)))
    refine hs_is rfl (fun w' hw => runs_move rfl) ?_
    refine hs_is rfl (fun w' hw => runs_move rfl) ?_
    refine hs_is rfl (fun w' hw => runs_indexAddrN (j := i) rfl rfl undHashes infHash rfl hlt) ?_
    refine hs_is rfl (fun w' hw => runs_loadMid rfl (range_below hx hw hb) undHash rfl (by rw [infHash, U8_length, lx])) ?_
    refine hs_is rfl (fun w' hw => runs_move rfl) ?_
    refine hs_is rfl (fun w' hw => runs_move rfl) ?_
    refine hs_is rfl (fun w' hw => runs_indexAddrN (j := i) rfl rfl undHashes infHash rfl (by omega)) ?_
    refine hs_is rfl (fun w' hw => runs_loadMid rfl (range_below hy hw hb2) undHash rfl (by rw [infHash, U8_length, ly])) ?_
    refine hs_is rfl (fun w' hw => runs_neHash rfl rfl lx ly rfl) ?_
    refine (fun a5 w5 hS hB5 _ => ?_)
    refine wpAnyH_done (by kernel_rfl) ?_ _
    by_cases he : hs.getD i [] = gs.getD i []
    · rw [show (hs.getD i [] != gs.getD i []) = false by rw [he]; simp] at hS
      refine wp_cond_false (hS.eval rfl) (wp_skip ?_)
      refine reg_seq ?_
      refine seq_is hS (by decide) (runs_move rfl) (fun a1 hS => ?_)
      refine seq_is hS (by decide) (runs_add rfl rfl ((IntWalk.i64_in _ (by omega)).trans (show (i : Int) + 1 = ((i + 1 : Nat) : Int) by omega))) (fun a1 hS => ?_)
      refine seq_is hS (by decide) (runs_assign rfl) (fun a1 hS => ?_)
      refine nil_ok ⟨hs.length - (i + 1), by omega, i + 1, by omega, rfl, hB5, fun j hj => ?_, hS.only _ ⟨rfl, rfl, rfl, trivial⟩⟩
      by_cases hji : j = i
      · subst hji; exact he
      · exact hsame j (by omega)
    · rw [show (hs.getD i [] != gs.getD i []) = true by rw [bne_iff_ne]; exact he] at hS
      refine wp_cond_true (hS.eval rfl) (qx_seq (reg_seq ?_))
      refine seq_is hS (by decide) (runs_assign rfl) (fun a1 hS => ?_)
      exact nil_ok (qx_ret (hr _ _ (fun hh => he (by rw [hh])) hB5 (hS.only _ ⟨rfl, trivial⟩)))
  · refine seq_is hS (by decide) (runs_lss (r := false) rfl rfl (by rw [decide_eq_false_iff_not]; omega)) (fun a1 hS => ?_)
    exact nil_ok ⟨_, hS.eval rfl, fun _ => h _ _ (eq_upto hs gs hl (fun j hj => hsame j (by omega))) hBw (hS.only _ trivial), fun h => by simp at h⟩
theorem refSame_any (hs gs : List (List Nat)) (va vb : Value) (w : World) (ha : Hashes w va hs) (hb : Hashes w vb gs) : Calls Tryd.prog 24 #[va, vb] w fun e w' => e = .returned (.bool (hs == gs)) ∧ Below w.heap.size w w' := by
  refine calls_qx (args := [va, vb]) 26 Tryd.func24 rfl (by kernel_rfl) (by simp) (fun a hS => ?_)
  obtain ⟨A, c, rfl, ha'⟩ := id ha
  obtain ⟨B, d, rfl, hb'⟩ := id hb
  refine qx_seq (reg_seq ?_)
  refine seq_is hS (by decide) (runs_assign rfl) (fun a1 hS => ?_)
  refine nil_ok (qx_seq (qx_seq (reg_seq ?_)))
  refine seq_is hS (by decide) (runs_move rfl) (fun a1 hS => ?_)
  refine seq_is hS (by decide) (runs_len rfl undHashes) (fun a1 hS => ?_)
  refine seq_is hS (by decide) (runs_move rfl) (fun a1 hS => ?_)
  refine seq_is hS (by decide) (runs_len rfl undHashes) (fun a1 hS => ?_)
  by_cases hl : hs.length = gs.length
  · refine seq_is hS (by decide) (runs_neq (r := false) rfl rfl (by rw [hl]; simp)) (fun a1 hS => ?_)
    refine nil_ok (wp_cond_false (hS.eval rfl) (wp_skip ?_))
    refine qx_seq (qx_seq (reg_seq ?_))
    refine seq_is hS (by decide) (runs_assign rfl) (fun a1 hS => ?_)
    refine nil_ok (same_loop _ _ _ hs gs A B c d w a1 ha hb hl (hS.only _ ⟨rfl, rfl, rfl, trivial⟩) (fun a2 w2 he hB hS => ?_) (fun a2 w2 he hB hS => ?_))
    · refine qx_seq (reg_seq ?_)
      refine seq_is hS (by decide) (runs_assign rfl) (fun a1 hS => ?_)
      exact nil_ok (qx_ret (ret1 (t := 4) (by kernel_rfl) hS rfl ⟨by rw [he]; simp, hB⟩))
    · exact ret1 (t := 4) (by kernel_rfl) hS rfl ⟨by rw [show (hs == gs) = false by rw [beq_eq_false_iff_ne]; exact he], hB⟩
  · refine seq_is hS (by decide) (runs_neq (r := true) rfl rfl (by rw [bne_iff_ne]; omega)) (fun a1 hS => ?_)
    refine nil_ok (wp_cond_true (hS.eval rfl) (qx_seq (reg_seq ?_)))
    refine seq_is hS (by decide) (runs_assign rfl) (fun a1 hS => ?_)
    exact nil_ok (qx_ret (ret1 (t := 4) (by kernel_rfl) hS rfl ⟨by rw [show (hs == gs) = false by rw [beq_eq_false_iff_ne]; exact fun e => hl (by rw [e])], Below.refl _ _⟩))
/- Prove -/
theorem proofOf_l {l : List (List Nat)} {p : Nat} (h2 : 2 ≤ l.length) (hp : p < Tree.half l.length) : proofOf l p = proofOf (l.take (Tree.half l.length)) p ++ [Tree.top (l.drop (Tree.half l.length))] := by
  have hhl := Tree.half_lt h2
  unfold proofOf
  rw [path_l h2 hp, List.map_append, List.map_singleton, List.length_take, Nat.min_eq_left (by omega)]
  congr 1
  · apply List.map_congr_left
    intro x hx
    obtain ⟨_, h1, h3⟩ := path_mem _ _ _ _ hx
    unfold topOf
    rw [List.drop_take, List.take_take, Nat.min_eq_left (by omega)]
  · unfold topOf
    rw [List.take_of_length_le (by simp)]
theorem proofOf_r {l : List (List Nat)} {p : Nat} (h2 : 2 ≤ l.length) (hp : ¬ p < Tree.half l.length) : proofOf l p = proofOf (l.drop (Tree.half l.length)) (p - Tree.half l.length) ++ [Tree.top (l.take (Tree.half l.length))] := by
  unfold proofOf
  rw [path_r h2 hp, List.map_append, List.map_singleton, List.length_drop, List.map_map]
  congr 1
  apply List.map_congr_left
  intro x _
  simp only [Function.comp, topOf, shift]
  rw [List.drop_drop, show x.2.1 + Tree.half l.length - (x.1 + Tree.half l.length) = x.2.1 - x.1 by omega, Nat.add_comm]
theorem owns_mono {w : World} {b b' : Nat} {e : TypeId} {s n : Nat} {v : Value} {xs : List Value} (h : w.ownsRow b e s v n xs) (hb : b' ≤ b) : w.ownsRow b' e s v n xs := by
  refine ⟨h.1, ?_⟩
  rcases h.2 with h | ⟨g, cap, cur, h1, h2, h3⟩
  · exact .inl h
  · exact .inr ⟨g, cap, cur, h1, by omega, h3⟩
theorem owns_kept {w w' : World} {b : Nat} {e : TypeId} {s n : Nat} {v : Value} {xs : List Value} (h : w.ownsRow b e s v n xs) (k : Below w.heap.size w w') : w'.ownsRow b e s v n xs := by
  refine ⟨h.1, ?_⟩
  rcases h.2 with h | ⟨g, cap, cur, h1, h2, h3, h4⟩
  · exact .inl h
  · exact .inr ⟨g, cap, cur, h1, h2, (k.block g (Array.getElem?_eq_some_iff.1 h3).1).trans h3, h4⟩
end Go.Proofs.YtdemoidmhmdgkaaDoor
