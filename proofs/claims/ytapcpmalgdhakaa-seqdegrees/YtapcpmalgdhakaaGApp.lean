/- append of append: rows that stay. Conditions: none of our own. -/
import Derived.Test.YtapcpmalgdhakaaGCopy
namespace Go.Proofs.Ytapcpmalgdhakaa
open Go.RowKit
set_option maxRecDepth 100000

theorem owns_any {w w' : World} {B : Nat} {e : TypeId} {sz g n m cap : Nat} {xs news : List Value} (h : w.ownsRow B e sz (.slice (some ⟨g, 0, none⟩) n cap) n xs) (hsz : 0 < sz) (h' : w'.ownsRow B e sz (.slice (some ⟨g, 0, none⟩) (n + m) cap) (n + m) (xs ++ news)) (hgr : w.grownBy w' (some g))
    {v : Value} {k : Nat} {ys : List Value} (hv : w.ownsRow B e sz v k ys) (hk : k ≤ n ∨ (k = n + m ∧ ys = xs ++ news)) : w'.ownsRow B e sz v k ys := by
  refine ⟨hv.1, ?_⟩
  rcases hv.2 with hn | ⟨g2, cap2, cur2, rfl, hb2, hg2, hc2, hm2, hs2, ht2⟩
  · exact .inl hn
  · by_cases hgg : g2 = g
    · subst hgg
      rcases h.2 with ⟨hn, _⟩ | ⟨g1, cap1, cur1, e1, hb1, hg1, hc1, hm1, hs1, ht1⟩
      · cases hn
      simp only [Value.slice.injEq, Option.some.injEq, Addr.mk.injEq, and_true, true_and] at e1
      obtain ⟨rfl, rfl⟩ := e1
      rw [hg1] at hg2
      simp only [Option.some.injEq, Obj.cells.injEq, and_true] at hg2
      subst hg2
      rcases h'.2 with ⟨hn, _⟩ | ⟨g3, cap3, cur3, e3, hb3, hg3, hc3, hm3, hs3, ht3⟩
      · cases hn
      simp only [Value.slice.injEq, Option.some.injEq, Addr.mk.injEq, and_true, true_and] at e3
      obtain ⟨rfl, rfl⟩ := e3
      have hcc : cap2 = cap := Nat.eq_of_mul_eq_mul_right hsz (by omega)
      subst hcc
      refine .inr ⟨g2, cap2, cur3, rfl, hb2, hg3, hc2, hm2, hs3, ?_⟩
      have hkm : k ≤ n + m := by rcases hk with h | ⟨h, _⟩ <;> omega
      have e4 : cur3.toList.take (k * sz) = (xs ++ news).take (k * sz) := by
        rw [← ht3, List.take_take, Nat.min_eq_left (Nat.mul_le_mul_right _ hkm)]
      rw [e4]
      rcases hk with hk | ⟨rfl, rfl⟩
      · rw [List.take_append_of_le_length (by rw [h.1]; exact Nat.mul_le_mul_right _ hk), ← ht1, List.take_take, Nat.min_eq_left (Nat.mul_le_mul_right _ hk)]
        exact ht2
      · rw [List.take_of_length_le (by rw [hv.1]; exact Nat.le_refl _)]
    · exact .inr ⟨g2, cap2, cur2, rfl, hb2, (hgr.block g2 (Array.getElem?_eq_some_iff.1 hg2).1 (fun e => hgg (Option.some.inj e))).trans hg2, hc2, hm2, hs2, ht2⟩
section
variable {P : Program} {L : List (Nat × Value)} {w : World} {ty : TypeId}
theorem runs_appendK3 {t e : TypeId} {s x : Operand} {i : TypeInfo} {z : Value} {bytes B g n cap m c sz : Nat} {xs news : List Value} {ad : Addr} (ht : P.underlying t = some (.slice e)) (hi : P.info? e = some i) (hz : i.zero = some z)
    (hsize : i.size = sz) (hby : i.bytes = bytes) (hzs : z.cells.size = sz) (hsz : 0 < sz) (hs : vals L s = some (.slice (some ⟨g, 0, none⟩) n cap)) (hown : w.ownsRow B e sz (.slice (some ⟨g, 0, none⟩) n cap) n xs)
    (hx : vals L x = some (.slice (some ad) m c)) (hl : news.length = m * sz) (hnews : ∀ j u, news[j]? = some u → w.cell? (ad.add j) = some u) (h1 : ∀ u ∈ news, u.oneCell' = true) (h63 : n + m ≤ maxLen) (hbytes : (n + m) * bytes ≤ 140737488355328) (hB : B ≤ w.heap.size) :
    Runs P (.call { callee := .builtin .append, args := #[s, x], argTypes := #[t, t] }) ty L w (fun v w' => (∃ A c', v = .slice (some A) (n + m) c') ∧ w'.ownsRow B e sz v (n + m) (xs ++ news) ∧ Below B w w' ∧ (∀ (v' : Value) (k : Nat) (ys : List Value), w.ownsRow B e sz v' k ys → (k ≤ n ∨ (k = n + m ∧ ys = xs ++ news)) → w'.ownsRow B e sz v' k ys) ∧ ∀ (i : Nat) (t' : TypeId) (cs : List Value), t' ≠ e → Has w i t' cs → Has w' i t' cs) := fun o a K Q ho _ hL hK => by
  have e1 := hL s (by simp [Op.operands, Call.operands]) _ hs
  have e2 := hL x (by simp [Op.operands, Call.operands]) _ hx
  obtain ⟨hbg, hlt⟩ := hown.lt g rfl
  have hex : ∃ v' w', (Builtin.append_ #[t, t] o.type #[.slice (some ⟨g, 0, none⟩) n cap, .slice (some ad) m c]).run P w = .ok v' w' ∧ ((∃ A c', v' = .slice (some A) (n + m) c') ∧ w'.ownsRow B e sz v' (n + m) (xs ++ news) ∧ Below B w w' ∧ (∀ (v'' : Value) (k : Nat) (ys : List Value), w.ownsRow B e sz v'' k ys → (k ≤ n ∨ (k = n + m ∧ ys = xs ++ news)) → w'.ownsRow B e sz v'' k ys) ∧ ∀ (i : Nat) (t' : TypeId) (cs : List Value), t' ≠ e → Has w i t' cs → Has w' i t' cs) := by
    by_cases hr : n + m ≤ cap
    · obtain ⟨w', hrun, h2, h3⟩ := run_append_fits (P := P) w B t o.type e i sz ht hi hsize g n cap xs hown ad m c news hl hnews h1 hr
      exact ⟨_, w', hrun, ⟨⟨_, _, rfl⟩, h2, below_grown (Below.refl _ _) h3 (fun k hk => by cases hk; exact hbg) hB, fun v'' k ys hv hk => owns_any hown hsz h2 h3 hv hk, fun i' t' cs ht' hi' => by
        have hne : some i' ≠ some g := fun hsv => by
          rcases hown.2 with ⟨hn, _⟩ | ⟨g0, cap0, cur, e0, _, hh, _⟩
          · cases hn
          simp only [Value.slice.injEq, Option.some.injEq, Addr.mk.injEq, and_true] at e0 hsv
          rw [← e0.1, ← hsv] at hh
          unfold Has at hi'
          rw [hi'] at hh
          simp only [Option.some.injEq, Obj.cells.injEq] at hh
          exact ht' hh.2.1
        unfold Has
        rw [h3.block i' hi'.lt hne]
        exact hi'⟩⟩
    · have hown2 := hown
      rcases hown2.2 with ⟨hn, _⟩ | ⟨g1, cap1, cur1, e1', hb1, hg1, hc1, hm1, hs1, ht1⟩
      · cases hn
      simp only [Value.slice.injEq, Option.some.injEq, Addr.mk.injEq, and_true, true_and] at e1'
      obtain ⟨rfl, rfl⟩ := e1'
      obtain ⟨v', w', hrun, h2, h3⟩ := run_append_arg_grows (P := P) w t o.type e i z sz bytes ht hi hz hsize hby hzs hsz ⟨g, 0, none⟩ n cap xs hown.1 (fun j u hj => by
        rw [add_zero_addr, Nat.zero_add]
        have hj' := hj
        rw [← ht1, List.getElem?_take] at hj'
        split at hj'
        · have hh : Has w g e cur1.toList := by show _ = _; rw [hg1]
          rw [hh.cell]; exact hj'
        · cases hj') ad m c news hl hnews (by omega) h63 hbytes
      have hbel : Below w.heap.size w w' := (Below.refl _ _).grown h3 (Nat.le_refl _) (fun k h => by cases h)
      refine ⟨_, w', hrun, ⟨?_, owns_mono h2 hB, hbel.mono hB, fun v'' k ys hv hk => owns_kept hv hbel, fun i' t' cs _ hi' => hi'.below hbel hi'.lt⟩⟩
      rcases h2.2 with ⟨_, h0⟩ | ⟨g4, cap4, _, rfl, _⟩
      · omega
      · exact ⟨_, _, rfl⟩
  obtain ⟨v', w', hr, hp⟩ := hex
  unfold Oper.wp execOp
  simp only [ho, resolve, invoke, builtin, Sem.run_bind, Sem.run_pure, Result.andThen_ok, List.map_toArray, List.map_cons, List.map_nil, e1, e2, hr]
  exact hK v' w' hp
end
/-- What stays while a row is made of two: all below B, rows of edges that are short enough or the last one, and what is no row of edges. -/
def KA (B N0 N1 : Nat) (Y : List Value) (a b : World) : Prop := Below B a b ∧ (∀ v n xs, (n ≤ N0 ∨ (n = N1 ∧ xs = Y)) → a.ownsRow B 45 3 v n xs → b.ownsRow B 45 3 v n xs) ∧ ∀ i t cs, t ≠ 45 → Has a i t cs → Has b i t cs
theorem KA.of_below {B N0 N1 : Nat} {Y : List Value} {a b : World} (h : Below a.heap.size a b) (hB : B ≤ a.heap.size) : KA B N0 N1 Y a b :=
  ⟨h.mono hB, fun _ _ _ _ ho => owns_kept ho h, fun _ _ _ _ hg => hg.below h hg.lt⟩
theorem owns_empty {w : World} {g B : Nat} (h : w.heap[g]? = some (.cells #[] 45 (0, 0))) (hB : B ≤ g) : w.ownsRow B 45 3 (.slice (some ⟨g, 0, none⟩) 0 0) 0 [] :=
  ⟨rfl, .inr ⟨g, 0, #[], rfl, hB, h, Nat.le_refl _, by unfold maxLen; omega, rfl, rfl⟩⟩
section
variable {L : List (Nat × Value)} {w : World} {ty : TypeId}
theorem none_own {B : Nat} (hB : B ≤ w.heap.size) : Runs Try.prog (.buildSlice 22 0 #[]) ty L w (fun v w' => (∃ g, v = .slice (some ⟨g, 0, none⟩) 0 0 ∧ w'.ownsRow B 45 3 v 0 []) ∧ Below w.heap.size w w') := by
  obtain ⟨i45, hi45, hz45, hs45, hb45⟩ := info_parts inf45
  exact (runs_buildNone und22 hi45).mono (by rintro v w3 ⟨rfl, rfl⟩; exact ⟨⟨_, rfl, owns_empty (heap_alloc_new _ _) hB⟩, (Below.refl _ _).alloc (Nat.le_refl _) _⟩)
/-- A copy upon an empty row of the call's own. -/
theorem copy_own {B : Nat} {s x : Operand} {g : Nat} {v : Value} {es : List E} (hE : Edges w v es) (hn : es.length ≤ 1000) (hB : B ≤ w.heap.size) (hs2 : vals L s = some (.slice (some ⟨g, 0, none⟩) 0 0)) (h0 : w.ownsRow B 45 3 (.slice (some ⟨g, 0, none⟩) 0 0) 0 []) (hx : vals L x = some v) :
    Runs Try.prog (.call { callee := .builtin .append, args := #[s, x], argTypes := #[22, 22] }) ty L w (fun u w2 => (∃ g2 c2, u = .slice (some ⟨g2, 0, none⟩) es.length c2) ∧ w2.ownsRow B 45 3 u es.length (cellsE es) ∧ Below w.heap.size w w2) := by
  obtain ⟨i45, hi45, hz45, hs45, hb45⟩ := info_parts inf45
  obtain ⟨A, c, rfl, hc1, hc2, hA⟩ := hE
  by_cases hz : es.length = 0
  · obtain rfl : es = [] := List.eq_nil_of_length_eq_zero hz
    exact (runs_appendNone und22 hi45 hs2 (Nat.le_refl _) (by simp) hx).mono (by
      rintro u w2 ⟨rfl, rfl⟩
      exact ⟨⟨g, 0, rfl⟩, h0, Below.refl _ _⟩)
  · obtain ⟨b, o, rfl, hb, hr⟩ := hA (by omega)
    exact (runs_append0N (m := es.length) und22 hi45 hz45 hs45 hb45 rfl (by omega) hs2 hx (news := cellsE es) (cellsE_length es) (fun j u hu => by rw [add_lit']; exact hr j u hu) (by unfold maxLen; omega) (by omega) (by omega)).mono (by
      rintro u w2 ⟨h3, h4⟩
      refine ⟨?_, owns_mono h3 hB, h4⟩
      rcases h3.2 with ⟨_, h5⟩ | ⟨g2, c2, _, rfl, _⟩
      · omega
      · exact ⟨g2, c2, rfl⟩)
/-- append upon a row of the call's own. -/
theorem app_own {B n : Nat} {s x : Operand} {g c : Nat} {v : Value} {xs es : List E} (hE : Edges w v es) (hn : xs.length + es.length ≤ 10000) (hB : B ≤ w.heap.size) (hs : vals L s = some (.slice (some ⟨g, 0, none⟩) xs.length c)) (hown : w.ownsRow B 45 3 (.slice (some ⟨g, 0, none⟩) xs.length c) xs.length (cellsE xs)) (hx : vals L x = some v) (hA : ∀ c, v ≠ .slice none es.length c) (hn' : n = xs.length + es.length) :
    Runs Try.prog (.call { callee := .builtin .append, args := #[s, x], argTypes := #[22, 22] }) ty L w (fun u w2 => ((∃ A2 c2, u = .slice A2 n c2) ∧ w2.ownsRow B 45 3 u n (cellsE (xs ++ es))) ∧ KA B xs.length n (cellsE (xs ++ es)) w w2) := by
  subst hn'
  obtain ⟨i45, hi45, hz45, hs45, hb45⟩ := info_parts inf45
  obtain ⟨A, c', rfl, hc1, hc2, hA'⟩ := hE
  obtain ⟨ad, rfl⟩ : ∃ ad, A = some ad := by
    cases A with
    | none => exact absurd rfl (hA c')
    | some ad => exact ⟨ad, rfl⟩
  refine (runs_appendK3 (m := es.length) und22 hi45 hz45 hs45 hb45 rfl (by omega) hs hown hx (news := cellsE es) (cellsE_length es) (fun j u hu => ?_) (cellsE_onecell es) (by unfold maxLen; omega) (by omega) hB).mono ?_
  · have h0 : 0 < es.length := by have := (List.getElem?_eq_some_iff.1 hu).1; rw [cellsE_length] at this; omega
    obtain ⟨b, o, e, hb, hr⟩ := hA' h0
    cases e
    rw [add_lit']; exact hr j u hu
  · rintro u w2 ⟨⟨A2, c2, rfl⟩, h2, h3, h4, h5⟩
    rw [cellsE_append]
    exact ⟨⟨⟨_, _, rfl⟩, h2⟩, h3, fun v n ys hk ho => h4 v n ys ho (hk), h5⟩
end
end Go.Proofs.Ytapcpmalgdhakaa
