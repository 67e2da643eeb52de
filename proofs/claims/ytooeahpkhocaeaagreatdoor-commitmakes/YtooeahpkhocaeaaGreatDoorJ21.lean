/- append onto rows of messages: where the new row lies, and what stays. Conditions: none of our own. -/
import Derived.Test.YtooeahpkhocaeaaGreatDoorJ20
namespace Go.Proofs.YtooeahpkhocaeaaGreatDoor
open Go.RowKit
set_option maxRecDepth 100000

/-- A row that holds the beginning of what is written stays. -/
theorem owns_pre {w w' : World} {B : Nat} {e : TypeId} {sz g n m cap : Nat} {xs news : List Value} (h : w.ownsRow B e sz (.slice (some ⟨g, 0, none⟩) n cap) n xs) (hsz : 0 < sz) (h' : w'.ownsRow B e sz (.slice (some ⟨g, 0, none⟩) (n + m) cap) (n + m) (xs ++ news)) (hgr : w.grownBy w' (some g))
    {v : Value} {k : Nat} {ys : List Value} (hv : w.ownsRow B e sz v k ys) (hk : ys <+: (xs ++ news)) : w'.ownsRow B e sz v k ys := by
  refine ⟨hv.1, ?_⟩
  rcases hv.2 with hn | ⟨g2, cap2, cur2, rfl, hb2, hg2, hc2, hm2, hs2, ht2⟩
  · exact .inl hn
  · by_cases hgg : g2 = g
    · subst hgg
      rcases h.2 with ⟨hn, _⟩ | ⟨g1, cap1, cur1, e1, hb1, hg1, hc1, hm1, hs1, ht1⟩
      · cases hn
      simp only [Value.slice.injEq, Option.some.injEq, Addr.mk.injEq, and_true, true_and] at e1
      obtain ⟨rfl, rfl⟩ := e1
      rw [hg1] at hg2
      simp only [Option.some.injEq, Obj.cells.injEq, and_true] at hg2
      subst hg2
      rcases h'.2 with ⟨hn, _⟩ | ⟨g3, cap3, cur3, e3, hb3, hg3, hc3, hm3, hs3, ht3⟩
      · cases hn
      simp only [Value.slice.injEq, Option.some.injEq, Addr.mk.injEq, and_true, true_and] at e3
      obtain ⟨rfl, rfl⟩ := e3
      have hcc : cap2 = cap := Nat.eq_of_mul_eq_mul_right hsz (by omega)
      subst hcc
      refine .inr ⟨g2, cap2, cur3, rfl, hb2, hg3, hc2, hm2, hs3, ?_⟩
      have hle : k * sz ≤ (n + m) * sz := by have := hk.length_le; rw [hv.1, h'.1] at this; exact this
      have e4 : cur3.toList.take (k * sz) = (xs ++ news).take (k * sz) := by
        rw [← ht3, List.take_take, Nat.min_eq_left hle]
      obtain ⟨r, hr⟩ := hk
      rw [e4, ← hr, ← hv.1, List.take_left]
    · exact .inr ⟨g2, cap2, cur2, rfl, hb2, (hgr.block g2 (Array.getElem?_eq_some_iff.1 hg2).1 (fun e => hgg (Option.some.inj e))).trans hg2, hc2, hm2, hs2, ht2⟩
/-- A row in another block than the one that is written to stays. -/
theorem owns_far {w w' : World} {B : Nat} {e : TypeId} {sz k : Nat} {v : Value} {ys : List Value} {s : Option Nat} (hgr : w.grownBy w' s) (hv : w.ownsRow B e sz v k ys) (hne : v.ownBlock = none ∨ v.ownBlock ≠ s) : w'.ownsRow B e sz v k ys := by
  refine ⟨hv.1, ?_⟩
  rcases hv.2 with hn | ⟨g2, cap2, cur2, rfl, hb2, hg2, hc2, hm2, hs2, ht2⟩
  · exact .inl hn
  · refine .inr ⟨g2, cap2, cur2, rfl, hb2, (hgr.block g2 (Array.getElem?_eq_some_iff.1 hg2).1 ?_).trans hg2, hc2, hm2, hs2, ht2⟩
    rcases hne with h | h
    · cases h
    · exact h
/-- What stays where a row of messages that is made ends as Y. -/
def KY (B : Nat) (Y : List Value) (a b : World) : Prop := Below B a b ∧ (∀ v k ys, ys <+: Y → a.ownsRow B 81 3 v k ys → b.ownsRow B 81 3 v k ys) ∧ (∀ i t cs, t ≠ 81 → Has a i t cs → Has b i t cs) ∧ (∀ i cs, cs.length = 3 → Has a i 81 cs → Has b i 81 cs)
theorem KY.of_below {B : Nat} {Y : List Value} {a b : World} (h : Below a.heap.size a b) (hB : B ≤ a.heap.size) : KY B Y a b :=
  ⟨h.mono hB, fun _ _ _ _ ho => owns_kept ho h, fun _ _ _ _ hg => hg.below h hg.lt, fun _ _ _ hg => hg.below h hg.lt⟩
theorem KY.refl {B : Nat} {Y : List Value} {a : World} : KY B Y a a := ⟨Below.refl _ _, fun _ _ _ _ h => h, fun _ _ _ _ h => h, fun _ _ _ h => h⟩
theorem KY.trans {B : Nat} {Y : List Value} {a b c : World} (h : KY B Y a b) (k : KY B Y b c) : KY B Y a c :=
  ⟨h.1.trans k.1, fun v n ys hy ho => k.2.1 v n ys hy (h.2.1 v n ys hy ho), fun i t cs ht ho => k.2.2.1 i t cs ht (h.2.2.1 i t cs ht ho), fun i cs ht ho => k.2.2.2 i cs ht (h.2.2.2 i cs ht ho)⟩
theorem KY.drew {B : Nat} {Y : List Value} {a b : World} (h : KY B Y a b) : KY B Y a b.drew := ⟨h.1.drew, h.2.1, h.2.2.1, h.2.2.2⟩
section
variable {L : List (Nat × Value)} {w : World} {ty : TypeId}
/-- append of messages upon a row of the call's own. -/
theorem app_ownY {B n : Nat} {s x : Operand} {sv v : Value} {xs es : List E} (hE : Edges w v es) (hn : xs.length + es.length ≤ 100000) (hB : B ≤ w.heap.size) (hs : vals L s = some sv) (hown : w.ownsRow B 81 3 sv xs.length (cellsE xs)) (hx : vals L x = some v)
    (hpos : 0 < es.length ∨ sv ≠ .slice none 0 0) (hcap : 0 < es.length → 1 < n ∨ (∀ g m c, sv = .slice (some g) m c → c = 0)) (hn' : n = xs.length + es.length) :
    Runs Tryz.prog (.call { callee := .builtin .append, args := #[s, x], argTypes := #[30, 30] }) ty L w (fun u w2 => (∃ g2 c2, u = .slice (some ⟨g2, 0, none⟩) n c2) ∧ w2.ownsRow B 81 3 u n (cellsE (xs ++ es)) ∧ KY B (cellsE (xs ++ es)) w w2 ∧
      (∀ v' k ys, (v'.ownBlock = none ∨ v'.ownBlock ≠ sv.ownBlock) → w.ownsRow B 81 3 v' k ys → w2.ownsRow B 81 3 v' k ys) ∧ (u.ownBlock = sv.ownBlock ∨ ∃ g, u.ownBlock = some g ∧ w.heap.size ≤ g)) := by
  subst hn'
  obtain ⟨i48, hi48, hz48, hs48, hb48⟩ := info_parts inf48
  obtain ⟨A, c, rfl, hc1, hc2, hA⟩ := hE
  by_cases hz : es.length = 0
  · obtain rfl : es = [] := List.eq_nil_of_length_eq_zero hz
    rcases hown.2 with ⟨rfl, h0⟩ | ⟨g, cap, cur, rfl, hbg, hg, hcc, hcm, hcs, hct⟩
    · rcases hpos with h | h
      · simp at h
      · exact absurd rfl h
    · refine (runs_appendNone und32 hi48 hs hcc (by simp) hx).mono ?_
      rintro u w2 ⟨rfl, rfl⟩
      refine ⟨⟨g, cap, rfl⟩, by simpa using hown, KY.refl, fun _ _ _ _ h => h, .inl rfl⟩
  · replace hcap := hcap (Nat.pos_of_ne_zero hz)
    obtain ⟨b, o, rfl, hb, hr⟩ := hA (Nat.pos_of_ne_zero hz)
    have hnews : ∀ j u, (cellsE es)[j]? = some u → w.cell? ((⟨b, o, none⟩ : Addr).add j) = some u := fun j u hu => by rw [add_lit']; exact hr j u hu
    have h63 : xs.length + es.length ≤ maxLen := by unfold maxLen; omega
    intro oo a K Q ho _ hL hK
    have e1 := hL s (by simp [Op.operands, Call.operands]) _ hs
    have e2 := hL x (by simp [Op.operands, Call.operands]) _ hx
    have hex : ∃ v' w', (Builtin.append_ #[30, 30] oo.type #[sv, .slice (some ⟨b, o, none⟩) es.length c]).run Tryz.prog w = .ok v' w' ∧ ((∃ g2 c2, v' = .slice (some ⟨g2, 0, none⟩) (xs.length + es.length) c2) ∧ w'.ownsRow B 81 3 v' (xs.length + es.length) (cellsE (xs ++ es)) ∧ KY B (cellsE (xs ++ es)) w w' ∧
        (∀ v'' k ys, (v''.ownBlock = none ∨ v''.ownBlock ≠ sv.ownBlock) → w.ownsRow B 81 3 v'' k ys → w'.ownsRow B 81 3 v'' k ys) ∧ (v'.ownBlock = sv.ownBlock ∨ ∃ g, v'.ownBlock = some g ∧ w.heap.size ≤ g)) := by
      rw [cellsE_append]
      rcases hown.2 with ⟨rfl, h0⟩ | ⟨g, cap, cur, rfl, hbg, hg, hcc, hcm, hcs, hct⟩
      · obtain ⟨v', w', hrun, h2, h3, h4, h5⟩ := run_append_own_at (P := Tryz.prog) w B 30 oo.type 81 i48 _ 3 _ und32 hi48 hz48 hs48 hb48 rfl (by omega) _ _ _ hown ⟨b, o, none⟩ es.length c (cellsE es) (cellsE_length es) hnews (cellsE_onecell es) h63 (by omega) hB
        have hbel : Below w.heap.size w w' := (Below.refl _ _).grown h3 (Nat.le_refl _) (fun k h => by cases h)
        have hne : v' ≠ .slice none 0 0 := fun e => absurd (h4.1 e).2 hz
        refine ⟨v', w', hrun, ?_, h2, KY.of_below hbel hB, fun v'' k ys _ hv => owns_kept hv hbel, ?_⟩
        · rcases h2.2 with ⟨e, _⟩ | ⟨g3, c3, _, rfl, _⟩
          · exact absurd e hne
          · exact ⟨g3, c3, rfl⟩
        · rcases h5 with h | h
          · exact .inl h
          · exact .inr ⟨_, h, Nat.le_refl _⟩
      · by_cases hrm : xs.length + es.length ≤ cap
        · obtain ⟨w', hrun, h2, h3⟩ := run_append_fits (P := Tryz.prog) w B 30 oo.type 81 i48 3 und32 hi48 hs48 g xs.length cap _ hown ⟨b, o, none⟩ es.length c (cellsE es) (cellsE_length es) hnews (cellsE_onecell es) hrm
          have hcap1 : 1 < xs.length + es.length := by
            rcases hcap with h | h
            · exact h
            · have := h _ _ _ rfl; omega
          have hblk : ∀ i' t' cs, (t' ≠ 81 ∨ cs.length = 3) → Has w i' t' cs → Has w' i' t' cs := fun i' t' cs ht' hi' => by
            have hne : some i' ≠ some g := fun hsv => by
              simp only [Option.some.injEq] at hsv
              subst hsv
              unfold Has at hi'
              rw [hi'] at hg
              simp only [Option.some.injEq, Obj.cells.injEq, and_true] at hg
              rcases ht' with h | h
              · exact h hg.2
              · have : cur.size = cs.length := by rw [← hg.1]; simp
                rw [hcs, h] at this
                omega
            unfold Has
            rw [h3.block i' hi'.lt hne]
            exact hi'
          exact ⟨_, w', hrun, ⟨_, _, rfl⟩, h2, ⟨below_grown (Below.refl _ _) h3 (fun k hk => by cases hk; exact hbg) hB, fun v'' k ys hk hv => by
            exact owns_pre hown (by omega) h2 h3 hv hk, fun i' t' cs ht' hi' => hblk i' t' cs (.inl ht') hi', fun i' cs ht' hi' => hblk i' 81 cs (.inr ht') hi'⟩, fun v'' k ys hk hv => owns_far h3 hv hk, .inl rfl⟩
        · obtain ⟨v', w', hrun, h2, h3⟩ := run_append_arg_grows (P := Tryz.prog) w 30 oo.type 81 i48 _ 3 _ und32 hi48 hz48 hs48 hb48 rfl (by omega) ⟨g, 0, none⟩ xs.length cap (cellsE xs) hown.1 (fun j u hj => by
            rw [add_zero_addr, Nat.zero_add]
            have hj' := hj
            rw [← hct, List.getElem?_take] at hj'
            split at hj'
            · have hh : Has w g 81 cur.toList := by show _ = _; rw [hg]
              rw [hh.cell]; exact hj'
            · cases hj') ⟨b, o, none⟩ es.length c (cellsE es) (cellsE_length es) hnews (by omega) h63 (by omega)
          have hbel : Below w.heap.size w w' := (Below.refl _ _).grown h3 (Nat.le_refl _) (fun k h => by cases h)
          refine ⟨v', w', hrun, ?_, owns_mono h2 hB, KY.of_below hbel hB, fun v'' k ys _ hv => owns_kept hv hbel, ?_⟩
          · rcases h2.2 with ⟨_, h0⟩ | ⟨g3, c3, _, rfl, _⟩
            · omega
            · exact ⟨g3, c3, rfl⟩
          · rcases h2.2 with ⟨_, h0⟩ | ⟨g3, c3, _, rfl, hg3, _⟩
            · omega
            · exact .inr ⟨g3, rfl, hg3⟩
    obtain ⟨v', w', hr, hp⟩ := hex
    unfold Oper.wp execOp
    simp only [ho, resolve, invoke, builtin, Sem.run_bind, Sem.run_pure, Result.andThen_ok, List.map_toArray, List.map_cons, List.map_nil, e1, e2, hr]
    exact hK v' w' hp
/-- An empty row of messages. -/
theorem owns_emptyM {g B : Nat} (h : w.heap[g]? = some (.cells #[] 81 (0, 0))) (hB : B ≤ g) : w.ownsRow B 81 3 (.slice (some ⟨g, 0, none⟩) 0 0) 0 [] :=
  ⟨rfl, .inr ⟨g, 0, #[], rfl, hB, h, Nat.le_refl _, by unfold maxLen; omega, rfl, rfl⟩⟩
theorem none_ownM {B : Nat} (hB : B ≤ w.heap.size) : Runs Tryz.prog (.buildSlice 30 0 #[]) ty L w (fun v w' => (∃ g, v = .slice (some ⟨g, 0, none⟩) 0 0 ∧ w'.ownsRow B 81 3 v 0 []) ∧ Below w.heap.size w w') := by
  obtain ⟨i48, hi48, hz48, hs48, hb48⟩ := info_parts inf48
  exact (runs_buildNone und32 hi48).mono (by rintro v w3 ⟨rfl, rfl⟩; exact ⟨⟨_, rfl, owns_emptyM (heap_alloc_new _ _) hB⟩, (Below.refl _ _).alloc (Nat.le_refl _) _⟩)
/-- A copy upon an empty row: all else stays. -/
theorem copy_ownM {B : Nat} {s x : Operand} {g : Nat} {v : Value} {es : List E} (hE : Edges w v es) (hn : es.length ≤ 100000) (hB : B ≤ w.heap.size) (hs2 : vals L s = some (.slice (some ⟨g, 0, none⟩) 0 0)) (h0 : w.ownsRow B 81 3 (.slice (some ⟨g, 0, none⟩) 0 0) 0 []) (hx : vals L x = some v) :
    Runs Tryz.prog (.call { callee := .builtin .append, args := #[s, x], argTypes := #[30, 30] }) ty L w (fun u w2 => (∃ g2 c2, u = .slice (some ⟨g2, 0, none⟩) es.length c2 ∧ (es.length = 0 → c2 = 0)) ∧ w2.ownsRow B 81 3 u es.length (cellsE es) ∧ Below w.heap.size w w2) := by
  obtain ⟨i48, hi48, hz48, hs48, hb48⟩ := info_parts inf48
  obtain ⟨A, c, rfl, hc1, hc2, hA⟩ := hE
  by_cases hz : es.length = 0
  · obtain rfl : es = [] := List.eq_nil_of_length_eq_zero hz
    exact (runs_appendNone und32 hi48 hs2 (Nat.le_refl _) (by simp) hx).mono (by
      rintro u w2 ⟨rfl, rfl⟩
      exact ⟨⟨g, 0, rfl, fun _ => rfl⟩, h0, Below.refl _ _⟩)
  · obtain ⟨b, o, rfl, hb, hr⟩ := hA (by omega)
    exact (runs_append0N (m := es.length) und32 hi48 hz48 hs48 hb48 rfl (by omega) hs2 hx (news := cellsE es) (cellsE_length es) (fun j u hu => by rw [add_lit']; exact hr j u hu) (by unfold maxLen; omega) (by omega) (by omega)).mono (by
      rintro u w2 ⟨h3, h4⟩
      refine ⟨?_, owns_mono h3 hB, h4⟩
      rcases h3.2 with ⟨_, h5⟩ | ⟨g2, c2, _, rfl, _⟩
      · omega
      · exact ⟨g2, c2, rfl, fun h => absurd h hz⟩)
end
end Go.Proofs.YtooeahpkhocaeaaGreatDoor
/- Layer 8: small functions: values too great, comparing, closures. Conditions: none of our own. -/
namespace Go.Proofs.YtooeahpkhocaeaaGreatDoor
open Go.RowKit
set_option maxRecDepth 100000

theorem goes59 : Goes Tryz.prog 59 := goes_of Tryz.func59 (by kernel_rfl) rfl
theorem goes60 : Goes Tryz.prog 60 := goes_of Tryz.func60 (by kernel_rfl) rfl
theorem goes61 : Goes Tryz.prog 61 := goes_of Tryz.func61 (by kernel_rfl) rfl
theorem goes69 : Goes Tryz.prog 69 := goes_of Tryz.func69 (by kernel_rfl) rfl
theorem goes74 : Goes Tryz.prog 74 := goes_of Tryz.func74 (by kernel_rfl) rfl
theorem goes76 : Goes Tryz.prog 76 := goes_of Tryz.func76 (by kernel_rfl) rfl
theorem goes77 : Goes Tryz.prog 77 := goes_of Tryz.func77 (by kernel_rfl) rfl
theorem goes78 : Goes Tryz.prog 78 := goes_of Tryz.func78 (by kernel_rfl) rfl
theorem goes90 : Goes Tryz.prog 90 := goes_of Tryz.func90 (by kernel_rfl) rfl
theorem goes91 : Goes Tryz.prog 91 := goes_of Tryz.func91 (by kernel_rfl) rfl
set_option maxHeartbeats 1000000 in
theorem sort1_any (e : E) (w : World) : Ans 61 [.agg (encE e).toArray] w (fun u w' => u = .bool true ∧ Below w.heap.size w w') := by
  refine calls_qx (args := [.agg (encE e).toArray]) 3 Tryz.func61 rfl (by kernel_rfl) (by simp) (fun a hS => ?_)
  have hB := Below.refl w.heap.size w
  refine qx_seq (reg_seq ?_)
  refine seq_op hS (by decide) (runs_boxB (cs := encE e) rfl rfl) (fun v1 w1 a1 hp hS => ?_)
  obtain ⟨rfl, hM1, hB1⟩ := hp
  have hB := hB.trans (hB1.mono hB.size)
  refine sI hS (runs_assign rfl) fun _ hS => ?_
  refine nil_ok (qx_seq (reg_seq ?_))
  refine sI hS (runs_assign rfl) fun _ hS => ?_
  exact nil_ok (qx_ret (ret1 (t := 2) (by kernel_rfl) hS rfl ⟨_, rfl, rfl, hB⟩))
set_option maxHeartbeats 1000000 in
theorem less_any (a b : E) (w : World) : Ans 69 [.agg (encE a).toArray, .agg (encE b).toArray] w (fun u w' => u = .bool (lessM a b) ∧ Below w.heap.size w w') := by
  refine calls_qx (args := [.agg (encE a).toArray, .agg (encE b).toArray]) 30 Tryz.func69 rfl (by kernel_rfl) (by simp) (fun act hS => ?_)
  have hB := Below.refl w.heap.size w
  refine qx_seq (reg_seq ?_)
  refine seq_op hS (by decide) (runs_boxB (cs := encE a) rfl rfl) (fun v1 w1 a1 hp hS => ?_)
  obtain ⟨rfl, hM1, hB1⟩ := hp
  have hB := hB.trans (hB1.mono hB.size)
  refine seq_op hS (by decide) (runs_boxB (cs := encE b) rfl rfl) (fun v3 w3 a1 hp hS => ?_)
  obtain ⟨rfl, hM3, hB3⟩ := hp
  have hB := hB.trans (hB3.mono hB.size)
  have hM1 := hM1.below hB3 hM1.lt
  refine sI hS (runs_assign rfl) fun _ hS => ?_
  refine nil_ok (qx_seq (qx_seq (reg_seq ?_)))
  refine sI hS (runs_fieldK fo41_1 rfl) fun _ hS => ?_
  refine sI hS (runs_load rfl pl3 (hM1.at rfl)) fun _ hS => ?_
  refine sI hS (runs_fieldK fo41_1 rfl) fun _ hS => ?_
  refine sI hS (runs_load rfl pl3 (hM3.at rfl)) fun _ hS => ?_
  by_cases h1 : ¬ a.2.1 = b.2.1
  · skip
    refine sI hS (runs_neq (r := true) rfl rfl (by simp [h1])) fun _ hS => ?_
    refine nil_ok (wp_cond_true (hS.eval rfl) (qx_seq (reg_seq ?_)))
    refine sI hS (runs_fieldK fo41_1 rfl) fun _ hS => ?_
    refine sI hS (runs_load rfl pl3 (hM1.at rfl)) fun _ hS => ?_
    refine sI hS (runs_fieldK fo41_1 rfl) fun _ hS => ?_
    refine sI hS (runs_load rfl pl3 (hM3.at rfl)) fun _ hS => ?_
    refine sI hS (runs_lss (r := decide (a.2.1 < b.2.1)) rfl rfl rfl) fun _ hS => ?_
    refine sI hS (runs_assign rfl) fun _ hS => ?_
    exact nil_ok (qx_ret (ret1 (t := 4) (by kernel_rfl) hS rfl ⟨_, rfl, by unfold lessM; rw [if_neg h1], hB⟩))
  refine sI hS (runs_neq (r := false) rfl rfl (by simp [Classical.not_not.1 h1])) fun _ hS => ?_
  refine nil_ok (wp_cond_false (hS.eval rfl) (wp_skip (qx_seq (qx_seq (reg_seq ?_)))))
  refine sI hS (runs_fieldK fo41_0 rfl) fun _ hS => ?_
  refine sI hS (runs_load rfl pl3 (hM1.at rfl)) fun _ hS => ?_
  refine sI hS (runs_fieldK fo41_0 rfl) fun _ hS => ?_
  refine sI hS (runs_load rfl pl3 (hM3.at rfl)) fun _ hS => ?_
  by_cases h2 : ¬ a.1 = b.1
  · skip
    refine sI hS (runs_neq (r := true) rfl rfl (by simp [h2])) fun _ hS => ?_
    refine nil_ok (wp_cond_true (hS.eval rfl) (qx_seq (reg_seq ?_)))
    refine sI hS (runs_fieldK fo41_0 rfl) fun _ hS => ?_
    refine sI hS (runs_load rfl pl3 (hM1.at rfl)) fun _ hS => ?_
    refine sI hS (runs_fieldK fo41_0 rfl) fun _ hS => ?_
    refine sI hS (runs_load rfl pl3 (hM3.at rfl)) fun _ hS => ?_
    refine sI hS (runs_lss (r := decide (a.1 < b.1)) rfl rfl rfl) fun _ hS => ?_
    refine sI hS (runs_assign rfl) fun _ hS => ?_
    exact nil_ok (qx_ret (ret1 (t := 4) (by kernel_rfl) hS rfl ⟨_, rfl, by unfold lessM; rw [if_pos (Classical.not_not.1 h1), if_neg h2], hB⟩))
  refine sI hS (runs_neq (r := false) rfl rfl (by simp [Classical.not_not.1 h2])) fun _ hS => ?_
  refine nil_ok (wp_cond_false (hS.eval rfl) (wp_skip (qx_seq (reg_seq ?_))))
  refine sI hS (runs_fieldK fo41_2 rfl) fun _ hS => ?_
  refine sI hS (runs_load rfl pl2 (hM1.at rfl)) fun _ hS => ?_
  refine sI hS (runs_fieldK fo41_2 rfl) fun _ hS => ?_
  refine sI hS (runs_load rfl pl2 (hM3.at rfl)) fun _ hS => ?_
  refine sI hS (runs_lss (r := decide (a.2.2 < b.2.2)) rfl rfl rfl) fun _ hS => ?_
  refine sI hS (runs_assign rfl) fun _ hS => ?_
  exact nil_ok (qx_ret (ret1 (t := 4) (by kernel_rfl) hS rfl ⟨_, rfl, by unfold lessM; rw [if_pos (Classical.not_not.1 h1), if_pos (Classical.not_not.1 h2)], hB⟩))
theorem less_is {a b : E} {r : Bool} (h : lessM a b = r) (w : World) : Ans 69 [.agg (encE a).toArray, .agg (encE b).toArray] w (fun u w' => u = .bool r ∧ Below w.heap.size w w') := h ▸ less_any a b w
/-- What cmp.Compare tells. -/
def cmpI (x y : Int) : Int := if x < y then -1 else if x > y then 1 else 0
set_option maxHeartbeats 1000000 in
theorem isNaN_any (x : Int) (w : World) : Ans 90 [.int .i64 x] w (Is (.bool false) w) := by
  refine calls_qx (args := [.int .i64 x]) 6 Tryz.func90 rfl (by kernel_rfl) (by simp) (fun a hS => ?_)
  refine qx_seq (reg_seq ?_)
  refine sI hS (runs_assign rfl) fun _ hS => ?_
  refine nil_ok (qx_seq (reg_seq ?_))
  refine sI hS (runs_move rfl) fun _ hS => ?_
  refine sI hS (runs_move rfl) fun _ hS => ?_
  refine sI hS (runs_neq (r := false) rfl rfl (by simp)) fun _ hS => ?_
  refine sI hS (runs_assign rfl) fun _ hS => ?_
  exact nil_ok (qx_ret (ret1 (t := 2) (by kernel_rfl) hS rfl ⟨_, rfl, rfl, rfl⟩))
set_option maxHeartbeats 1000000 in
theorem compare_any (x y : Int) (w : World) : Ans 77 [.int .i64 x, .int .i64 y] w (Is (.int .i64 (cmpI x y)) w) := by
  refine calls_qx (args := [.int .i64 x, .int .i64 y]) 20 Tryz.func77 rfl (by kernel_rfl) (by simp) (fun a hS => ?_)
  refine qx_seq (reg_seq ?_)
  refine sI hS (runs_assign rfl) fun _ hS => ?_
  refine nil_ok (qx_seq (reg_seq ?_))
  refine sI hS (runs_move rfl) fun _ hS => ?_
  refine sI hS (runs_call (args := [.int .i64 x]) goes90 rfl (isNaN_any x w)) fun _ hS => ?_
  refine sI hS (runs_assign rfl) fun _ hS => ?_
  refine nil_ok (qx_seq (reg_seq ?_))
  refine sI hS (runs_move rfl) fun _ hS => ?_
  refine sI hS (runs_call (args := [.int .i64 y]) goes90 rfl (isNaN_any y w)) fun _ hS => ?_
  refine sI hS (runs_assign rfl) fun _ hS => ?_
  refine nil_ok (qx_seq (qx_seq (reg_seq ?_)))
  refine sI hS (runs_move rfl) fun _ hS => ?_
  refine nil_ok (wp_cond_false (hS.eval rfl) (wp_skip (qx_seq (qx_seq (reg_seq ?_)))))
  refine sI hS (runs_move rfl) fun _ hS => ?_
  refine nil_ok (wp_cond_false (hS.eval rfl) (wp_skip (qx_seq (qx_seq (reg_seq ?_)))))
  refine sI hS (runs_move rfl) fun _ hS => ?_
  refine sI hS (runs_move rfl) fun _ hS => ?_
  by_cases h1 : x < y
  · skip
    refine sI hS (lssT rfl rfl (by omega)) fun _ hS => ?_
    refine nil_ok (wp_cond_true (hS.eval rfl) (qx_seq (reg_seq ?_)))
    refine sI hS (runs_assign rfl) fun _ hS => ?_
    exact nil_ok (qx_ret (ret1 (t := 4) (by kernel_rfl) hS rfl ⟨_, rfl, by rw [cmpI, if_pos h1], rfl⟩))
  refine sI hS (lssF rfl rfl (by omega)) fun _ hS => ?_
  refine nil_ok (wp_cond_false (hS.eval rfl) (wp_skip (qx_seq (qx_seq (reg_seq ?_)))))
  refine sI hS (runs_move rfl) fun _ hS => ?_
  refine sI hS (runs_move rfl) fun _ hS => ?_
  by_cases h2 : x > y
  · skip
    refine sI hS (gtrT rfl rfl (by omega)) fun _ hS => ?_
    refine nil_ok (wp_cond_true (hS.eval rfl) (qx_seq (reg_seq ?_)))
    refine sI hS (runs_assign rfl) fun _ hS => ?_
    exact nil_ok (qx_ret (ret1 (t := 4) (by kernel_rfl) hS rfl ⟨_, rfl, by rw [cmpI, if_neg h1, if_pos h2], rfl⟩))
  refine sI hS (gtrF rfl rfl (by omega)) fun _ hS => ?_
  refine nil_ok (wp_cond_false (hS.eval rfl) (wp_skip (qx_seq (reg_seq ?_))))
  refine sI hS (runs_assign rfl) fun _ hS => ?_
  exact nil_ok (qx_ret (ret1 (t := 4) (by kernel_rfl) hS rfl ⟨_, rfl, by rw [cmpI, if_neg h1, if_neg h2], rfl⟩))
set_option maxHeartbeats 1000000 in
theorem isNaN64_any (x : Int) (w : World) : Ans 91 [.int .i64 x] w (Is (.bool false) w) := by
  refine calls_qx (args := [.int .i64 x]) 6 Tryz.func91 rfl (by kernel_rfl) (by simp) (fun a hS => ?_)
  refine qx_seq (reg_seq ?_)
  refine sI hS (runs_assign rfl) fun _ hS => ?_
  refine nil_ok (qx_seq (reg_seq ?_))
  refine sI hS (runs_move rfl) fun _ hS => ?_
  refine sI hS (runs_move rfl) fun _ hS => ?_
  refine sI hS (runs_neq (r := false) rfl rfl (by simp)) fun _ hS => ?_
  refine sI hS (runs_assign rfl) fun _ hS => ?_
  exact nil_ok (qx_ret (ret1 (t := 2) (by kernel_rfl) hS rfl ⟨_, rfl, rfl, rfl⟩))
set_option maxHeartbeats 1000000 in
theorem compare64_any (x y : Int) (w : World) : Ans 78 [.int .i64 x, .int .i64 y] w (Is (.int .i64 (cmpI x y)) w) := by
  refine calls_qx (args := [.int .i64 x, .int .i64 y]) 20 Tryz.func78 rfl (by kernel_rfl) (by simp) (fun a hS => ?_)
  refine qx_seq (reg_seq ?_)
  refine sI hS (runs_assign rfl) fun _ hS => ?_
  refine nil_ok (qx_seq (reg_seq ?_))
  refine sI hS (runs_move rfl) fun _ hS => ?_
  refine sI hS (runs_call (args := [.int .i64 x]) goes91 rfl (isNaN64_any x w)) fun _ hS => ?_
  refine sI hS (runs_assign rfl) fun _ hS => ?_
  refine nil_ok (qx_seq (reg_seq ?_))
  refine sI hS (runs_move rfl) fun _ hS => ?_
  refine sI hS (runs_call (args := [.int .i64 y]) goes91 rfl (isNaN64_any y w)) fun _ hS => ?_
  refine sI hS (runs_assign rfl) fun _ hS => ?_
  refine nil_ok (qx_seq (qx_seq (reg_seq ?_)))
  refine sI hS (runs_move rfl) fun _ hS => ?_
  refine nil_ok (wp_cond_false (hS.eval rfl) (wp_skip (qx_seq (qx_seq (reg_seq ?_)))))
  refine sI hS (runs_move rfl) fun _ hS => ?_
  refine nil_ok (wp_cond_false (hS.eval rfl) (wp_skip (qx_seq (qx_seq (reg_seq ?_)))))
  refine sI hS (runs_move rfl) fun _ hS => ?_
  refine sI hS (runs_move rfl) fun _ hS => ?_
  by_cases h1 : x < y
  · skip
    refine sI hS (lssT rfl rfl (by omega)) fun _ hS => ?_
    refine nil_ok (wp_cond_true (hS.eval rfl) (qx_seq (reg_seq ?_)))
    refine sI hS (runs_assign rfl) fun _ hS => ?_
    exact nil_ok (qx_ret (ret1 (t := 4) (by kernel_rfl) hS rfl ⟨_, rfl, by rw [cmpI, if_pos h1], rfl⟩))
  refine sI hS (lssF rfl rfl (by omega)) fun _ hS => ?_
  refine nil_ok (wp_cond_false (hS.eval rfl) (wp_skip (qx_seq (qx_seq (reg_seq ?_)))))
  refine sI hS (runs_move rfl) fun _ hS => ?_
  refine sI hS (runs_move rfl) fun _ hS => ?_
  by_cases h2 : x > y
  · skip
    refine sI hS (gtrT rfl rfl (by omega)) fun _ hS => ?_
    refine nil_ok (wp_cond_true (hS.eval rfl) (qx_seq (reg_seq ?_)))
    refine sI hS (runs_assign rfl) fun _ hS => ?_
    exact nil_ok (qx_ret (ret1 (t := 4) (by kernel_rfl) hS rfl ⟨_, rfl, by rw [cmpI, if_neg h1, if_pos h2], rfl⟩))
  refine sI hS (gtrF rfl rfl (by omega)) fun _ hS => ?_
  refine nil_ok (wp_cond_false (hS.eval rfl) (wp_skip (qx_seq (reg_seq ?_))))
  refine sI hS (runs_assign rfl) fun _ hS => ?_
  exact nil_ok (qx_ret (ret1 (t := 4) (by kernel_rfl) hS rfl ⟨_, rfl, by rw [cmpI, if_neg h1, if_neg h2], rfl⟩))
end Go.Proofs.YtooeahpkhocaeaaGreatDoor
