/- Rows of numbers in memory. No condition. -/
import Derived.Test.YtapcpmalgdhakaaFApp
namespace Go.Proofs.Ytapcpmalgdhakaa
open Go.RowKit
set_option maxRecDepth 100000

abbrev ic (x : Int) : List Value := [.int .i64 x]
theorem undI64 : Try.prog.underlying 33 = some (.slice 2) := by kernel_rfl
theorem infI64 : (Try.prog.info? 2).map (fun i => (i.zero, i.size, i.bytes)) = some (some (.int .i64 0), 1, 8) := by kernel_rfl
def cellsI (es : List Int) : List Value := es.flatMap ic
theorem cellsI_length (es : List Int) : (cellsI es).length = es.length * 1 := by
  induction es with
  | nil => rfl
  | cons x xs ih => unfold cellsI at ih ⊢; rw [List.flatMap_cons, List.length_append, ih]; simp [ic]; omega
theorem cellsI_append (a b : List Int) : cellsI (a ++ b) = cellsI a ++ cellsI b := by unfold cellsI; rw [List.flatMap_append]
theorem cellsI_one (e : Int) : cellsI [e] = ic e := by simp [cellsI]
theorem cellsI_get : ∀ (es : List Int) (i : Nat) (e : Int), es[i]? = some e → ((cellsI es).drop (i * 1)).take 1 = ic e
  | x :: es, 0, e, h => by obtain rfl : x = e := by simpa using h
                           simp [cellsI, ic]
  | x :: es, i + 1, e, h => by
    have := cellsI_get es i e (by simpa using h)
    unfold cellsI at this ⊢
    rw [List.flatMap_cons, show (i + 1) * 1 = (ic x).length + i * 1 by simp [ic]; omega, List.drop_append, List.drop_eq_nil_of_le (by omega), List.nil_append, show (ic x).length + i * 1 - (ic x).length = i * 1 by omega]
    exact this
theorem cellsI_onecell (es : List Int) : ∀ v ∈ cellsI es, v.oneCell' = true := fun v hv => by
  simp only [cellsI, List.mem_flatMap, ic] at hv
  obtain ⟨e, _, he⟩ := hv
  simp at he
  rw [he]; rfl
theorem ic_inj {a b : Int} (h : ic a = ic b) : a = b := by simpa [ic] using h
/-- The value v is a slice of the nums es. -/
def Nums (w : World) (v : Value) (es : List Int) : Prop :=
  ∃ (A : Option Addr) (c : Nat), v = .slice A es.length c ∧ es.length ≤ c ∧ c ≤ maxLen ∧ (0 < es.length → ∃ b o, A = some ⟨b, o, none⟩ ∧ b < w.heap.size ∧ w.rangeAt b o (cellsI es))
theorem Nums.kept {w w' : World} {v : Value} {es : List Int} (h : Nums w v es) (k : Below w.heap.size w w') : Nums w' v es := by
  obtain ⟨A, c, rfl, h1, h2, h4⟩ := h
  refine ⟨A, c, rfl, h1, h2, fun hp => ?_⟩
  obtain ⟨b, o, rfl, hb, hr⟩ := h4 hp
  exact ⟨b, o, rfl, Nat.lt_of_lt_of_le hb k.size, range_below hr k hb⟩
theorem nums_nil (w : World) : Nums w (.slice none 0 0) [] := ⟨none, 0, rfl, Nat.le_refl _, by unfold maxLen; omega, fun h => absurd h (by simp)⟩
theorem nums_empty (w : World) (A : Option Addr) (c : Nat) (hc : c ≤ maxLen) : Nums w (.slice A 0 c) [] := ⟨A, c, rfl, Nat.zero_le _, hc, fun h => absurd h (by simp)⟩
theorem nums_own {w : World} {base : Nat} {v : Value} {n : Nat} {es : List Int} (h : w.ownsRow base 2 1 v n (cellsI es)) (hn : es.length = n) : Nums w v es := by
  subst hn
  rcases h.2 with ⟨rfl, h0⟩ | ⟨g, cap, cur, rfl, hb, hg, h1, h2, h3, h4⟩
  · exact ⟨none, 0, by rw [h0], by omega, by unfold maxLen; omega, fun h => by omega⟩
  · refine ⟨_, cap, rfl, h1, h2, fun _ => ⟨g, 0, rfl, (Array.getElem?_eq_some_iff.1 hg).1, fun j v hv => ?_⟩⟩
    rw [← h4, List.getElem?_take] at hv
    split at hv
    · simp only [World.cell?, hg, Nat.zero_add]; simpa using hv
    · cases hv
theorem nums_has {w : World} {g : Nat} {es : List Int} (h : Has w g 2 (cellsI es)) (hc : es.length ≤ maxLen) : Nums w (.slice (some ⟨g, 0, none⟩) es.length es.length) es :=
  ⟨_, _, rfl, Nat.le_refl _, hc, fun _ => ⟨g, 0, rfl, h.lt, fun j v hv => by rw [Nat.zero_add, h.cell]; exact hv⟩⟩
theorem nums_at {w : World} {b o : Nat} {es : List Int} (h : w.rangeAt b o (cellsI es)) {i : Nat} {e : Int} (hi : es[i]? = some e) : w.rangeAt b (o + i * 1) (ic e) := by
  rw [← cellsI_get es i e hi]
  exact range_sub h (i * 1) 1
theorem nums_take {w : World} {A : Option Addr} {c : Nat} {es : List Int} (h : Nums w (.slice A es.length c) es) (k : Nat) (hk : k ≤ es.length) : Nums w (.slice A k c) (es.take k) := by
  obtain ⟨A', c', e, h1, h2, hA⟩ := h
  simp only [Value.slice.injEq, true_and] at e
  obtain ⟨rfl, rfl⟩ := e
  have hl : (es.take k).length = k := by simp; omega
  refine ⟨A, c, by rw [hl], by omega, h2, fun h0 => ?_⟩
  obtain ⟨b, o, rfl, hb, hc⟩ := hA (by omega)
  refine ⟨b, o, rfl, hb, fun j v hv => hc j v ?_⟩
  have : cellsI es = cellsI (es.take k) ++ cellsI (es.drop k) := by rw [← cellsI_append, List.take_append_drop]
  rw [this, List.getElem?_append_left (List.getElem?_eq_some_iff.1 hv).1]; exact hv
theorem nums_drop {w : World} {A : Option Addr} {c : Nat} {es : List Int} (h : Nums w (.slice A es.length c) es) (k : Nat) (hk : k ≤ es.length) : Nums w (.slice (if c = k then A else A.map (·.add (k * 1))) (es.length - k) (c - k)) (es.drop k) := by
  obtain ⟨A', c', e, h1, h2, hA⟩ := h
  simp only [Value.slice.injEq, true_and] at e
  obtain ⟨rfl, rfl⟩ := e
  have hl : (es.drop k).length = es.length - k := by simp
  refine ⟨_, c - k, by rw [hl], by omega, by omega, fun h0 => ?_⟩
  rw [hl] at h0
  obtain ⟨b, o, rfl, hb, hc⟩ := hA (by omega)
  refine ⟨b, o + k * 1, by rw [if_neg (by omega)]; simp [add_lit'], hb, fun j v hv => ?_⟩
  rw [Nat.add_assoc]
  refine hc _ v ?_
  have : cellsI es = cellsI (es.take k) ++ cellsI (es.drop k) := by rw [← cellsI_append, List.take_append_drop]
  rw [this, List.getElem?_append_right (by rw [cellsI_length]; simp; omega), cellsI_length, show k * 1 + j - (es.take k).length * 1 = j by simp [show min k es.length = k by omega]]
  exact hv
/-- As Nums, and its cells lie at or behind B. -/
def NumsB (B : Nat) (w : World) (v : Value) (es : List Int) : Prop :=
  ∃ (A : Option Addr) (c : Nat), v = .slice A es.length c ∧ es.length ≤ c ∧ c ≤ maxLen ∧ (0 < es.length → ∃ b o, A = some ⟨b, o, none⟩ ∧ B ≤ b ∧ b < w.heap.size ∧ w.rangeAt b o (cellsI es))
theorem NumsB.nums {B : Nat} {w : World} {v : Value} {es : List Int} (h : NumsB B w v es) : Nums w v es := by
  obtain ⟨A, c, rfl, h1, h2, h3⟩ := h
  exact ⟨A, c, rfl, h1, h2, fun h0 => by obtain ⟨b, o, rfl, _, hb, hr⟩ := h3 h0; exact ⟨b, o, rfl, hb, hr⟩⟩
theorem NumsB.kept {B : Nat} {w w' : World} {v : Value} {es : List Int} (h : NumsB B w v es) (k : Below w.heap.size w w') : NumsB B w' v es := by
  obtain ⟨A, c, rfl, h1, h2, h3⟩ := h
  exact ⟨A, c, rfl, h1, h2, fun h0 => by obtain ⟨b, o, rfl, hB, hb, hr⟩ := h3 h0; exact ⟨b, o, rfl, hB, Nat.lt_of_lt_of_le hb k.size, range_below hr k hb⟩⟩
theorem NumsB.mono {B B' : Nat} {w : World} {v : Value} {es : List Int} (h : NumsB B w v es) (k : B' ≤ B) : NumsB B' w v es := by
  obtain ⟨A, c, rfl, h1, h2, h3⟩ := h
  exact ⟨A, c, rfl, h1, h2, fun h0 => by obtain ⟨b, o, rfl, hB, hb, hr⟩ := h3 h0; exact ⟨b, o, rfl, Nat.le_trans k hB, hb, hr⟩⟩
theorem NumsB.setRow {B : Nat} {w : World} {v : Value} {es : List Int} (h : NumsB B w v es) {g : Nat} (hg : g < B) (cs : Array Value) : NumsB B (w.setRow g cs) v es := by
  obtain ⟨A, c, rfl, h1, h2, h3⟩ := h
  refine ⟨A, c, rfl, h1, h2, fun h0 => ?_⟩
  obtain ⟨b, o, rfl, hB, hb, hr⟩ := h3 h0
  refine ⟨b, o, rfl, hB, by simpa [World.setRow] using hb, fun j u hj => ?_⟩
  have := setRow_other w g b cs (by omega)
  have h5 := hr j u hj
  simp only [World.cell?] at h5 ⊢
  rw [this]; exact h5
theorem numsB_nil (B : Nat) (w : World) : NumsB B w (.slice none 0 0) [] := ⟨none, 0, rfl, Nat.le_refl _, by unfold maxLen; omega, fun h => absurd h (by simp)⟩
theorem numsB_own {w : World} {B : Nat} {v : Value} {n : Nat} {es : List Int} (h : w.ownsRow B 2 1 v n (cellsI es)) (hn : es.length = n) : NumsB B w v es := by
  subst hn
  rcases h.2 with ⟨rfl, h0⟩ | ⟨g, cap, cur, rfl, hb, hg, h1, h2, h3, h4⟩
  · exact ⟨none, 0, by rw [h0], by omega, by unfold maxLen; omega, fun h => by omega⟩
  · obtain ⟨A, c, e, k1, k2, k3⟩ := nums_own (es := es) ⟨h.1, .inr ⟨g, cap, cur, rfl, hb, hg, h1, h2, h3, h4⟩⟩ rfl
    simp only [Value.slice.injEq, true_and] at e
    obtain ⟨rfl, rfl⟩ := e
    refine ⟨_, _, rfl, k1, k2, fun h0 => ?_⟩
    obtain ⟨b, o, e2, k5, k6⟩ := k3 h0
    simp only [Option.some.injEq, Addr.mk.injEq] at e2
    exact ⟨b, o, by simp [e2.1, e2.2.1], by omega, k5, k6⟩
/-- What stays where a row of numbers that is made ends as Y. -/
def KYI (B : Nat) (Y : List Value) (a b : World) : Prop := Below B a b ∧ (∀ v k ys, ys <+: Y → a.ownsRow B 2 1 v k ys → b.ownsRow B 2 1 v k ys) ∧ (∀ i t cs, t ≠ 2 → Has a i t cs → Has b i t cs) ∧ (∀ i cs, cs.length = 1 → Has a i 2 cs → Has b i 2 cs)
theorem KYI.of_below {B : Nat} {Y : List Value} {a b : World} (h : Below a.heap.size a b) (hB : B ≤ a.heap.size) : KYI B Y a b :=
  ⟨h.mono hB, fun _ _ _ _ ho => owns_kept ho h, fun _ _ _ _ hg => hg.below h hg.lt, fun _ _ _ hg => hg.below h hg.lt⟩
theorem KYI.refl {B : Nat} {Y : List Value} {a : World} : KYI B Y a a := ⟨Below.refl _ _, fun _ _ _ _ h => h, fun _ _ _ _ h => h, fun _ _ _ h => h⟩
theorem KYI.trans {B : Nat} {Y : List Value} {a b c : World} (h : KYI B Y a b) (k : KYI B Y b c) : KYI B Y a c :=
  ⟨h.1.trans k.1, fun v n ys hy ho => k.2.1 v n ys hy (h.2.1 v n ys hy ho), fun i t cs ht ho => k.2.2.1 i t cs ht (h.2.2.1 i t cs ht ho), fun i cs ht ho => k.2.2.2 i cs ht (h.2.2.2 i cs ht ho)⟩
theorem KYI.drew {B : Nat} {Y : List Value} {a b : World} (h : KYI B Y a b) : KYI B Y a b.drew := ⟨h.1.drew, h.2.1, h.2.2.1, h.2.2.2⟩
section
variable {L : List (Nat × Value)} {w : World} {ty : TypeId}
/-- append of numbers upon a row of the call's own. -/
theorem app_ownI {B n : Nat} {s x : Operand} {sv v : Value} {xs es : List Int} (hE : Nums w v es) (hn : xs.length + es.length ≤ 100000) (hB : B ≤ w.heap.size) (hs : vals L s = some sv) (hown : w.ownsRow B 2 1 sv xs.length (cellsI xs)) (hx : vals L x = some v)
    (hpos : 0 < es.length ∨ sv ≠ .slice none 0 0) (hcap : 0 < es.length → 1 < n ∨ (∀ g m c, sv = .slice (some g) m c → c = 0)) (hn' : n = xs.length + es.length) :
    Runs Try.prog (.call { callee := .builtin .append, args := #[s, x], argTypes := #[33, 33] }) ty L w (fun u w2 => (∃ g2 c2, u = .slice (some ⟨g2, 0, none⟩) n c2) ∧ w2.ownsRow B 2 1 u n (cellsI (xs ++ es)) ∧ KYI B (cellsI (xs ++ es)) w w2 ∧
      (∀ v' k ys, (v'.ownBlock = none ∨ v'.ownBlock ≠ sv.ownBlock) → w.ownsRow B 2 1 v' k ys → w2.ownsRow B 2 1 v' k ys) ∧ (u.ownBlock = sv.ownBlock ∨ ∃ g, u.ownBlock = some g ∧ w.heap.size ≤ g)) := by
  subst hn'
  obtain ⟨i48, hi48, hz48, hs48, hb48⟩ := info_parts infI64
  obtain ⟨A, c, rfl, hc1, hc2, hA⟩ := hE
  by_cases hz : es.length = 0
  · obtain rfl : es = [] := List.eq_nil_of_length_eq_zero hz
    rcases hown.2 with ⟨rfl, h0⟩ | ⟨g, cap, cur, rfl, hbg, hg, hcc, hcm, hcs, hct⟩
    · rcases hpos with h | h
      · simp at h
      · exact absurd rfl h
    · refine (runs_appendNone undI64 hi48 hs hcc (by simp) hx).mono ?_
      rintro u w2 ⟨rfl, rfl⟩
      refine ⟨⟨g, cap, rfl⟩, by simpa using hown, KYI.refl, fun _ _ _ _ h => h, .inl rfl⟩
  · replace hcap := hcap (Nat.pos_of_ne_zero hz)
    obtain ⟨b, o, rfl, hb, hr⟩ := hA (Nat.pos_of_ne_zero hz)
    have hnews : ∀ j u, (cellsI es)[j]? = some u → w.cell? ((⟨b, o, none⟩ : Addr).add j) = some u := fun j u hu => by rw [add_lit']; exact hr j u hu
    have h63 : xs.length + es.length ≤ maxLen := by unfold maxLen; omega
    intro oo a K Q ho _ hL hK
    have e1 := hL s (by simp [Op.operands, Call.operands]) _ hs
    have e2 := hL x (by simp [Op.operands, Call.operands]) _ hx
    have hex : ∃ v' w', (Builtin.append_ #[33, 33] oo.type #[sv, .slice (some ⟨b, o, none⟩) es.length c]).run Try.prog w = .ok v' w' ∧ ((∃ g2 c2, v' = .slice (some ⟨g2, 0, none⟩) (xs.length + es.length) c2) ∧ w'.ownsRow B 2 1 v' (xs.length + es.length) (cellsI (xs ++ es)) ∧ KYI B (cellsI (xs ++ es)) w w' ∧
        (∀ v'' k ys, (v''.ownBlock = none ∨ v''.ownBlock ≠ sv.ownBlock) → w.ownsRow B 2 1 v'' k ys → w'.ownsRow B 2 1 v'' k ys) ∧ (v'.ownBlock = sv.ownBlock ∨ ∃ g, v'.ownBlock = some g ∧ w.heap.size ≤ g)) := by
      rw [cellsI_append]
      rcases hown.2 with ⟨rfl, h0⟩ | ⟨g, cap, cur, rfl, hbg, hg, hcc, hcm, hcs, hct⟩
      · obtain ⟨v', w', hrun, h2, h3, h4, h5⟩ := run_append_own_at (P := Try.prog) w B 33 oo.type 2 i48 _ 1 _ undI64 hi48 hz48 hs48 hb48 rfl (by omega) _ _ _ hown ⟨b, o, none⟩ es.length c (cellsI es) (cellsI_length es) hnews (cellsI_onecell es) h63 (by omega) hB
        have hbel : Below w.heap.size w w' := (Below.refl _ _).grown h3 (Nat.le_refl _) (fun k h => by cases h)
        have hne : v' ≠ .slice none 0 0 := fun e => absurd (h4.1 e).2 hz
        refine ⟨v', w', hrun, ?_, h2, KYI.of_below hbel hB, fun v'' k ys _ hv => owns_kept hv hbel, ?_⟩
        · rcases h2.2 with ⟨e, _⟩ | ⟨g3, c3, _, rfl, _⟩
          · exact absurd e hne
          · exact ⟨g3, c3, rfl⟩
        · rcases h5 with h | h
          · exact .inl h
          · exact .inr ⟨_, h, Nat.le_refl _⟩
      · by_cases hrm : xs.length + es.length ≤ cap
        · obtain ⟨w', hrun, h2, h3⟩ := run_append_fits (P := Try.prog) w B 33 oo.type 2 i48 1 undI64 hi48 hs48 g xs.length cap _ hown ⟨b, o, none⟩ es.length c (cellsI es) (cellsI_length es) hnews (cellsI_onecell es) hrm
          have hcap1 : 1 < xs.length + es.length := by
            rcases hcap with h | h
            · exact h
            · have := h _ _ _ rfl; omega
          have hblk : ∀ i' t' cs, (t' ≠ 2 ∨ cs.length = 1) → Has w i' t' cs → Has w' i' t' cs := fun i' t' cs ht' hi' => by
            have hne : some i' ≠ some g := fun hsv => by
              simp only [Option.some.injEq] at hsv
              subst hsv
              unfold Has at hi'
              rw [hi'] at hg
              simp only [Option.some.injEq, Obj.cells.injEq, and_true] at hg
              rcases ht' with h | h
              · exact h hg.2
              · have : cur.size = cs.length := by rw [← hg.1]; simp
                rw [hcs, h] at this
                omega
            unfold Has
            rw [h3.block i' hi'.lt hne]
            exact hi'
          exact ⟨_, w', hrun, ⟨_, _, rfl⟩, h2, ⟨below_grown (Below.refl _ _) h3 (fun k hk => by cases hk; exact hbg) hB, fun v'' k ys hk hv => by
            exact owns_pre hown (by omega) h2 h3 hv hk, fun i' t' cs ht' hi' => hblk i' t' cs (.inl ht') hi', fun i' cs ht' hi' => hblk i' 2 cs (.inr ht') hi'⟩, fun v'' k ys hk hv => owns_far h3 hv hk, .inl rfl⟩
        · obtain ⟨v', w', hrun, h2, h3⟩ := run_append_arg_grows (P := Try.prog) w 33 oo.type 2 i48 _ 1 _ undI64 hi48 hz48 hs48 hb48 rfl (by omega) ⟨g, 0, none⟩ xs.length cap (cellsI xs) hown.1 (fun j u hj => by
            rw [add_zero_addr, Nat.zero_add]
            have hj' := hj
            rw [← hct, List.getElem?_take] at hj'
            split at hj'
            · have hh : Has w g 2 cur.toList := by show _ = _; rw [hg]
              rw [hh.cell]; exact hj'
            · cases hj') ⟨b, o, none⟩ es.length c (cellsI es) (cellsI_length es) hnews (by omega) h63 (by omega)
          have hbel : Below w.heap.size w w' := (Below.refl _ _).grown h3 (Nat.le_refl _) (fun k h => by cases h)
          refine ⟨v', w', hrun, ?_, owns_mono h2 hB, KYI.of_below hbel hB, fun v'' k ys _ hv => owns_kept hv hbel, ?_⟩
          · rcases h2.2 with ⟨_, h0⟩ | ⟨g3, c3, _, rfl, _⟩
            · omega
            · exact ⟨g3, c3, rfl⟩
          · rcases h2.2 with ⟨_, h0⟩ | ⟨g3, c3, _, rfl, hg3, _⟩
            · omega
            · exact .inr ⟨g3, rfl, hg3⟩
    obtain ⟨v', w', hr, hp⟩ := hex
    unfold Oper.wp execOp
    simp only [ho, resolve, invoke, builtin, Sem.run_bind, Sem.run_pure, Result.andThen_ok, List.map_toArray, List.map_cons, List.map_nil, e1, e2, hr]
    exact hK v' w' hp
/-- An empty row of numbers. -/
theorem owns_emptyI {g B : Nat} (h : w.heap[g]? = some (.cells #[] 2 (0, 0))) (hB : B ≤ g) : w.ownsRow B 2 1 (.slice (some ⟨g, 0, none⟩) 0 0) 0 [] :=
  ⟨rfl, .inr ⟨g, 0, #[], rfl, hB, h, Nat.le_refl _, by unfold maxLen; omega, rfl, rfl⟩⟩
theorem none_ownI {B : Nat} (hB : B ≤ w.heap.size) : Runs Try.prog (.buildSlice 33 0 #[]) ty L w (fun v w' => (∃ g, v = .slice (some ⟨g, 0, none⟩) 0 0 ∧ w'.ownsRow B 2 1 v 0 []) ∧ Below w.heap.size w w') := by
  obtain ⟨i48, hi48, hz48, hs48, hb48⟩ := info_parts infI64
  exact (runs_buildNone undI64 hi48).mono (by rintro v w3 ⟨rfl, rfl⟩; exact ⟨⟨_, rfl, owns_emptyI (heap_alloc_new _ _) hB⟩, (Below.refl _ _).alloc (Nat.le_refl _) _⟩)
/-- A copy upon an empty row: all else stays. -/
theorem copy_ownI {B : Nat} {s x : Operand} {g : Nat} {v : Value} {es : List Int} (hE : Nums w v es) (hn : es.length ≤ 100000) (hB : B ≤ w.heap.size) (hs2 : vals L s = some (.slice (some ⟨g, 0, none⟩) 0 0)) (h0 : w.ownsRow B 2 1 (.slice (some ⟨g, 0, none⟩) 0 0) 0 []) (hx : vals L x = some v) :
    Runs Try.prog (.call { callee := .builtin .append, args := #[s, x], argTypes := #[33, 33] }) ty L w (fun u w2 => (∃ g2 c2, u = .slice (some ⟨g2, 0, none⟩) es.length c2 ∧ (es.length = 0 → c2 = 0)) ∧ w2.ownsRow B 2 1 u es.length (cellsI es) ∧ Below w.heap.size w w2) := by
  obtain ⟨i48, hi48, hz48, hs48, hb48⟩ := info_parts infI64
  obtain ⟨A, c, rfl, hc1, hc2, hA⟩ := hE
  by_cases hz : es.length = 0
  · obtain rfl : es = [] := List.eq_nil_of_length_eq_zero hz
    exact (runs_appendNone undI64 hi48 hs2 (Nat.le_refl _) (by simp) hx).mono (by
      rintro u w2 ⟨rfl, rfl⟩
      exact ⟨⟨g, 0, rfl, fun _ => rfl⟩, h0, Below.refl _ _⟩)
  · obtain ⟨b, o, rfl, hb, hr⟩ := hA (by omega)
    exact (runs_append0N (m := es.length) undI64 hi48 hz48 hs48 hb48 rfl (by omega) hs2 hx (news := cellsI es) (cellsI_length es) (fun j u hu => by rw [add_lit']; exact hr j u hu) (by unfold maxLen; omega) (by omega) (by omega)).mono (by
      rintro u w2 ⟨h3, h4⟩
      refine ⟨?_, owns_mono h3 hB, h4⟩
      rcases h3.2 with ⟨_, h5⟩ | ⟨g2, c2, _, rfl, _⟩
      · omega
      · exact ⟨g2, c2, rfl, fun h => absurd h hz⟩)
/-- A slice of one number. -/
theorem runs_oneN {x : Operand} {e : Int} (hx : vals L x = some (.int .i64 e)) : Runs Try.prog (.buildSlice 33 1 #[(0, x)]) ty L w (fun v w' => ∃ g2, v = .slice (some ⟨g2, 0, none⟩) 1 1 ∧ Has w' g2 2 (ic e) ∧ Below w.heap.size w w') := by
  obtain ⟨i48, hi48, hz48, hs48, hb48⟩ := info_parts infI64
  exact (runs_buildSliceG (sz := 1) (pv := [(0, .int .i64 e)]) (by simp [hx]) undI64 hi48 hz48 hs48 (by omega) (by omega) (cells := (ic e).toArray) (by kernel_rfl)).mono (by rintro v w5 ⟨rfl, rfl⟩; exact ⟨_, rfl, Has.new w 2 (ic e), (Below.refl _ _).alloc (Nat.le_refl _) _⟩)
end
end Go.Proofs.Ytapcpmalgdhakaa
