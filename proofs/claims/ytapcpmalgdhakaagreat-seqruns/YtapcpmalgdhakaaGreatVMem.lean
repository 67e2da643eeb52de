/- Rows of vertices in memory. No condition. -/
import Derived.Test.YtapcpmalgdhakaaGreatFApp
namespace Go.Proofs.YtapcpmalgdhakaaGreat
open Go.RowKit
set_option maxRecDepth 100000

theorem undVx : Tryz.prog.underlying 27 = some (.slice 50) := by kernel_rfl
theorem infVx : (Tryz.prog.info? 50).map (fun i => (i.zero, i.size, i.bytes)) = some (some (.agg #[.int .i64 0, .int .i64 0, .bool false, .bool false, .int .i64 0]), 5, 32) := by kernel_rfl
def cellsV (es : List Vx) : List Value := es.flatMap vc
theorem cellsV_length (es : List Vx) : (cellsV es).length = es.length * 5 := by
  induction es with
  | nil => rfl
  | cons x xs ih => unfold cellsV at ih ⊢; rw [List.flatMap_cons, List.length_append, ih]; simp [vc]; omega
theorem cellsV_append (a b : List Vx) : cellsV (a ++ b) = cellsV a ++ cellsV b := by unfold cellsV; rw [List.flatMap_append]
theorem cellsV_one (e : Vx) : cellsV [e] = vc e := by simp [cellsV]
theorem cellsV_get : ∀ (es : List Vx) (i : Nat) (e : Vx), es[i]? = some e → ((cellsV es).drop (i * 5)).take 5 = vc e
  | x :: es, 0, e, h => by obtain rfl : x = e := by simpa using h
                           simp [cellsV, vc]
  | x :: es, i + 1, e, h => by
    have := cellsV_get es i e (by simpa using h)
    unfold cellsV at this ⊢
    rw [List.flatMap_cons, show (i + 1) * 5 = (vc x).length + i * 5 by simp [vc]; omega, List.drop_append, List.drop_eq_nil_of_le (by omega), List.nil_append, show (vc x).length + i * 5 - (vc x).length = i * 5 by omega]
    exact this
theorem cellsV_onecell (es : List Vx) : ∀ v ∈ cellsV es, v.oneCell' = true := fun v hv => by
  simp only [cellsV, List.mem_flatMap, vc] at hv
  obtain ⟨e, _, he⟩ := hv
  simp at he
  rcases he with rfl | rfl | rfl | rfl | rfl <;> rfl
/-- The value v is a slice of the verts es. -/
def Verts (w : World) (v : Value) (es : List Vx) : Prop :=
  ∃ (A : Option Addr) (c : Nat), v = .slice A es.length c ∧ es.length ≤ c ∧ c ≤ maxLen ∧ (0 < es.length → ∃ b o, A = some ⟨b, o, none⟩ ∧ b < w.heap.size ∧ w.rangeAt b o (cellsV es))
theorem Verts.kept {w w' : World} {v : Value} {es : List Vx} (h : Verts w v es) (k : Below w.heap.size w w') : Verts w' v es := by
  obtain ⟨A, c, rfl, h1, h2, h4⟩ := h
  refine ⟨A, c, rfl, h1, h2, fun hp => ?_⟩
  obtain ⟨b, o, rfl, hb, hr⟩ := h4 hp
  exact ⟨b, o, rfl, Nat.lt_of_lt_of_le hb k.size, range_below hr k hb⟩
theorem verts_nil (w : World) : Verts w (.slice none 0 0) [] := ⟨none, 0, rfl, Nat.le_refl _, by unfold maxLen; omega, fun h => absurd h (by simp)⟩
theorem verts_own {w : World} {base : Nat} {v : Value} {n : Nat} {es : List Vx} (h : w.ownsRow base 50 5 v n (cellsV es)) (hn : es.length = n) : Verts w v es := by
  subst hn
  rcases h.2 with ⟨rfl, h0⟩ | ⟨g, cap, cur, rfl, hb, hg, h1, h2, h3, h4⟩
  · exact ⟨none, 0, by rw [h0], by omega, by unfold maxLen; omega, fun h => by omega⟩
  · refine ⟨_, cap, rfl, h1, h2, fun _ => ⟨g, 0, rfl, (Array.getElem?_eq_some_iff.1 hg).1, fun j v hv => ?_⟩⟩
    rw [← h4, List.getElem?_take] at hv
    split at hv
    · simp only [World.cell?, hg, Nat.zero_add]; simpa using hv
    · cases hv
theorem verts_at {w : World} {b o : Nat} {es : List Vx} (h : w.rangeAt b o (cellsV es)) {i : Nat} {e : Vx} (hi : es[i]? = some e) : w.rangeAt b (o + i * 5) (vc e) := by
  rw [← cellsV_get es i e hi]
  exact range_sub h (i * 5) 5
theorem verts_take {w : World} {A : Option Addr} {c : Nat} {es : List Vx} (h : Verts w (.slice A es.length c) es) (k : Nat) (hk : k ≤ es.length) : Verts w (.slice A k c) (es.take k) := by
  obtain ⟨A', c', e, h1, h2, hA⟩ := h
  simp only [Value.slice.injEq, true_and] at e
  obtain ⟨rfl, rfl⟩ := e
  have hl : (es.take k).length = k := by simp; omega
  refine ⟨A, c, by rw [hl], by omega, h2, fun h0 => ?_⟩
  obtain ⟨b, o, rfl, hb, hc⟩ := hA (by omega)
  refine ⟨b, o, rfl, hb, fun j v hv => hc j v ?_⟩
  have : cellsV es = cellsV (es.take k) ++ cellsV (es.drop k) := by rw [← cellsV_append, List.take_append_drop]
  rw [this, List.getElem?_append_left (List.getElem?_eq_some_iff.1 hv).1]; exact hv
theorem verts_drop {w : World} {A : Option Addr} {c : Nat} {es : List Vx} (h : Verts w (.slice A es.length c) es) (k : Nat) (hk : k ≤ es.length) : Verts w (.slice (if c = k then A else A.map (·.add (k * 5))) (es.length - k) (c - k)) (es.drop k) := by
  obtain ⟨A', c', e, h1, h2, hA⟩ := h
  simp only [Value.slice.injEq, true_and] at e
  obtain ⟨rfl, rfl⟩ := e
  have hl : (es.drop k).length = es.length - k := by simp
  refine ⟨_, c - k, by rw [hl], by omega, by omega, fun h0 => ?_⟩
  rw [hl] at h0
  obtain ⟨b, o, rfl, hb, hc⟩ := hA (by omega)
  refine ⟨b, o + k * 5, by rw [if_neg (by omega)]; simp [add_lit'], hb, fun j v hv => ?_⟩
  rw [Nat.add_assoc]
  refine hc _ v ?_
  have : cellsV es = cellsV (es.take k) ++ cellsV (es.drop k) := by rw [← cellsV_append, List.take_append_drop]
  rw [this, List.getElem?_append_right (by rw [cellsV_length]; simp; omega), cellsV_length, show k * 5 + j - (es.take k).length * 5 = j by simp [show min k es.length = k by omega]]
  exact hv
/-- As Verts, and its cells lie at or behind B. -/
def VertsB (B : Nat) (w : World) (v : Value) (es : List Vx) : Prop :=
  ∃ (A : Option Addr) (c : Nat), v = .slice A es.length c ∧ es.length ≤ c ∧ c ≤ maxLen ∧ (0 < es.length → ∃ b o, A = some ⟨b, o, none⟩ ∧ B ≤ b ∧ b < w.heap.size ∧ w.rangeAt b o (cellsV es))
theorem VertsB.verts {B : Nat} {w : World} {v : Value} {es : List Vx} (h : VertsB B w v es) : Verts w v es := by
  obtain ⟨A, c, rfl, h1, h2, h3⟩ := h
  exact ⟨A, c, rfl, h1, h2, fun h0 => by obtain ⟨b, o, rfl, _, hb, hr⟩ := h3 h0; exact ⟨b, o, rfl, hb, hr⟩⟩
theorem VertsB.kept {B : Nat} {w w' : World} {v : Value} {es : List Vx} (h : VertsB B w v es) (k : Below w.heap.size w w') : VertsB B w' v es := by
  obtain ⟨A, c, rfl, h1, h2, h3⟩ := h
  exact ⟨A, c, rfl, h1, h2, fun h0 => by obtain ⟨b, o, rfl, hB, hb, hr⟩ := h3 h0; exact ⟨b, o, rfl, hB, Nat.lt_of_lt_of_le hb k.size, range_below hr k hb⟩⟩
theorem VertsB.mono {B B' : Nat} {w : World} {v : Value} {es : List Vx} (h : VertsB B w v es) (k : B' ≤ B) : VertsB B' w v es := by
  obtain ⟨A, c, rfl, h1, h2, h3⟩ := h
  exact ⟨A, c, rfl, h1, h2, fun h0 => by obtain ⟨b, o, rfl, hB, hb, hr⟩ := h3 h0; exact ⟨b, o, rfl, Nat.le_trans k hB, hb, hr⟩⟩
theorem VertsB.setRow {B : Nat} {w : World} {v : Value} {es : List Vx} (h : VertsB B w v es) {g : Nat} (hg : g < B) (cs : Array Value) : VertsB B (w.setRow g cs) v es := by
  obtain ⟨A, c, rfl, h1, h2, h3⟩ := h
  refine ⟨A, c, rfl, h1, h2, fun h0 => ?_⟩
  obtain ⟨b, o, rfl, hB, hb, hr⟩ := h3 h0
  refine ⟨b, o, rfl, hB, by simpa [World.setRow] using hb, fun j u hj => ?_⟩
  have := setRow_other w g b cs (by omega)
  have h5 := hr j u hj
  simp only [World.cell?] at h5 ⊢
  rw [this]; exact h5
/-- What stays where a row of vertices that is made ends as Y. -/
def KYV (B : Nat) (Y : List Value) (a b : World) : Prop := Below B a b ∧ (∀ v k ys, ys <+: Y → a.ownsRow B 50 5 v k ys → b.ownsRow B 50 5 v k ys) ∧ (∀ i t cs, t ≠ 50 → Has a i t cs → Has b i t cs) ∧ (∀ i cs, cs.length = 5 → Has a i 50 cs → Has b i 50 cs)
theorem KYV.of_below {B : Nat} {Y : List Value} {a b : World} (h : Below a.heap.size a b) (hB : B ≤ a.heap.size) : KYV B Y a b :=
  ⟨h.mono hB, fun _ _ _ _ ho => owns_kept ho h, fun _ _ _ _ hg => hg.below h hg.lt, fun _ _ _ hg => hg.below h hg.lt⟩
theorem KYV.refl {B : Nat} {Y : List Value} {a : World} : KYV B Y a a := ⟨Below.refl _ _, fun _ _ _ _ h => h, fun _ _ _ _ h => h, fun _ _ _ h => h⟩
theorem KYV.trans {B : Nat} {Y : List Value} {a b c : World} (h : KYV B Y a b) (k : KYV B Y b c) : KYV B Y a c :=
  ⟨h.1.trans k.1, fun v n ys hy ho => k.2.1 v n ys hy (h.2.1 v n ys hy ho), fun i t cs ht ho => k.2.2.1 i t cs ht (h.2.2.1 i t cs ht ho), fun i cs ht ho => k.2.2.2 i cs ht (h.2.2.2 i cs ht ho)⟩
theorem KYV.drew {B : Nat} {Y : List Value} {a b : World} (h : KYV B Y a b) : KYV B Y a b.drew := ⟨h.1.drew, h.2.1, h.2.2.1, h.2.2.2⟩
section
variable {L : List (Nat × Value)} {w : World} {ty : TypeId}
/-- append of vertices upon a row of the call's own. -/
theorem app_ownV {B n : Nat} {s x : Operand} {sv v : Value} {xs es : List Vx} (hE : Verts w v es) (hn : xs.length + es.length ≤ 100000) (hB : B ≤ w.heap.size) (hs : vals L s = some sv) (hown : w.ownsRow B 50 5 sv xs.length (cellsV xs)) (hx : vals L x = some v)
    (hpos : 0 < es.length ∨ sv ≠ .slice none 0 0) (hcap : 0 < es.length → 1 < n ∨ (∀ g m c, sv = .slice (some g) m c → c = 0)) (hn' : n = xs.length + es.length) :
    Runs Tryz.prog (.call { callee := .builtin .append, args := #[s, x], argTypes := #[27, 27] }) ty L w (fun u w2 => (∃ g2 c2, u = .slice (some ⟨g2, 0, none⟩) n c2) ∧ w2.ownsRow B 50 5 u n (cellsV (xs ++ es)) ∧ KYV B (cellsV (xs ++ es)) w w2 ∧
      (∀ v' k ys, (v'.ownBlock = none ∨ v'.ownBlock ≠ sv.ownBlock) → w.ownsRow B 50 5 v' k ys → w2.ownsRow B 50 5 v' k ys) ∧ (u.ownBlock = sv.ownBlock ∨ ∃ g, u.ownBlock = some g ∧ w.heap.size ≤ g)) := by
  subst hn'
  obtain ⟨i48, hi48, hz48, hs48, hb48⟩ := info_parts infVx
  obtain ⟨A, c, rfl, hc1, hc2, hA⟩ := hE
  by_cases hz : es.length = 0
  · obtain rfl : es = [] := List.eq_nil_of_length_eq_zero hz
    rcases hown.2 with ⟨rfl, h0⟩ | ⟨g, cap, cur, rfl, hbg, hg, hcc, hcm, hcs, hct⟩
    · rcases hpos with h | h
      · simp at h
      · exact absurd rfl h
    · refine (runs_appendNone undVx hi48 hs hcc (by simp) hx).mono ?_
      rintro u w2 ⟨rfl, rfl⟩
      refine ⟨⟨g, cap, rfl⟩, by simpa using hown, KYV.refl, fun _ _ _ _ h => h, .inl rfl⟩
  · replace hcap := hcap (Nat.pos_of_ne_zero hz)
    obtain ⟨b, o, rfl, hb, hr⟩ := hA (Nat.pos_of_ne_zero hz)
    have hnews : ∀ j u, (cellsV es)[j]? = some u → w.cell? ((⟨b, o, none⟩ : Addr).add j) = some u := fun j u hu => by rw [add_lit']; exact hr j u hu
    have h63 : xs.length + es.length ≤ maxLen := by unfold maxLen; omega
    intro oo a K Q ho _ hL hK
    have e1 := hL s (by simp [Op.operands, Call.operands]) _ hs
    have e2 := hL x (by simp [Op.operands, Call.operands]) _ hx
    have hex : ∃ v' w', (Builtin.append_ #[27, 27] oo.type #[sv, .slice (some ⟨b, o, none⟩) es.length c]).run Tryz.prog w = .ok v' w' ∧ ((∃ g2 c2, v' = .slice (some ⟨g2, 0, none⟩) (xs.length + es.length) c2) ∧ w'.ownsRow B 50 5 v' (xs.length + es.length) (cellsV (xs ++ es)) ∧ KYV B (cellsV (xs ++ es)) w w' ∧
        (∀ v'' k ys, (v''.ownBlock = none ∨ v''.ownBlock ≠ sv.ownBlock) → w.ownsRow B 50 5 v'' k ys → w'.ownsRow B 50 5 v'' k ys) ∧ (v'.ownBlock = sv.ownBlock ∨ ∃ g, v'.ownBlock = some g ∧ w.heap.size ≤ g)) := by
      rw [cellsV_append]
      rcases hown.2 with ⟨rfl, h0⟩ | ⟨g, cap, cur, rfl, hbg, hg, hcc, hcm, hcs, hct⟩
      · obtain ⟨v', w', hrun, h2, h3, h4, h5⟩ := run_append_own_at (P := Tryz.prog) w B 27 oo.type 50 i48 _ 5 _ undVx hi48 hz48 hs48 hb48 rfl (by omega) _ _ _ hown ⟨b, o, none⟩ es.length c (cellsV es) (cellsV_length es) hnews (cellsV_onecell es) h63 (by omega) hB
        have hbel : Below w.heap.size w w' := (Below.refl _ _).grown h3 (Nat.le_refl _) (fun k h => by cases h)
        have hne : v' ≠ .slice none 0 0 := fun e => absurd (h4.1 e).2 hz
        refine ⟨v', w', hrun, ?_, h2, KYV.of_below hbel hB, fun v'' k ys _ hv => owns_kept hv hbel, ?_⟩
        · rcases h2.2 with ⟨e, _⟩ | ⟨g3, c3, _, rfl, _⟩
          · exact absurd e hne
          · exact ⟨g3, c3, rfl⟩
        · rcases h5 with h | h
          · exact .inl h
          · exact .inr ⟨_, h, Nat.le_refl _⟩
      · by_cases hrm : xs.length + es.length ≤ cap
        · obtain ⟨w', hrun, h2, h3⟩ := run_append_fits (P := Tryz.prog) w B 27 oo.type 50 i48 5 undVx hi48 hs48 g xs.length cap _ hown ⟨b, o, none⟩ es.length c (cellsV es) (cellsV_length es) hnews (cellsV_onecell es) hrm
          have hcap1 : 1 < xs.length + es.length := by
            rcases hcap with h | h
            · exact h
            · have := h _ _ _ rfl; omega
          have hblk : ∀ i' t' cs, (t' ≠ 50 ∨ cs.length = 5) → Has w i' t' cs → Has w' i' t' cs := fun i' t' cs ht' hi' => by
            have hne : some i' ≠ some g := fun hsv => by
              simp only [Option.some.injEq] at hsv
              subst hsv
              unfold Has at hi'
              rw [hi'] at hg
              simp only [Option.some.injEq, Obj.cells.injEq, and_true] at hg
              rcases ht' with h | h
              · exact h hg.2
              · have : cur.size = cs.length := by rw [← hg.1]; simp
                rw [hcs, h] at this
                omega
            unfold Has
            rw [h3.block i' hi'.lt hne]
            exact hi'
          exact ⟨_, w', hrun, ⟨_, _, rfl⟩, h2, ⟨below_grown (Below.refl _ _) h3 (fun k hk => by cases hk; exact hbg) hB, fun v'' k ys hk hv => by
            exact owns_pre hown (by omega) h2 h3 hv hk, fun i' t' cs ht' hi' => hblk i' t' cs (.inl ht') hi', fun i' cs ht' hi' => hblk i' 50 cs (.inr ht') hi'⟩, fun v'' k ys hk hv => owns_far h3 hv hk, .inl rfl⟩
        · obtain ⟨v', w', hrun, h2, h3⟩ := run_append_arg_grows (P := Tryz.prog) w 27 oo.type 50 i48 _ 5 _ undVx hi48 hz48 hs48 hb48 rfl (by omega) ⟨g, 0, none⟩ xs.length cap (cellsV xs) hown.1 (fun j u hj => by
            rw [add_zero_addr, Nat.zero_add]
            have hj' := hj
            rw [← hct, List.getElem?_take] at hj'
            split at hj'
            · have hh : Has w g 50 cur.toList := by show _ = _; rw [hg]
              rw [hh.cell]; exact hj'
            · cases hj') ⟨b, o, none⟩ es.length c (cellsV es) (cellsV_length es) hnews (by omega) h63 (by omega)
          have hbel : Below w.heap.size w w' := (Below.refl _ _).grown h3 (Nat.le_refl _) (fun k h => by cases h)
          refine ⟨v', w', hrun, ?_, owns_mono h2 hB, KYV.of_below hbel hB, fun v'' k ys _ hv => owns_kept hv hbel, ?_⟩
          · rcases h2.2 with ⟨_, h0⟩ | ⟨g3, c3, _, rfl, _⟩
            · omega
            · exact ⟨g3, c3, rfl⟩
          · rcases h2.2 with ⟨_, h0⟩ | ⟨g3, c3, _, rfl, hg3, _⟩
            · omega
            · exact .inr ⟨g3, rfl, hg3⟩
    obtain ⟨v', w', hr, hp⟩ := hex
    unfold Oper.wp execOp
    simp only [ho, resolve, invoke, builtin, Sem.run_bind, Sem.run_pure, Result.andThen_ok, List.map_toArray, List.map_cons, List.map_nil, e1, e2, hr]
    exact hK v' w' hp
/-- An empty row of vertices. -/
theorem owns_emptyV {g B : Nat} (h : w.heap[g]? = some (.cells #[] 50 (0, 0))) (hB : B ≤ g) : w.ownsRow B 50 5 (.slice (some ⟨g, 0, none⟩) 0 0) 0 [] :=
  ⟨rfl, .inr ⟨g, 0, #[], rfl, hB, h, Nat.le_refl _, by unfold maxLen; omega, rfl, rfl⟩⟩
theorem none_ownV {B : Nat} (hB : B ≤ w.heap.size) : Runs Tryz.prog (.buildSlice 27 0 #[]) ty L w (fun v w' => (∃ g, v = .slice (some ⟨g, 0, none⟩) 0 0 ∧ w'.ownsRow B 50 5 v 0 []) ∧ Below w.heap.size w w') := by
  obtain ⟨i48, hi48, hz48, hs48, hb48⟩ := info_parts infVx
  exact (runs_buildNone undVx hi48).mono (by rintro v w3 ⟨rfl, rfl⟩; exact ⟨⟨_, rfl, owns_emptyV (heap_alloc_new _ _) hB⟩, (Below.refl _ _).alloc (Nat.le_refl _) _⟩)
/-- A copy upon an empty row: all else stays. -/
theorem copy_ownV {B : Nat} {s x : Operand} {g : Nat} {v : Value} {es : List Vx} (hE : Verts w v es) (hn : es.length ≤ 100000) (hB : B ≤ w.heap.size) (hs2 : vals L s = some (.slice (some ⟨g, 0, none⟩) 0 0)) (h0 : w.ownsRow B 50 5 (.slice (some ⟨g, 0, none⟩) 0 0) 0 []) (hx : vals L x = some v) :
    Runs Tryz.prog (.call { callee := .builtin .append, args := #[s, x], argTypes := #[27, 27] }) ty L w (fun u w2 => (∃ g2 c2, u = .slice (some ⟨g2, 0, none⟩) es.length c2 ∧ (es.length = 0 → c2 = 0)) ∧ w2.ownsRow B 50 5 u es.length (cellsV es) ∧ Below w.heap.size w w2) := by
  obtain ⟨i48, hi48, hz48, hs48, hb48⟩ := info_parts infVx
  obtain ⟨A, c, rfl, hc1, hc2, hA⟩ := hE
  by_cases hz : es.length = 0
  · obtain rfl : es = [] := List.eq_nil_of_length_eq_zero hz
    exact (runs_appendNone undVx hi48 hs2 (Nat.le_refl _) (by simp) hx).mono (by
      rintro u w2 ⟨rfl, rfl⟩
      exact ⟨⟨g, 0, rfl, fun _ => rfl⟩, h0, Below.refl _ _⟩)
  · obtain ⟨b, o, rfl, hb, hr⟩ := hA (by omega)
    exact (runs_append0N (m := es.length) undVx hi48 hz48 hs48 hb48 rfl (by omega) hs2 hx (news := cellsV es) (cellsV_length es) (fun j u hu => by rw [add_lit']; exact hr j u hu) (by unfold maxLen; omega) (by omega) (by omega)).mono (by
      rintro u w2 ⟨h3, h4⟩
      refine ⟨?_, owns_mono h3 hB, h4⟩
      rcases h3.2 with ⟨_, h5⟩ | ⟨g2, c2, _, rfl, _⟩
      · omega
      · exact ⟨g2, c2, rfl, fun h => absurd h hz⟩)
/-- A slice of one vertex. -/
theorem runs_oneV {x : Operand} {e : Vx} (hx : vals L x = some (vv e)) : Runs Tryz.prog (.buildSlice 27 1 #[(0, x)]) ty L w (fun v w' => ∃ g2, v = .slice (some ⟨g2, 0, none⟩) 1 1 ∧ Has w' g2 50 (vc e) ∧ Below w.heap.size w w') := by
  obtain ⟨i48, hi48, hz48, hs48, hb48⟩ := info_parts infVx
  exact (runs_buildSliceG (sz := 5) (pv := [(0, vv e)]) (by simp [hx]) undVx hi48 hz48 hs48 (by omega) (by omega) (cells := (vc e).toArray) (by kernel_rfl)).mono (by rintro v w5 ⟨rfl, rfl⟩; exact ⟨_, rfl, Has.new w 50 (vc e), (Below.refl _ _).alloc (Nat.le_refl _) _⟩)
/-- A vertex of a slice, loaded. -/
theorem runs_loadVx {x : Operand} {g o' : Nat} {e : Vx} (hx : vals L x = some (.pointer (some ⟨g, o', none⟩))) (hg : w.rangeAt g o' (vc e)) : Runs Tryz.prog (.load 50 x) ty L w (Is (vv e) w) :=
  runs_loadMid hx hg Tryz.underlying50 rfl (by rw [sz28]; rfl)
end
end Go.Proofs.YtapcpmalgdhakaaGreat
