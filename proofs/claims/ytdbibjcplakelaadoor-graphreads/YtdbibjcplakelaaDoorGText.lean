/- Graphs as texts: lines, words, numbers; what is written is what is read. No condition. -/
import Derived.Test.YtdbibjcplakelaaDoorGMath
import Derived.Lib.ItoaNum
import Derived.Lib.Split
namespace Go.Proofs.YtdbibjcplakelaaDoor

abbrev Bs := List UInt8
/-- Cut at the first c. -/
def cutAt (c : UInt8) : Bs → Option (Bs × Bs)
  | [] => none
  | b :: l => if b = c then some ([], l) else (cutAt c l).map fun p => (b :: p.1, p.2)
def splitC (c : UInt8) : Bs → List Bs
  | [] => [[]]
  | b :: l => if b = c then [] :: splitC c l else match splitC c l with
    | [] => [[b]]
    | x :: r => (b :: x) :: r
theorem cutAt_some {c : UInt8} : ∀ {s a b : Bs}, cutAt c s = some (a, b) → s = a ++ c :: b ∧ c ∉ a
  | x :: l, a, b, h => by
    rw [cutAt] at h
    split at h
    · rename_i hx
      simp only [Option.some.injEq, Prod.mk.injEq] at h
      obtain ⟨rfl, rfl⟩ := h
      exact ⟨by rw [hx]; rfl, by simp⟩
    · rename_i hx
      rw [Option.map_eq_some_iff] at h
      obtain ⟨⟨a', b'⟩, h1, h2⟩ := h
      simp only [Prod.mk.injEq] at h2
      obtain ⟨rfl, rfl⟩ := h2
      obtain ⟨h3, h4⟩ := cutAt_some h1
      exact ⟨by rw [h3]; rfl, by simp [h4, Ne.symm hx]⟩
theorem cutAt_none {c : UInt8} : ∀ {s : Bs}, cutAt c s = none → c ∉ s
  | [], _ => by simp
  | x :: l, h => by
    rw [cutAt] at h
    split at h
    · cases h
    · rename_i hx
      rw [Option.map_eq_none_iff] at h
      simp [cutAt_none h, Ne.symm hx]
theorem cutAt_mk {c : UInt8} : ∀ {a : Bs} (b : Bs), c ∉ a → cutAt c (a ++ c :: b) = some (a, b)
  | [], b, _ => by simp [cutAt]
  | x :: a, b, h => by
    simp only [List.mem_cons, not_or] at h
    rw [List.cons_append, cutAt, if_neg (Ne.symm h.1), cutAt_mk b h.2]; rfl
theorem splitC_ne (c : UInt8) (s : Bs) : splitC c s ≠ [] := by
  cases s with
  | nil => simp [splitC]
  | cons b l =>
    rw [splitC]
    split
    · simp
    · split <;> simp
theorem splitC_none {c : UInt8} : ∀ {s : Bs}, c ∉ s → splitC c s = [s]
  | [], _ => rfl
  | x :: l, h => by
    simp only [List.mem_cons, not_or] at h
    rw [splitC, if_neg (Ne.symm h.1), splitC_none h.2]
theorem splitC_mk {c : UInt8} : ∀ {a : Bs} (b : Bs), c ∉ a → splitC c (a ++ c :: b) = a :: splitC c b
  | [], b, _ => by simp [splitC]
  | x :: a, b, h => by
    simp only [List.mem_cons, not_or] at h
    rw [List.cons_append, splitC, if_neg (Ne.symm h.1), splitC_mk b h.2]
theorem splitC_cut {c : UInt8} {s a b : Bs} (h : cutAt c s = some (a, b)) : splitC c s = a :: splitC c b := by
  obtain ⟨h1, h2⟩ := cutAt_some h
  rw [h1, splitC_mk b h2]
/-- Put together again. -/
def joinC (c : UInt8) (ps : List Bs) : Bs := ps.flatMap fun p => c :: p
theorem join_split (c : UInt8) : ∀ (s : Bs) (w : Bs) (ps : List Bs), splitC c s = w :: ps → s = w ++ joinC c ps
  | [], w, ps, h => by simp [splitC] at h; obtain ⟨rfl, rfl⟩ := h; rfl
  | x :: l, w, ps, h => by
    rw [splitC] at h
    split at h
    · rename_i hx
      simp only [List.cons.injEq] at h
      obtain ⟨rfl, rfl⟩ := h
      cases hs : splitC c l with
      | nil => exact absurd hs (splitC_ne c l)
      | cons y r =>
        have := join_split c l y r hs
        rw [hx, List.nil_append, joinC, List.flatMap_cons, List.cons_append, ← joinC, ← this]
    · cases hs : splitC c l with
      | nil => exact absurd hs (splitC_ne c l)
      | cons y r =>
        rw [hs] at h
        simp only [List.cons.injEq] at h
        obtain ⟨rfl, rfl⟩ := h
        rw [List.cons_append, ← join_split c l y r hs]
theorem split_join {c : UInt8} : ∀ (ps : List Bs) (w : Bs), c ∉ w → (∀ p ∈ ps, c ∉ p) → splitC c (w ++ joinC c ps) = w :: ps
  | [], w, h, _ => by rw [joinC, List.flatMap_nil, List.append_nil, splitC_none h]
  | p :: ps, w, h, hp => by
    rw [joinC, List.flatMap_cons, List.cons_append, splitC_mk _ h]
    exact congrArg (w :: ·) (split_join ps p (hp p (by simp)) (fun q hq => hp q (by simp [hq])))
theorem split_len (c : UInt8) : ∀ s : Bs, (splitC c s).length ≤ s.length + 1
  | [] => by simp [splitC]
  | x :: l => by
    have := split_len c l
    rw [splitC]
    split
    · simp only [List.length_cons]; omega
    · cases hs : splitC c l with
      | nil => simp
      | cons y r => rw [hs] at this; simp only [List.length_cons] at this ⊢; omega
/-- The library's index of one byte. -/
theorem index_one {c : UInt8} : ∀ s : Bs, Lib.index s [c] = match cutAt c s with | some p => (p.1.length : Int) | none => -1
  | [] => rfl
  | x :: l => by
    rw [Lib.index, cutAt, index_one l]
    by_cases hx : x = c
    · subst hx; simp
    · have : ([c] : Bs).isPrefixOf (x :: l) = false := by simp [List.isPrefixOf, Ne.symm hx]
      rw [this, if_neg hx]
      cases cutAt c l with
      | none => simp
      | some p =>
        simp only [Option.map_some, Bool.false_eq_true, if_false, List.length_cons]
        rw [if_neg (by simp)]
        simp
theorem cut_one {c : UInt8} (s : Bs) : Lib.cut s [c] = match cutAt c s with | some p => (p.1, p.2, true) | none => (s, [], false) := by
  unfold Lib.cut
  rw [index_one]
  cases h : cutAt c s with
  | none => simp
  | some p =>
    obtain ⟨a, b⟩ := p
    have := (cutAt_some h).1
    simp only [Int.toNat_natCast, List.length_singleton]
    rw [if_pos (by omega), this]
    simp
theorem splitK_few {c : UInt8} : ∀ (k : Nat) (s : Bs), (splitC c s).length ≤ k + 1 → Lib.splitK [c] 0 k s = splitC c s
  | 0, s, h => by
    rw [Lib.splitK]
    cases hc : cutAt c s with
    | none => exact (splitC_none (cutAt_none hc)).symm
    | some p =>
      rw [splitC_cut (a := p.1) (b := p.2) hc] at h
      have := List.length_pos_iff.2 (splitC_ne c p.2)
      simp only [List.length_cons] at h
      omega
  | k + 1, s, h => by
    rw [Lib.splitK, index_one]
    cases hc : cutAt c s with
    | none => simp only [beq_self_eq_true, if_true]; exact (splitC_none (cutAt_none hc)).symm
    | some p =>
      obtain ⟨a, b⟩ := p
      rw [splitC_cut hc] at h ⊢
      simp only [List.length_cons] at h
      have hs := (cutAt_some hc).1
      simp only [Int.toNat_natCast, List.length_singleton, Nat.add_zero]
      rw [if_neg (by simp), show s.take a.length = a by rw [hs]; simp, show s.drop (a.length + 1) = b by rw [hs]; simp, splitK_few k b (by omega)]
theorem splitK_many {c : UInt8} : ∀ (k : Nat) (s : Bs), k + 1 < (splitC c s).length → ∃ ini last, Lib.splitK [c] 0 k s = ini ++ [last] ∧ ini.length = k ∧ c ∈ last
  | 0, s, h => by
    cases hc : cutAt c s with
    | none => rw [splitC_none (cutAt_none hc)] at h; simp at h
    | some p => exact ⟨[], s, rfl, rfl, by rw [(cutAt_some (a := p.1) (b := p.2) hc).1]; simp⟩
  | k + 1, s, h => by
    cases hc : cutAt c s with
    | none => rw [splitC_none (cutAt_none hc)] at h; simp at h
    | some p =>
      obtain ⟨a, b⟩ := p
      rw [splitC_cut hc] at h
      simp only [List.length_cons] at h
      have hs := (cutAt_some hc).1
      obtain ⟨ini, last, h1, h2, h3⟩ := splitK_many (c := c) k b (by omega)
      refine ⟨a :: ini, last, ?_, by simp [h2], h3⟩
      rw [Lib.splitK, index_one, hc]
      simp only [Int.toNat_natCast, List.length_singleton, Nat.add_zero]
      rw [if_neg (by simp), show s.take a.length = a by rw [hs]; simp, show s.drop (a.length + 1) = b by rw [hs]; simp, h1]
      rfl
/-- What digits come to. -/
def dv : Bs → Nat → Option Nat
  | [], n => some n
  | b :: l, n => if b.toNat < 48 ∨ b.toNat > 57 then none else dv l (10 * n + (b.toNat - 48))
def badNum (s : Bs) : Bool := s.isEmpty || decide (s.length > 9) || (s.head? == some 48 && s != [48])
def num (s : Bs) : Option Nat := if badNum s then none else dv s 0
theorem dv_snoc : ∀ (l : Bs) (b : UInt8) (n : Nat), dv (l ++ [b]) n = (dv l n).bind fun x => if b.toNat < 48 ∨ b.toNat > 57 then none else some (10 * x + (b.toNat - 48))
  | [], b, n => rfl
  | a :: l, b, n => by
    rw [List.cons_append, dv, dv]
    split
    · rfl
    · exact dv_snoc l b _
theorem dv_mem : ∀ (l : Bs) (n x : Nat), dv l n = some x → ∀ b ∈ l, 48 ≤ b.toNat ∧ b.toNat ≤ 57
  | [], _, _, _ => by simp
  | a :: l, n, x, h => by
    rw [dv] at h
    split at h
    · cases h
    · intro b hb
      rcases List.mem_cons.1 hb with rfl | hb
      · omega
      · exact dv_mem l _ x h b hb
theorem dv_lt : ∀ (l : Bs) (n x k : Nat), dv l n = some x → n < 10 ^ k → x < 10 ^ (k + l.length)
  | [], n, x, k, h, hn => by simp [dv] at h; subst h; simpa using hn
  | a :: l, n, x, k, h, hn => by
    rw [dv] at h
    split at h
    · cases h
    · have := dv_lt l _ x (k + 1) h (by rw [Nat.pow_succ]; omega)
      rw [List.length_cons, show k + (l.length + 1) = k + 1 + l.length by omega]; exact this
theorem dig_nat {d : Nat} (h : d < 10) : (UInt8.ofNat (48 + d)).toNat = 48 + d := by
  rw [UInt8.toNat_ofNat']; omega
theorem dv_dec (u : Nat) : dv (Lib.decDigits u) 0 = some u := by
  induction u using Nat.strongRecOn with
  | _ u ih =>
    rw [Lib.decDigits]
    split
    · rename_i h
      rw [dv, dig_nat h, if_neg (by omega), dv]; congr 1; omega
    · rename_i h
      rw [dv_snoc, ih (u / 10) (by omega), Option.bind_some, dig_nat (by omega), if_neg (by omega)]
      congr 1; omega
theorem dec_ne (u : Nat) : Lib.decDigits u ≠ [] := fun h => by
  have h1 := Lib.decDigits_length u
  have h2 := Lib.nDigits_pos u
  rw [h, List.length_nil] at h1
  omega
theorem dec_head (u : Nat) (h : 0 < u) : (Lib.decDigits u).head? ≠ some 48 := by
  induction u using Nat.strongRecOn with
  | _ u ih =>
    rw [Lib.decDigits]
    split
    · rename_i h9
      simp only [List.head?_cons, ne_eq, Option.some.injEq]
      intro hh
      have := congrArg UInt8.toNat hh
      rw [dig_nat h9] at this
      simp at this; omega
    · have := ih (u / 10) (by omega) (by omega)
      rw [List.head?_append]
      cases hd : (Lib.decDigits (u / 10)).head? with
      | none => rw [List.head?_eq_none_iff] at hd; exact absurd hd (dec_ne _)
      | some x => rw [hd] at this; simpa using this
theorem nDigits_le9 {u : Nat} (h : u < 1000000000) : Lib.nDigits u ≤ 9 := by
  rcases Nat.lt_or_ge 9 (Lib.nDigits u) with h9 | h9
  · exfalso
    have key : ∀ k u, k + 1 < Lib.nDigits u → 10 ^ (k + 1) ≤ u := by
      intro k
      induction k with
      | zero =>
        intro u hu
        rcases Nat.lt_or_ge u 10 with h1 | h1
        · rw [Lib.nDigits_small h1] at hu; omega
        · simpa using h1
      | succ k ih =>
        intro u hu
        rcases Nat.lt_or_ge u 10 with h1 | h1
        · rw [Lib.nDigits_small h1] at hu; omega
        · rw [Lib.nDigits_big (by omega)] at hu
          have := ih (u / 10) (by omega)
          rw [Nat.pow_succ]
          omega
    have := key 8 u (by omega)
    omega
  · exact h9
theorem num_dec {u : Nat} (h : u < 1000000000) : num (Lib.decDigits u) = some u := by
  have h1 : badNum (Lib.decDigits u) = false := by
    unfold badNum
    rw [Bool.or_eq_false_iff, Bool.or_eq_false_iff]
    refine ⟨⟨by simp [dec_ne], ?_⟩, ?_⟩
    · rw [decide_eq_false_iff_not, Lib.decDigits_length]; have := nDigits_le9 h; omega
    · rcases Nat.eq_zero_or_pos u with rfl | hu
      · rw [Lib.decDigits_one (by omega)]; decide
      · rw [Bool.and_eq_false_iff]; exact .inl (by rw [beq_eq_false_iff_ne]; exact dec_head u hu)
  unfold num
  rw [h1]
  exact dv_dec u
theorem dec_of : ∀ (k : Nat) (l : Bs) (x : Nat), l.length = k → dv l 0 = some x → l ≠ [] → (l.head? = some 48 → l = [48]) → l = Lib.decDigits x ∧ (l.head? ≠ some 48 → 0 < x)
  | 0, l, x, hk, _, hne, _ => absurd (List.eq_nil_of_length_eq_zero hk) hne
  | k + 1, l, x, hk, hd, hne, hh => by
    rcases List.eq_nil_or_concat l with rfl | ⟨m, b, rfl⟩
    · exact absurd rfl hne
    rw [List.concat_eq_append] at *
    rw [dv_snoc] at hd
    cases hm : dv m 0 with
    | none => rw [hm] at hd; cases hd
    | some y =>
      rw [hm, Option.bind_some] at hd
      split at hd
      · cases hd
      · rename_i hb
        simp only [Option.some.injEq] at hd
        have hbu : b = UInt8.ofNat (48 + (b.toNat - 48)) := by
          apply UInt8.toNat_inj.1
          rw [dig_nat (by omega)]; omega
        by_cases hm0 : m = []
        · subst hm0
          simp only [dv, Option.some.injEq] at hm
          subst hm
          refine ⟨?_, fun h0 => ?_⟩
          · rw [Lib.decDigits_one (by omega), List.nil_append, show x = b.toNat - 48 by omega, ← hbu]
          · simp only [List.nil_append, List.head?_cons, ne_eq, Option.some.injEq] at h0
            have : b.toNat ≠ 48 := fun h => h0 (UInt8.toNat_inj.1 h)
            omega
        · have hhd : (m ++ [b]).head? = m.head? := by
            rw [List.head?_append]
            cases m with
            | nil => exact absurd rfl hm0
            | cons z r => rfl
          have h48 : m.head? ≠ some 48 := fun h => by
            have := hh (by rw [hhd]; exact h)
            have hl := congrArg List.length this
            simp only [List.length_append, List.length_cons, List.length_nil] at hl
            exact hm0 (List.eq_nil_of_length_eq_zero (by omega))
          have ih := dec_of k m y (by simpa using hk) hm hm0 (fun h => absurd h h48)
          have hy := ih.2 h48
          refine ⟨?_, fun _ => by omega⟩
          rw [Lib.decDigits, dif_neg (by omega), show x / 10 = y by omega, ← ih.1, show x % 10 = b.toNat - 48 by omega, ← hbu]
theorem num_some {s : Bs} {x : Nat} (h : num s = some x) : s = Lib.decDigits x ∧ x < 1000000000 ∧ ∀ b ∈ s, 48 ≤ b.toNat ∧ b.toNat ≤ 57 := by
  unfold num at h
  split at h
  · cases h
  · rename_i hb
    unfold badNum at hb
    simp only [Bool.not_eq_true, Bool.or_eq_false_iff, Bool.and_eq_false_iff, decide_eq_false_iff_not] at hb
    obtain ⟨⟨h1, h2⟩, h3⟩ := hb
    have hne : s ≠ [] := by simpa using h1
    refine ⟨(dec_of s.length s x rfl h hne (fun h48 => ?_)).1, ?_, dv_mem s 0 x h⟩
    · rcases h3 with h3 | h3
      · rw [h48] at h3; simp at h3
      · simpa using h3
    · have := dv_lt s 0 x 0 h (by simp)
      have h9 : 10 ^ (0 + s.length) ≤ 10 ^ 9 := Nat.pow_le_pow_right (by omega) (by omega)
      omega
def graphW : Bs := [103, 114, 97, 112, 104]
def edgeW : Bs := [101, 100, 103, 101]
/-- A line of a word and so many numbers. -/
def lineOf (word : Bs) (m : Nat) (line : Bs) : Option (List Nat) :=
  match splitC 32 line with
  | [] => none
  | w :: ps => if w = word ∧ ps.length = m then ps.mapM num else none
/-- The same of parts that were cut at most m times. -/
def partsOf (word : Bs) (m : Nat) (parts : List Bs) : Option (List Nat) :=
  match parts with
  | [] => none
  | w :: ps => if w = word ∧ ps.length = m then ps.mapM num else none
theorem mapM_none {ps : List Bs} {p : Bs} (hp : p ∈ ps) (hn : num p = none) : ps.mapM num = none := by
  induction ps with
  | nil => simp at hp
  | cons q ps ih =>
    rw [List.mapM_cons]
    rcases List.mem_cons.1 hp with rfl | hp
    · rw [hn]; rfl
    · rw [ih hp]; cases num q <;> rfl
theorem num_blank {p : Bs} (h : (32 : UInt8) ∈ p) : num p = none := by
  cases hn : num p with
  | none => rfl
  | some x => have := (num_some hn).2.2 32 h; simp at this
theorem parts_line (word : Bs) (m : Nat) (hm : 0 < m) (line : Bs) : partsOf word m (Lib.splitK [32] 0 (min (1 + m) (line.length + 1) - 1) line) = lineOf word m line := by
  have hl := split_len 32 line
  rcases Nat.lt_or_ge (min (1 + m) (line.length + 1) - 1 + 1) (splitC 32 line).length with h | h
  · have hk : min (1 + m) (line.length + 1) - 1 = m := by omega
    rw [hk] at h ⊢
    obtain ⟨ini, last, h1, h2, h3⟩ := splitK_many m line h
    rw [h1]
    have hnone : partsOf word m (ini ++ [last]) = none := by
      cases ini with
      | nil => simp at h2; omega
      | cons w r =>
        simp only [List.cons_append, partsOf]
        split
        · exact mapM_none (p := last) (by simp) (num_blank h3)
        · rfl
    rw [hnone, lineOf]
    split
    · rfl
    · rename_i w ps hs
      rw [hs] at h
      rw [if_neg (by simp only [List.length_cons] at h; omega)]
  · rw [splitK_few _ _ h]
    unfold lineOf partsOf
    cases splitC 32 line <;> rfl
def joinN (ls : List Nat) : Bs := joinC 32 (ls.map Lib.decDigits)
theorem dec_mem {u : Nat} : ∀ b ∈ Lib.decDigits u, 48 ≤ b.toNat ∧ b.toNat ≤ 57 := dv_mem _ 0 u (dv_dec u)
theorem mapM_dec : ∀ {ls : List Nat}, (∀ x ∈ ls, x < 1000000000) → (ls.map Lib.decDigits).mapM num = some ls
  | [], _ => rfl
  | x :: ls, h => by
    rw [List.map_cons, List.mapM_cons, num_dec (h x (by simp)), mapM_dec (fun y hy => h y (by simp [hy]))]; rfl
theorem line_mk {word : Bs} {ls : List Nat} (hw : (32 : UInt8) ∉ word) (h : ∀ x ∈ ls, x < 1000000000) : lineOf word ls.length (word ++ joinN ls) = some ls := by
  unfold lineOf joinN
  rw [split_join (ls.map Lib.decDigits) word hw (fun p hp => by
    rw [List.mem_map] at hp
    obtain ⟨x, _, rfl⟩ := hp
    intro h32
    have := dec_mem 32 h32
    simp at this)]
  simp only [List.length_map, and_self, if_true]
  exact mapM_dec h
theorem mapM_some : ∀ {ps : List Bs} {ls : List Nat}, ps.mapM num = some ls → ps = ls.map Lib.decDigits ∧ ls.length = ps.length ∧ ∀ x ∈ ls, x < 1000000000
  | [], ls, h => by simp at h; subst h; simp
  | p :: ps, ls, h => by
    rw [List.mapM_cons] at h
    cases hp : num p with
    | none => rw [hp] at h; cases h
    | some x =>
      cases hps : ps.mapM num with
      | none => rw [hp, hps] at h; cases h
      | some xs =>
        rw [hp, hps] at h
        obtain rfl : x :: xs = ls := by simpa using h
        have := mapM_some hps
        have h2 := num_some hp
        refine ⟨by rw [List.map_cons, ← this.1, ← h2.1], by simp [this.2.1], fun y hy => ?_⟩
        rcases List.mem_cons.1 hy with rfl | hy
        · exact h2.2.1
        · exact this.2.2 y hy
theorem line_some {word : Bs} {m : Nat} {line : Bs} {ls : List Nat} (h : lineOf word m line = some ls) : line = word ++ joinN ls ∧ ls.length = m ∧ ∀ x ∈ ls, x < 1000000000 := by
  unfold lineOf at h
  split at h
  · cases h
  · rename_i w ps hs
    split at h
    · rename_i hw
      have h2 := mapM_some h
      exact ⟨by rw [join_split 32 line w ps hs, hw.1, h2.1, joinN], by rw [h2.2.1, hw.2], h2.2.2⟩
    · cases h
def vertsOf (line : Bs) : Option Int := match lineOf graphW 1 line with | some [x] => some (x : Int) | _ => none
def edgeOf (line : Bs) : Option E := match lineOf edgeW 3 line with | some [a, b, c] => some ((a : Int), (b : Int), (c : Int)) | _ => none
/-- Lines of edges, from line at on: the line that is wrong, or the edges. -/
def rdE : Nat → List E → List Bs → Sum Nat (List E)
  | _, es, [] => .inr es
  | at_, es, line :: ps => if ps = [] then (if line = [] then .inr es else .inl at_) else match edgeOf line with
    | some e => rdE (at_ + 1) (es ++ [e]) ps
    | none => .inl at_
def rdT (s : Bs) : Sum Nat (Int × List E) :=
  match splitC 10 s with
  | [] => .inl 1
  | line :: ps => if ps = [] then .inl 1 else match vertsOf line with
    | none => .inl 1
    | some n => match rdE 2 [] ps with
      | .inl k => .inl k
      | .inr es => .inr (n, es)
def lineT (word : Bs) (ls : List Nat) : Bs := word ++ joinN ls ++ [10]
def edgeT (e : E) : Bs := lineT edgeW [e.1.toNat, e.2.1.toNat, e.2.2.toNat]
/-- A graph's text. -/
def textOf (n : Int) (es : List E) : Bs := lineT graphW [n.toNat] ++ es.flatMap edgeT
theorem ten_joinN {word : Bs} (hw : (10 : UInt8) ∉ word) (ls : List Nat) : (10 : UInt8) ∉ word ++ joinN ls := by
  intro h
  rcases List.mem_append.1 h with h | h
  · exact hw h
  · simp only [joinN, joinC, List.mem_flatMap, List.mem_map] at h
    obtain ⟨p, ⟨x, _, rfl⟩, h⟩ := h
    rcases List.mem_cons.1 h with h | h
    · simp at h
    · have := dec_mem 10 h; simp at this
def smallE (e : E) : Prop := 0 ≤ e.1 ∧ e.1 < 1000000000 ∧ 0 ≤ e.2.1 ∧ e.2.1 < 1000000000 ∧ 0 ≤ e.2.2 ∧ e.2.2 < 1000000000
theorem edgeOf_mk {e : E} (h : smallE e) : edgeOf (edgeW ++ joinN [e.1.toNat, e.2.1.toNat, e.2.2.toNat]) = some e := by
  obtain ⟨a, b, c⟩ := e
  obtain ⟨h1, h2, h3, h4, h5, h6⟩ := h
  simp only at h1 h2 h3 h4 h5 h6
  unfold edgeOf
  rw [show (3 : Nat) = [(a, b, c).1.toNat, (a, b, c).2.1.toNat, (a, b, c).2.2.toNat].length from rfl, line_mk (by decide) (by simp; omega)]
  simp only [Option.some.injEq, Prod.mk.injEq]
  omega
theorem vertsOf_mk {n : Int} (h0 : 0 ≤ n) (h : n < 1000000000) : vertsOf (graphW ++ joinN [n.toNat]) = some n := by
  unfold vertsOf
  rw [show (1 : Nat) = [n.toNat].length from rfl, line_mk (by decide) (by simp; omega)]
  simp only [Option.some.injEq]
  omega
theorem split_edges : ∀ (es : List E), splitC 10 (es.flatMap edgeT) = es.map (fun e => edgeW ++ joinN [e.1.toNat, e.2.1.toNat, e.2.2.toNat]) ++ [[]]
  | [] => rfl
  | e :: es => by
    rw [List.flatMap_cons, edgeT, lineT, List.append_assoc, List.singleton_append, splitC_mk _ (ten_joinN (by decide) _), split_edges es]; rfl
theorem rdE_mk : ∀ (es : List E) (at_ : Nat) (acc : List E), (∀ e ∈ es, smallE e) → rdE at_ acc (es.map (fun e => edgeW ++ joinN [e.1.toNat, e.2.1.toNat, e.2.2.toNat]) ++ [[]]) = .inr (acc ++ es)
  | [], at_, acc, _ => by simp [rdE]
  | e :: es, at_, acc, h => by
    rw [List.map_cons, List.cons_append, rdE, if_neg (by simp), edgeOf_mk (h e (by simp))]
    simp only
    rw [rdE_mk es (at_ + 1) (acc ++ [e]) (fun x hx => h x (by simp [hx])), List.append_assoc]; rfl
/-- A graph's text is read as itself. -/
theorem read_text {n : Int} {es : List E} (h0 : 0 ≤ n) (hn : n < 1000000000) (h : ∀ e ∈ es, smallE e) : rdT (textOf n es) = .inr (n, es) := by
  unfold rdT textOf
  rw [lineT, List.append_assoc, List.singleton_append, splitC_mk _ (ten_joinN (by decide) _), split_edges]
  simp only
  rw [if_neg (by simp), vertsOf_mk h0 hn]
  simp only
  rw [rdE_mk es 2 [] h]
  rfl
theorem edgeOf_some {line : Bs} {e : E} (h : edgeOf line = some e) : line = edgeW ++ joinN [e.1.toNat, e.2.1.toNat, e.2.2.toNat] ∧ smallE e := by
  unfold edgeOf at h
  split at h
  · rename_i a b c hl
    have h2 := line_some hl
    simp only [Option.some.injEq] at h
    subst h
    refine ⟨by simpa using h2.1, ?_⟩
    have := h2.2.2
    simp at this
    unfold smallE; simp only; omega
  · cases h
theorem vertsOf_some {line : Bs} {n : Int} (h : vertsOf line = some n) : line = graphW ++ joinN [n.toNat] ∧ 0 ≤ n ∧ n < 1000000000 := by
  unfold vertsOf at h
  split at h
  · rename_i a hl
    have h2 := line_some hl
    simp only [Option.some.injEq] at h
    subst h
    refine ⟨by simpa using h2.1, ?_⟩
    have := h2.2.2
    simp at this
    omega
  · cases h
theorem rdE_some : ∀ (ps : List Bs) (at_ : Nat) (acc res : List E), ps ≠ [] → rdE at_ acc ps = .inr res → ∃ es, res = acc ++ es ∧ (∀ e ∈ es, smallE e) ∧ ps = es.map (fun e => edgeW ++ joinN [e.1.toNat, e.2.1.toNat, e.2.2.toNat]) ++ [[]]
  | [], _, _, _, h, _ => absurd rfl h
  | line :: ps, at_, acc, res, _, h => by
    rw [rdE] at h
    split at h
    · rename_i hps
      split at h
      · rename_i hl
        simp only [Sum.inr.injEq] at h
        exact ⟨[], by simp [h], by simp, by rw [hps, hl]; rfl⟩
      · cases h
    · rename_i hps
      cases he : edgeOf line with
      | none => rw [he] at h; cases h
      | some e =>
        rw [he] at h
        obtain ⟨es, h1, h2, h3⟩ := rdE_some ps _ _ _ hps h
        have h4 := edgeOf_some he
        refine ⟨e :: es, by rw [h1, List.append_assoc]; rfl, fun x hx => ?_, by rw [List.map_cons, List.cons_append, ← h3, ← h4.1]⟩
        rcases List.mem_cons.1 hx with rfl | hx
        · exact h4.2
        · exact h2 x hx
/-- What is read has just this text. -/
theorem text_read {s : Bs} {n : Int} {es : List E} (h : rdT s = .inr (n, es)) : s = textOf n es ∧ 0 ≤ n ∧ n < 1000000000 ∧ ∀ e ∈ es, smallE e := by
  unfold rdT at h
  split at h
  · cases h
  · rename_i line ps hs
    split at h
    · cases h
    · rename_i hps
      cases hv : vertsOf line with
      | none => rw [hv] at h; cases h
      | some k =>
        rw [hv] at h
        cases hr : rdE 2 [] ps with
        | inl j => rw [hr] at h; cases h
        | inr res =>
          rw [hr] at h
          simp only [Sum.inr.injEq, Prod.mk.injEq] at h
          obtain ⟨rfl, rfl⟩ := h
          obtain ⟨es, h1, h2, h3⟩ := rdE_some ps 2 [] res hps hr
          rw [List.nil_append] at h1
          subst h1
          have h4 := vertsOf_some hv
          refine ⟨?_, h4.2.1, h4.2.2, h2⟩
          rw [join_split 10 s line ps hs, h3, h4.1, textOf, lineT]
          have : ∀ l : List E, joinC 10 (l.map (fun e => edgeW ++ joinN [e.1.toNat, e.2.1.toNat, e.2.2.toNat]) ++ [[]]) = 10 :: l.flatMap edgeT := by
            intro l
            induction l with
            | nil => rfl
            | cons e l ih =>
              rw [List.map_cons, List.cons_append, joinC, List.flatMap_cons, ← joinC, ih, List.flatMap_cons, edgeT, lineT]
              simp
          rw [this]
          simp
theorem text_perm {n : Int} {l m : List E} (h : l.Perm m) : (textOf n l).length = (textOf n m).length := by
  unfold textOf
  rw [List.length_append, List.length_append, List.length_flatMap, List.length_flatMap, (h.map _).sum_nat]
end Go.Proofs.YtdbibjcplakelaaDoor
