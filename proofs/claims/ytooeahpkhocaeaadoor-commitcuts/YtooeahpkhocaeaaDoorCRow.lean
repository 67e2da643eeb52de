/- Layer 12: sums read one by one; rows of sums that grow; a reader as an object. No condition. -/
import Derived.Test.YtooeahpkhocaeaaDoorCOwn
import Derived.Test.YtooeahpkhocaeaaDoorEngT
import Derived.Test.YtooeahpkhocaeaaDoorJ21
import Derived.Test.YtooeahpkhocaeaaDoorJ19
import Derived.Test.YtooeahpkhocaeaaDoorJ13
namespace Go.Proofs.YtooeahpkhocaeaaDoor
open Go.RowKit
set_option maxRecDepth 100000

theorem goes24 : Goes Tryd.prog 24 := goes_of Tryd.func24 (by kernel_rfl) rfl
theorem goes25 : Goes Tryd.prog 25 := goes_of Tryd.func25 (by kernel_rfl) rfl
theorem goes26 : Goes Tryd.prog 26 := goes_of Tryd.func26 (by kernel_rfl) rfl
theorem goes27 : Goes Tryd.prog 27 := goes_of Tryd.func27 (by kernel_rfl) rfl
/-- After i of K sums of L. -/
def RdHsI (K : Nat) (L : List Nat) (i : Nat) (hs : List (List Nat)) (l : List Nat) : Prop := rdHs K L = (hs ++ (rdHs (K - i) l).1, (rdHs (K - i) l).2)
theorem RdHsI.zero (K : Nat) (L : List Nat) : RdHsI K L 0 [] L := rfl
theorem RdHsI.step {K : Nat} {L l : List Nat} {hs : List (List Nat)} {i : Nat} (h : RdHsI K L i hs l) (hi : i < K) (h0 : 32 ≤ l.length) : RdHsI K L (i + 1) (hs ++ [l.take 32]) (l.drop 32) := by
  unfold RdHsI at h ⊢
  rw [h, show K - i = (K - (i + 1)) + 1 by omega]
  simp only [rdHs, show ¬ l.length < 32 by omega, if_false, List.append_assoc, List.singleton_append]
theorem RdHsI.err {K : Nat} {L l : List Nat} {hs : List (List Nat)} {i : Nat} (h : RdHsI K L i hs l) (hi : i < K) (h0 : l.length < 32) : (rdHs K L).2.2 = 20 := by
  unfold RdHsI at h
  rw [h, show K - i = (K - (i + 1)) + 1 by omega]
  simp only [rdHs, h0, if_true]
theorem RdHsI.all {K : Nat} {L l : List Nat} {hs : List (List Nat)} (h : RdHsI K L K hs l) : rdHs K L = (hs, l, 0) := by
  unfold RdHsI at h; rw [h]; simp [rdHs]
def mkC (na nb : Nat) (rt : List Nat) (hs : List (List Nat)) : Cm := ⟨na, nb, rt, hs⟩
theorem built_0 : Tryd.prog.built 26 [] = some (cmc noCm (.slice none 0 0)).toArray := by kernel_rfl
theorem bl_head {s : ByteArray} {b : UInt8} (h : s[0]? = some b) : bl s = b.toNat :: bl (cut s 1) := by
  have h1 : (bl s)[0]? = some b.toNat := by
    obtain ⟨⟨l⟩⟩ := s
    match l, h with
    | [], h => cases h
    | x :: l, h => simp only [bl]; have : some x = some b := h; cases this; rfl
  rw [bl_cut]
  match hb : bl s, h1 with
  | x :: l, h1 => simp only [List.getElem?_cons_zero, Option.some.injEq] at h1; rw [h1]; rfl
theorem own_cell {w : World} {B n sz : Nat} {e : TypeId} {v : Value} {xs : List Value} (h : w.ownsRow B e sz v n xs) : v.oneCell' = true := by
  rcases h.2 with ⟨h1, _⟩ | ⟨_, _, _, h1, _⟩ <;> rw [h1] <;> rfl
section
variable {L : List (Nat × Value)} {w : World} {ty : TypeId}
theorem runs_oneHs {x : Operand} {h : List Nat} (hx : vals L x = some (.agg (U8 h).toArray)) (hf : h.length = 32) : Runs Tryd.prog (.buildSlice 24 1 #[(0, x)]) ty L w (fun v w' => ∃ g2, v = .slice (some ⟨g2, 0, none⟩) 1 1 ∧ Has w' g2 23 (U8 h) ∧ Below w.heap.size w w') := by
  obtain ⟨i48, hi48, hz48, hs48, hb48⟩ := info_parts infHashb
  exact (runs_buildRow hx undHs hi48 hz48 (by simp [hs48, hf]) (by simp [hf]) (by simp [hf])).mono (by rintro v w5 ⟨rfl, rfl⟩; exact ⟨_, rfl, Has.new w 23 (U8 h), (Below.refl _ _).alloc (Nat.le_refl _) _⟩)
theorem push_ownHs {B n g2 : Nat} {s x : Operand} {sv : Value} {xs : List Value} {h : List Nat} (hs : vals L s = some sv) (hown : w.ownsRow B 23 32 sv n xs) (hx : vals L x = some (.slice (some ⟨g2, 0, none⟩) 1 1)) (hX : Has w g2 23 (U8 h)) (hf : h.length = 32) (hn : n ≤ 10000) (hB : B ≤ w.heap.size) (hcap : 0 < n ∨ ∀ g m c, sv = .slice (some g) m c → c = 0) :
    Runs Tryd.prog (.call { callee := .builtin .append, args := #[s, x], argTypes := #[24, 24] }) ty L w (fun u w2 => (∃ g3 c3, u = .slice (some ⟨g3, 0, none⟩) (n + 1) c3) ∧ w2.ownsRow B 23 32 u (n + 1) (xs ++ U8 h) ∧ KR 23 32 B (xs ++ U8 h) w w2) := by
  obtain ⟨i48, hi48, hz48, hs48, hb48⟩ := info_parts infHashb
  exact push_own1 undHs hi48 hz48 hs48 hb48 (by simp [Value.cells]) (by omega) (by omega) hs hown hx hX (by rw [U8_length, hf]) (U8_one h) hn hB hcap
end
/-- The state turns once. -/
def QC (C0 C1 : World → Prop) (b : Bool) (w : World) : Prop := cond b (C1 w) (C0 w)
/-- What a region keeps in which a row of sums grows and a reader reads. -/
def KI (B : Nat) (Y : List Value) (a b : World) : Prop :=
  Below B a b ∧ (∀ v k ys, ys <+: Y → a.ownsRow B 23 32 v k ys → b.ownsRow B 23 32 v k ys) ∧ (∀ i t cs, t ≠ 23 → t ≠ 76 → t ≠ 26 → Has a i t cs → Has b i t cs) ∧ (∀ i cs, cs.length = 32 → Has a i 23 cs → Has b i 23 cs)
section
variable {B : Nat} {Y : List Value} {a b c : World}
theorem KI.refl : KI B Y a a := ⟨Below.refl _ _, fun _ _ _ _ h => h, fun _ _ _ _ _ _ h => h, fun _ _ _ h => h⟩
theorem KI.trans (h : KI B Y a b) (k : KI B Y b c) : KI B Y a c :=
  ⟨h.1.trans k.1, fun v n ys hy ho => k.2.1 v n ys hy (h.2.1 v n ys hy ho), fun i t cs ht h2 h3 ho => k.2.2.1 i t cs ht h2 h3 (h.2.2.1 i t cs ht h2 h3 ho), fun i cs ht ho => k.2.2.2 i cs ht (h.2.2.2 i cs ht ho)⟩
theorem KI.of_kr (h : KR 23 32 B Y a b) : KI B Y a b := ⟨h.1, h.2.1, fun i t cs ht _ _ ho => h.2.2.1 i t cs ht ho, h.2.2.2⟩
theorem KI.drew (h : KI B Y a b) : KI B Y a b.drew := ⟨h.1.drew, h.2.1, h.2.2.1, h.2.2.2⟩
theorem KI.of_but {g T : Nat} {old : List Value} (h : But (fun i => i = g) a b) (ho : Has a g T old) (hT : T = 76 ∨ T = 26) (hg : B ≤ g) (hB : B ≤ a.heap.size) : KI B Y a b := by
  have hne : T ≠ 23 := by rcases hT with rfl | rfl <;> decide
  refine ⟨h.below (fun i e => by rw [e]; exact hg) hB, fun v k ys _ hr => owns_but hr h (fun i o hi e => by subst e; exact has_ne hi ho (Ne.symm hne) rfl), fun i t cs h1 h2 h3 hh => hh.but h (fun e => ?_), fun i cs _ hh => hh.but h (fun e => ?_)⟩
  · subst e
    refine has_ne hh ho (fun e => ?_) rfl
    rcases hT with rfl | rfl
    · exact h2 e
    · exact h3 e
  · subst e
    exact has_ne hh ho (Ne.symm hne) rfl
end
theorem rdd_hashC {b e : Nat} {w : World} {s : ByteArray} (h : In w b s e) : Ans 25 [.pointer (some ⟨b, 0, none⟩)] w (fun u w' => u = .agg (U8 (hashRes s e).1).toArray ∧ Rdd w b (hashRes s e).2.1 (hashRes s e).2.2 w') :=
  (inHash_any b s e w h).mono (by rintro x w' ⟨rfl, k⟩; exact ⟨_, rfl, rfl, k.1, fr_but k.2⟩)
theorem rdd_errC {b e : Nat} {w : World} {s : ByteArray} (h : In w b s e) : Ans 26 [.pointer (some ⟨b, 0, none⟩)] w (Is (.int .i64 (e : Int)) w) :=
  (err_any b s e w h).mono (by rintro x w' ⟨rfl, rfl⟩; exact ⟨_, rfl, rfl, rfl⟩)
theorem rdd_newC (s : ByteArray) (w : World) : Ans 23 [.string s] w (fun u w' => u = .pointer (some ⟨w.heap.size, 0, none⟩) ∧ Has w' w.heap.size 76 [.string s, .int .i64 ((0 : Nat) : Int)] ∧ Below w.heap.size w w') :=
  (newIn_any s w).mono (by rintro x w' ⟨rfl, rfl⟩; exact ⟨_, rfl, rfl, in_new w s, (Below.refl _ _).alloc (Nat.le_refl _) _⟩)
/-- What the first four reads tell. -/
theorem get4 (s s1 s2 s3 s4 : ByteArray) (a b n e1 e2 e3 e4 : Nat) (r : List Nat) (h1 : numRes s 0 = (a, s1, e1)) (h2 : numRes s1 e1 = (b, s2, e2)) (h3 : hashRes s2 e2 = (r, s3, e3)) (h4 : numRes s3 e3 = (n, s4, e4)) :
    (e4 ≠ 0 → getC0 (bl s) = (noCm, e4)) ∧ (e4 = 0 → getC0 (bl s) = getC4 a b r n (bl s4) ∧ e3 = 0) ∧ a < 18446744073709551616 ∧ b < 18446744073709551616 ∧ n < 18446744073709551616 ∧ r.length = 32 ∧ Sha.Bytes r := by
  have w1 := num_in64 s 0
  have w2 := num_in64 s1 e1
  have w4 := num_in64 s3 e3
  have w3 := hash_len s2 e2
  have w5 := hash_bytes s2 e2
  rw [h1] at w1; rw [h2] at w2; rw [h3] at w3 w5; rw [h4] at w4
  refine ⟨?_, ?_, w1, w2, w4, w3, w5⟩
  all_goals
    unfold numRes at h1
    rw [if_neg (by simp)] at h1
    by_cases q1 : (Wire.rd (bl s)).2.2 = 0
    · rw [if_pos q1] at h1
      simp only [Prod.mk.injEq] at h1
      obtain ⟨rfl, rfl, rfl⟩ := h1
      unfold numRes at h2
      rw [if_neg (by simp)] at h2
      unfold getC0; rw [if_neg (by simp [q1]), ← bl_cut]
      by_cases q2 : (Wire.rd (bl (cut s (Wire.rd (bl s)).2.1))).2.2 = 0
      · rw [if_pos q2] at h2
        simp only [Prod.mk.injEq] at h2
        obtain ⟨rfl, rfl, rfl⟩ := h2
        unfold hashRes at h3
        rw [if_neg (by simp)] at h3
        unfold getC1; rw [if_neg (by simp [q2]), ← bl_cut]
        unfold getC2
        by_cases q3 : (cut (cut s (Wire.rd (bl s)).2.1) (Wire.rd (bl (cut s (Wire.rd (bl s)).2.1))).2.1).size < 32
        · rw [if_pos q3] at h3
          simp only [Prod.mk.injEq] at h3
          obtain ⟨rfl, rfl, rfl⟩ := h3
          unfold numRes at h4
          rw [if_pos (by decide)] at h4
          simp only [Prod.mk.injEq] at h4
          obtain ⟨rfl, rfl, rfl⟩ := h4
          rw [if_pos (by rw [bl_length]; exact q3)]
          intro h
          first | rfl | exact absurd h (by decide)
        · rw [if_neg q3] at h3
          simp only [Prod.mk.injEq] at h3
          obtain ⟨rfl, rfl, rfl⟩ := h3
          unfold numRes at h4
          rw [if_neg (by simp)] at h4
          rw [if_neg (by rw [bl_length]; exact q3), ← bl_cut]
          unfold getC3
          by_cases q4 : (Wire.rd (bl (cut (cut (cut s (Wire.rd (bl s)).2.1) (Wire.rd (bl (cut s (Wire.rd (bl s)).2.1))).2.1) 32))).2.2 = 0
          · rw [if_pos q4] at h4
            simp only [Prod.mk.injEq] at h4
            obtain ⟨rfl, rfl, rfl⟩ := h4
            rw [if_neg (by simp [q4]), ← bl_cut]
            intro h
            first | exact absurd rfl h | exact ⟨rfl, rfl⟩
          · rw [if_neg q4] at h4
            simp only [Prod.mk.injEq] at h4
            obtain ⟨rfl, rfl, rfl⟩ := h4
            rw [if_pos q4]
            intro h
            first | rfl | exact absurd h q4
      · rw [if_neg q2] at h2
        simp only [Prod.mk.injEq] at h2
        obtain ⟨rfl, rfl, rfl⟩ := h2
        unfold hashRes at h3
        rw [if_pos q2] at h3
        simp only [Prod.mk.injEq] at h3
        obtain ⟨rfl, rfl, rfl⟩ := h3
        unfold numRes at h4
        rw [if_pos q2] at h4
        simp only [Prod.mk.injEq] at h4
        obtain ⟨rfl, rfl, rfl⟩ := h4
        unfold getC1
        rw [if_pos q2]
        intro h
        first | rfl | exact absurd h q2
    · rw [if_neg q1] at h1
      simp only [Prod.mk.injEq] at h1
      obtain ⟨rfl, rfl, rfl⟩ := h1
      unfold numRes at h2
      rw [if_pos q1] at h2
      simp only [Prod.mk.injEq] at h2
      obtain ⟨rfl, rfl, rfl⟩ := h2
      unfold hashRes at h3
      rw [if_pos q1] at h3
      simp only [Prod.mk.injEq] at h3
      obtain ⟨rfl, rfl, rfl⟩ := h3
      unfold numRes at h4
      rw [if_pos q1] at h4
      simp only [Prod.mk.injEq] at h4
      obtain ⟨rfl, rfl, rfl⟩ := h4
      unfold getC0
      rw [if_pos q1]
      intro h
      first | rfl | exact absurd h q1
/-- After i of K sums of L, whatever was wrong. -/
def HashI (K : Nat) (L : List Nat) (i : Nat) (hs : List (List Nat)) (s : ByteArray) (e : Nat) : Prop := (e = 0 → RdHsI K L i hs (bl s)) ∧ (e ≠ 0 → (rdHs K L).2.2 = e)
theorem HashI.step {K : Nat} {L : List Nat} {i : Nat} {hs : List (List Nat)} {s s' : ByteArray} {e e' : Nat} {r : List Nat} (h : HashI K L i hs s e) (hi : i < K) (hr : hashRes s e = (r, s', e')) : HashI K L (i + 1) (hs ++ [r]) s' e' := by
  unfold hashRes at hr
  by_cases h0 : e ≠ 0
  · rw [if_pos h0] at hr
    simp only [Prod.mk.injEq] at hr
    obtain ⟨rfl, rfl, rfl⟩ := hr
    exact ⟨fun k => absurd k h0, h.2⟩
  · rw [if_neg h0] at hr
    have h1 := h.1 (Classical.not_not.1 h0)
    by_cases h2 : s.size < 32
    · rw [if_pos h2] at hr
      simp only [Prod.mk.injEq] at hr
      obtain ⟨rfl, rfl, rfl⟩ := hr
      exact ⟨(fun k => by cases k), fun _ => h1.err hi (by rw [bl_length]; exact h2)⟩
    · rw [if_neg h2] at hr
      simp only [Prod.mk.injEq] at hr
      obtain ⟨rfl, rfl, rfl⟩ := hr
      exact ⟨fun _ => by rw [bl_cut]; exact h1.step hi (by rw [bl_length]; omega), fun k => absurd rfl k⟩
theorem outs_row2 {w w' : World} {A : Option Addr} {c : Nat} {ls : List (List E)} (h : Outs w (.slice A ls.length c) ls) (k : Below w.heap.size w w') {i : Nat} {x : List E} (hi : ls[i]? = some x) : ∃ b o u, A = some ⟨b, o, none⟩ ∧ w'.cell? ⟨b, o + i, none⟩ = some u ∧ Edges w u x := by
  obtain ⟨A', c', vs, e, _, _, h3, h4, h5⟩ := h
  simp only [Value.slice.injEq, true_and] at e
  obtain ⟨rfl, rfl⟩ := e
  have hlt := (List.getElem?_eq_some_iff.1 hi).1
  obtain ⟨b, o, rfl, hb, hr⟩ := h4 (by omega)
  obtain ⟨u, hu, hE⟩ := h5 i x hi
  exact ⟨b, o, u, rfl, range_below hr k hb i u hu, hE⟩
theorem outs_row {w : World} {A : Option Addr} {c : Nat} {ls : List (List E)} (h : Outs w (.slice A ls.length c) ls) {i : Nat} {x : List E} (hi : ls[i]? = some x) : ∃ b o u, A = some ⟨b, o, none⟩ ∧ w.cell? ⟨b, o + i, none⟩ = some u ∧ Edges w u x := by
  obtain ⟨A', c', vs, e, _, _, h3, h4, h5⟩ := h
  simp only [Value.slice.injEq, true_and] at e
  obtain ⟨rfl, rfl⟩ := e
  have hlt := (List.getElem?_eq_some_iff.1 hi).1
  obtain ⟨b, o, rfl, _, hr⟩ := h4 (by omega)
  obtain ⟨u, hu, hE⟩ := h5 i x hi
  exact ⟨b, o, u, rfl, hr i u hu, hE⟩
theorem cell_kept {w w' : World} {g j : Nat} {u : Value} (h : Below w.heap.size w w') (hc : w.cell? ⟨g, j, none⟩ = some u) : w'.cell? ⟨g, j, none⟩ = some u := by
  have hg : g < w.heap.size := by
    apply Classical.byContradiction
    intro hn
    unfold World.cell? at hc
    have : w.heap[g]? = none := Array.getElem?_eq_none (by omega)
    simp [this] at hc
  exact (h.cell (show (⟨g, j, none⟩ : Addr).block < w.heap.size from hg)).trans hc
end Go.Proofs.YtooeahpkhocaeaaDoor
