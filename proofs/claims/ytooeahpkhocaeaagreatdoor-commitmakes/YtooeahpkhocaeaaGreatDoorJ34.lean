/- Layer 12: sums read one by one; rows of sums that grow; a reader as an object. No condition. -/
import Derived.Test.YtooeahpkhocaeaaGreatDoorCOwn
import Derived.Test.YtooeahpkhocaeaaGreatDoorEngT
import Derived.Test.YtooeahpkhocaeaaGreatDoorJ24
import Derived.Test.YtooeahpkhocaeaaGreatDoorJ27
import Derived.Test.YtooeahpkhocaeaaGreatDoorJ13
import Derived.Test.YtooeahpkhocaeaaGreatDoorJ32
namespace Go.Proofs.YtooeahpkhocaeaaGreatDoor
open Go.RowKit
set_option maxRecDepth 100000

theorem goes26 : Goes Tryz.prog 26 := goes_of Tryz.func26 (by kernel_rfl) rfl
/-- After i of K sums of L. -/
def RdHsI (K : Nat) (L : List Nat) (i : Nat) (hs : List (List Nat)) (l : List Nat) : Prop := rdHs K L = (hs ++ (rdHs (K - i) l).1, (rdHs (K - i) l).2)
theorem RdHsI.zero (K : Nat) (L : List Nat) : RdHsI K L 0 [] L := rfl
theorem RdHsI.step {K : Nat} {L l : List Nat} {hs : List (List Nat)} {i : Nat} (h : RdHsI K L i hs l) (hi : i < K) (h0 : 32 ≤ l.length) : RdHsI K L (i + 1) (hs ++ [l.take 32]) (l.drop 32) := by
  unfold RdHsI at h ⊢
  rw [h, show K - i = (K - (i + 1)) + 1 by omega]
  simp only [rdHs, show ¬ l.length < 32 by omega, if_false, List.append_assoc, List.singleton_append]
theorem RdHsI.err {K : Nat} {L l : List Nat} {hs : List (List Nat)} {i : Nat} (h : RdHsI K L i hs l) (hi : i < K) (h0 : l.length < 32) : (rdHs K L).2.2 = 20 := by
  unfold RdHsI at h
  rw [h, show K - i = (K - (i + 1)) + 1 by omega]
  simp only [rdHs, h0, if_true]
theorem RdHsI.all {K : Nat} {L l : List Nat} {hs : List (List Nat)} (h : RdHsI K L K hs l) : rdHs K L = (hs, l, 0) := by
  unfold RdHsI at h; rw [h]; simp [rdHs]
def mkC (na nb : Nat) (rt : List Nat) (hs : List (List Nat)) : Cm := ⟨na, nb, rt, hs⟩
theorem built_0 : Tryz.prog.built 28 [] = some (cmc noCm (.slice none 0 0)).toArray := by kernel_rfl
theorem bl_head {s : ByteArray} {b : UInt8} (h : s[0]? = some b) : bl s = b.toNat :: bl (cut s 1) := by
  have h1 : (bl s)[0]? = some b.toNat := by
    obtain ⟨⟨l⟩⟩ := s
    match l, h with
    | [], h => cases h
    | x :: l, h => simp only [bl]; have : some x = some b := h; cases this; rfl
  rw [bl_cut]
  match hb : bl s, h1 with
  | x :: l, h1 => simp only [List.getElem?_cons_zero, Option.some.injEq] at h1; rw [h1]; rfl
theorem own_cell {w : World} {B n sz : Nat} {e : TypeId} {v : Value} {xs : List Value} (h : w.ownsRow B e sz v n xs) : v.oneCell' = true := by
  rcases h.2 with ⟨h1, _⟩ | ⟨_, _, _, h1, _⟩ <;> rw [h1] <;> rfl
section
variable {L : List (Nat × Value)} {w : World} {ty : TypeId}
theorem runs_oneHs {x : Operand} {h : List Nat} (hx : vals L x = some (.agg (U8 h).toArray)) (hf : h.length = 32) : Runs Tryz.prog (.buildSlice 26 1 #[(0, x)]) ty L w (fun v w' => ∃ g2, v = .slice (some ⟨g2, 0, none⟩) 1 1 ∧ Has w' g2 25 (U8 h) ∧ Below w.heap.size w w') := by
  obtain ⟨i48, hi48, hz48, hs48, hb48⟩ := info_parts infHashb
  exact (runs_buildRow hx undHs hi48 hz48 (by simp [hs48, hf]) (by simp [hf]) (by simp [hf])).mono (by rintro v w5 ⟨rfl, rfl⟩; exact ⟨_, rfl, Has.new w 25 (U8 h), (Below.refl _ _).alloc (Nat.le_refl _) _⟩)
theorem push_ownHs {B n g2 : Nat} {s x : Operand} {sv : Value} {xs : List Value} {h : List Nat} (hs : vals L s = some sv) (hown : w.ownsRow B 25 32 sv n xs) (hx : vals L x = some (.slice (some ⟨g2, 0, none⟩) 1 1)) (hX : Has w g2 25 (U8 h)) (hf : h.length = 32) (hn : n ≤ 10000) (hB : B ≤ w.heap.size) (hcap : 0 < n ∨ ∀ g m c, sv = .slice (some g) m c → c = 0) :
    Runs Tryz.prog (.call { callee := .builtin .append, args := #[s, x], argTypes := #[26, 26] }) ty L w (fun u w2 => (∃ g3 c3, u = .slice (some ⟨g3, 0, none⟩) (n + 1) c3) ∧ w2.ownsRow B 25 32 u (n + 1) (xs ++ U8 h) ∧ KR 25 32 B (xs ++ U8 h) w w2) := by
  obtain ⟨i48, hi48, hz48, hs48, hb48⟩ := info_parts infHashb
  exact push_own1 undHs hi48 hz48 hs48 hb48 (by simp [Value.cells]) (by omega) (by omega) hs hown hx hX (by rw [U8_length, hf]) (U8_one h) hn hB hcap
end
/-- What a region keeps in which a row of sums grows and a reader reads. -/
def KI (B : Nat) (Y : List Value) (a b : World) : Prop :=
  Below B a b ∧ (∀ v k ys, ys <+: Y → a.ownsRow B 25 32 v k ys → b.ownsRow B 25 32 v k ys) ∧ (∀ i t cs, t ≠ 25 → t ≠ 70 → t ≠ 28 → Has a i t cs → Has b i t cs) ∧ (∀ i cs, cs.length = 32 → Has a i 25 cs → Has b i 25 cs)
section
variable {B : Nat} {Y : List Value} {a b c : World}
theorem KI.refl : KI B Y a a := ⟨Below.refl _ _, fun _ _ _ _ h => h, fun _ _ _ _ _ _ h => h, fun _ _ _ h => h⟩
theorem KI.trans (h : KI B Y a b) (k : KI B Y b c) : KI B Y a c :=
  ⟨h.1.trans k.1, fun v n ys hy ho => k.2.1 v n ys hy (h.2.1 v n ys hy ho), fun i t cs ht h2 h3 ho => k.2.2.1 i t cs ht h2 h3 (h.2.2.1 i t cs ht h2 h3 ho), fun i cs ht ho => k.2.2.2 i cs ht (h.2.2.2 i cs ht ho)⟩
theorem KI.of_kr (h : KR 25 32 B Y a b) : KI B Y a b := ⟨h.1, h.2.1, fun i t cs ht _ _ ho => h.2.2.1 i t cs ht ho, h.2.2.2⟩
theorem KI.drew (h : KI B Y a b) : KI B Y a b.drew := ⟨h.1.drew, h.2.1, h.2.2.1, h.2.2.2⟩
theorem KI.of_but {g T : Nat} {old : List Value} (h : But (fun i => i = g) a b) (ho : Has a g T old) (hT : T = 70 ∨ T = 28) (hg : B ≤ g) (hB : B ≤ a.heap.size) : KI B Y a b := by
  have hne : T ≠ 25 := by rcases hT with rfl | rfl <;> decide
  refine ⟨h.below (fun i e => by rw [e]; exact hg) hB, fun v k ys _ hr => owns_but hr h (fun i o hi e => by subst e; exact has_ne hi ho (Ne.symm hne) rfl), fun i t cs h1 h2 h3 hh => hh.but h (fun e => ?_), fun i cs _ hh => hh.but h (fun e => ?_)⟩
  · subst e
    refine has_ne hh ho (fun e => ?_) rfl
    rcases hT with rfl | rfl
    · exact h2 e
    · exact h3 e
  · subst e
    exact has_ne hh ho (Ne.symm hne) rfl
end
theorem rdd_hashC {b e : Nat} {w : World} {s : ByteArray} (h : In w b s e) : Ans 26 [.pointer (some ⟨b, 0, none⟩)] w (fun u w' => u = .agg (U8 (hashRes s e).1).toArray ∧ Rdd w b (hashRes s e).2.1 (hashRes s e).2.2 w') :=
  (inHash_any b s e w h).mono (by rintro x w' ⟨rfl, k⟩; exact ⟨_, rfl, rfl, k.1, fr_but k.2⟩)
theorem rdd_errC {b e : Nat} {w : World} {s : ByteArray} (h : In w b s e) : Ans 27 [.pointer (some ⟨b, 0, none⟩)] w (Is (.int .i64 (e : Int)) w) :=
  (err_any b s e w h).mono (by rintro x w' ⟨rfl, rfl⟩; exact ⟨_, rfl, rfl, rfl⟩)
theorem rdd_newC (s : ByteArray) (w : World) : Ans 24 [.string s] w (fun u w' => u = .pointer (some ⟨w.heap.size, 0, none⟩) ∧ Has w' w.heap.size 70 [.string s, .int .i64 ((0 : Nat) : Int)] ∧ Below w.heap.size w w') :=
  (newIn_any s w).mono (by rintro x w' ⟨rfl, rfl⟩; exact ⟨_, rfl, rfl, in_new w s, (Below.refl _ _).alloc (Nat.le_refl _) _⟩)
/-- What the first four reads tell. -/
theorem get4 (s s1 s2 s3 s4 : ByteArray) (a b n e1 e2 e3 e4 : Nat) (r : List Nat) (h1 : numRes s 0 = (a, s1, e1)) (h2 : numRes s1 e1 = (b, s2, e2)) (h3 : hashRes s2 e2 = (r, s3, e3)) (h4 : numRes s3 e3 = (n, s4, e4)) :
    (e4 ≠ 0 → getC0 (bl s) = (noCm, e4)) ∧ (e4 = 0 → getC0 (bl s) = getC4 a b r n (bl s4) ∧ e3 = 0) ∧ a < 18446744073709551616 ∧ b < 18446744073709551616 ∧ n < 18446744073709551616 ∧ r.length = 32 ∧ Sha.Bytes r := by
  have w1 := num_in64 s 0
  have w2 := num_in64 s1 e1
  have w4 := num_in64 s3 e3
  have w3 := hash_len s2 e2
  have w5 := hash_bytes s2 e2
  rw [h1] at w1; rw [h2] at w2; rw [h3] at w3 w5; rw [h4] at w4
  refine ⟨?_, ?_, w1, w2, w4, w3, w5⟩
  all_goals
    unfold numRes at h1
    rw [if_neg (by simp)] at h1
    by_cases q1 : (Wire.rd (bl s)).2.2 = 0
    · rw [if_pos q1] at h1
      simp only [Prod.mk.injEq] at h1
      obtain ⟨rfl, rfl, rfl⟩ := h1
      unfold numRes at h2
      rw [if_neg (by simp)] at h2
      unfold getC0; rw [if_neg (by simp [q1]), ← bl_cut]
      by_cases q2 : (Wire.rd (bl (cut s (Wire.rd (bl s)).2.1))).2.2 = 0
      · rw [if_pos q2] at h2
        simp only [Prod.mk.injEq] at h2
        obtain ⟨rfl, rfl, rfl⟩ := h2
        unfold hashRes at h3
        rw [if_neg (by simp)] at h3
        unfold getC1; rw [if_neg (by simp [q2]), ← bl_cut]
        unfold getC2
        by_cases q3 : (cut (cut s (Wire.rd (bl s)).2.1) (Wire.rd (bl (cut s (Wire.rd (bl s)).2.1))).2.1).size < 32
        · rw [if_pos q3] at h3
          simp only [Prod.mk.injEq] at h3
          obtain ⟨rfl, rfl, rfl⟩ := h3
          unfold numRes at h4
          rw [if_pos (by decide)] at h4
          simp only [Prod.mk.injEq] at h4
          obtain ⟨rfl, rfl, rfl⟩ := h4
          rw [if_pos (by rw [bl_length]; exact q3)]
          intro h
          first | rfl | exact absurd h (by decide)
        · rw [if_neg q3] at h3
          simp only [Prod.mk.injEq] at h3
          obtain ⟨rfl, rfl, rfl⟩ := h3
          unfold numRes at h4
          rw [if_neg (by simp)] at h4
          rw [if_neg (by rw [bl_length]; exact q3), ← bl_cut]
          unfold getC3
          by_cases q4 : (Wire.rd (bl (cut (cut (cut s (Wire.rd (bl s)).2.1) (Wire.rd (bl (cut s (Wire.rd (bl s)).2.1))).2.1) 32))).2.2 = 0
          · rw [if_pos q4] at h4
            simp only [Prod.mk.injEq] at h4
            obtain ⟨rfl, rfl, rfl⟩ := h4
            rw [if_neg (by simp [q4]), ← bl_cut]
            intro h
            first | exact absurd rfl h | exact ⟨rfl, rfl⟩
          · rw [if_neg q4] at h4
            simp only [Prod.mk.injEq] at h4
            obtain ⟨rfl, rfl, rfl⟩ := h4
            rw [if_pos q4]
            intro h
            first | rfl | exact absurd h q4
      · rw [if_neg q2] at h2
        simp only [Prod.mk.injEq] at h2
        obtain ⟨rfl, rfl, rfl⟩ := h2
        unfold hashRes at h3
        rw [if_pos q2] at h3
        simp only [Prod.mk.injEq] at h3
        obtain ⟨rfl, rfl, rfl⟩ := h3
        unfold numRes at h4
        rw [if_pos q2] at h4
        simp only [Prod.mk.injEq] at h4
        obtain ⟨rfl, rfl, rfl⟩ := h4
        unfold getC1
        rw [if_pos q2]
        intro h
        first | rfl | exact absurd h q2
    · rw [if_neg q1] at h1
      simp only [Prod.mk.injEq] at h1
      obtain ⟨rfl, rfl, rfl⟩ := h1
      unfold numRes at h2
      rw [if_pos q1] at h2
      simp only [Prod.mk.injEq] at h2
      obtain ⟨rfl, rfl, rfl⟩ := h2
      unfold hashRes at h3
      rw [if_pos q1] at h3
      simp only [Prod.mk.injEq] at h3
      obtain ⟨rfl, rfl, rfl⟩ := h3
      unfold numRes at h4
      rw [if_pos q1] at h4
      simp only [Prod.mk.injEq] at h4
      obtain ⟨rfl, rfl, rfl⟩ := h4
      unfold getC0
      rw [if_pos q1]
      intro h
      first | rfl | exact absurd h q1
/-- After i of K sums of L, whatever was wrong. -/
def HashI (K : Nat) (L : List Nat) (i : Nat) (hs : List (List Nat)) (s : ByteArray) (e : Nat) : Prop := (e = 0 → RdHsI K L i hs (bl s)) ∧ (e ≠ 0 → (rdHs K L).2.2 = e)
theorem HashI.step {K : Nat} {L : List Nat} {i : Nat} {hs : List (List Nat)} {s s' : ByteArray} {e e' : Nat} {r : List Nat} (h : HashI K L i hs s e) (hi : i < K) (hr : hashRes s e = (r, s', e')) : HashI K L (i + 1) (hs ++ [r]) s' e' := by
  unfold hashRes at hr
  by_cases h0 : e ≠ 0
  · rw [if_pos h0] at hr
    simp only [Prod.mk.injEq] at hr
    obtain ⟨rfl, rfl, rfl⟩ := hr
    exact ⟨fun k => absurd k h0, h.2⟩
  · rw [if_neg h0] at hr
    have h1 := h.1 (Classical.not_not.1 h0)
    by_cases h2 : s.size < 32
    · rw [if_pos h2] at hr
      simp only [Prod.mk.injEq] at hr
      obtain ⟨rfl, rfl, rfl⟩ := hr
      exact ⟨(fun k => by cases k), fun _ => h1.err hi (by rw [bl_length]; exact h2)⟩
    · rw [if_neg h2] at hr
      simp only [Prod.mk.injEq] at hr
      obtain ⟨rfl, rfl, rfl⟩ := hr
      exact ⟨fun _ => by rw [bl_cut]; exact h1.step hi (by rw [bl_length]; omega), fun k => absurd rfl k⟩
theorem outs_row2 {w w' : World} {A : Option Addr} {c : Nat} {ls : List (List E)} (h : Outs w (.slice A ls.length c) ls) (k : Below w.heap.size w w') {i : Nat} {x : List E} (hi : ls[i]? = some x) : ∃ b o u, A = some ⟨b, o, none⟩ ∧ w'.cell? ⟨b, o + i, none⟩ = some u ∧ Edges w u x := by
  obtain ⟨A', c', vs, e, _, _, h3, h4, h5⟩ := h
  simp only [Value.slice.injEq, true_and] at e
  obtain ⟨rfl, rfl⟩ := e
  have hlt := (List.getElem?_eq_some_iff.1 hi).1
  obtain ⟨b, o, rfl, hb, hr⟩ := h4 (by omega)
  obtain ⟨u, hu, hE⟩ := h5 i x hi
  exact ⟨b, o, u, rfl, range_below hr k hb i u hu, hE⟩
theorem outs_row {w : World} {A : Option Addr} {c : Nat} {ls : List (List E)} (h : Outs w (.slice A ls.length c) ls) {i : Nat} {x : List E} (hi : ls[i]? = some x) : ∃ b o u, A = some ⟨b, o, none⟩ ∧ w.cell? ⟨b, o + i, none⟩ = some u ∧ Edges w u x := by
  obtain ⟨A', c', vs, e, _, _, h3, h4, h5⟩ := h
  simp only [Value.slice.injEq, true_and] at e
  obtain ⟨rfl, rfl⟩ := e
  have hlt := (List.getElem?_eq_some_iff.1 hi).1
  obtain ⟨b, o, rfl, _, hr⟩ := h4 (by omega)
  obtain ⟨u, hu, hE⟩ := h5 i x hi
  exact ⟨b, o, u, rfl, hr i u hu, hE⟩
theorem cell_kept {w w' : World} {g j : Nat} {u : Value} (h : Below w.heap.size w w') (hc : w.cell? ⟨g, j, none⟩ = some u) : w'.cell? ⟨g, j, none⟩ = some u := by
  have hg : g < w.heap.size := by
    apply Classical.byContradiction
    intro hn
    unfold World.cell? at hc
    have : w.heap[g]? = none := Array.getElem?_eq_none (by omega)
    simp [this] at hc
  exact (h.cell (show (⟨g, j, none⟩ : Addr).block < w.heap.size from hg)).trans hc
end Go.Proofs.YtooeahpkhocaeaaGreatDoor
/- Layer 12: the program's Put. Conditions: none but those of the contract. -/
namespace Go.Proofs.YtooeahpkhocaeaaGreatDoor
open Go.RowKit
set_option maxRecDepth 100000

theorem wr_hash {B b : Nat} {w : World} {l h : List Nat} (hh : h.length = 32) (hW : Wr B w b l) (hl : l.length ≤ 100000) : Ans 22 [.pointer (some ⟨b, 0, none⟩), .agg (U8 h).toArray] w (fun _ w' => Wr B w' b (l ++ h) ∧ Below B w w') := by
  obtain ⟨h1, h2, v, h3, h4⟩ := hW
  exact (outHash_any b h v l w hh h3 hl).mono (by rintro e w' ⟨rfl, k⟩; exact ⟨_, rfl, Wr.wrote h1 h2 h3 h4 k⟩)
theorem Wr.butH {B b g : Nat} {w w' : World} {l : List Nat} {T : TypeId} {old : List Value} (h : Wr B w b l) (hU : But (fun i => i = g) w w') (ho : Has w g T old) (h1 : T ≠ 67) (h2 : T ≠ 5) : Wr B w' b l := by
  obtain ⟨k1, k2, v, ⟨k3, k4⟩, k5⟩ := h
  exact ⟨k1, Nat.le_trans k2 hU.size, v, ⟨k3.but hU (has_ne k3 ho (Ne.symm h1)), owns_but k4 hU (fun i o hi e => by subst e; exact has_ne hi ho (Ne.symm h2) rfl)⟩, k5⟩
/-- A number of 64 bits that is taken for one without a sign. -/
def u64 (x : Int) : Nat := (x % 18446744073709551616).toNat
theorem may_right {c : Cm} (h : FitsC c) : mayC (u64 c.w) (u64 c.st) c.bs.length = rightC c := by
  obtain ⟨⟨h1, h2⟩, h3, h4⟩ := h
  have e1 : decide (u64 c.w ≤ 63) = (decide (0 ≤ c.w) && decide (c.w < 64)) := by
    rw [← Bool.decide_and]
    refine decide_eq_decide.2 ?_
    unfold u64
    constructor <;> intro _ <;> omega
  have e2 : decide (u64 c.st ≤ 63) = (decide (0 ≤ c.st) && decide (c.st < 64)) := by
    rw [← Bool.decide_and]
    refine decide_eq_decide.2 ?_
    unfold u64
    constructor <;> intro _ <;> omega
  unfold mayC inB rightC
  rw [e1, e2]
  simp only [Nat.zero_le, decide_true, Bool.true_and, Bool.and_assoc]
theorem zoH : zeroOf Tryz.prog 25 = some (.agg (U8 zero32).toArray) := by kernel_rfl
set_option maxHeartbeats 1000000 in
theorem cput_c : CPutC := fun c u w hC hn hF => by
  show Ans 11 [u] w _
  obtain ⟨x, rfl, hH, hl, hby⟩ := id hC
  obtain ⟨A, cc, rfl, hc1, hc2, hHo, -⟩ := id hH
  obtain ⟨f1, f2⟩ := id hF
  refine calls_qx (args := [.agg (cmc c (.slice A c.bs.length cc)).toArray]) 55 Tryz.func11 rfl (by kernel_rfl) (by simp) (fun a hS => ?_)
  have hB := Below.refl w.heap.size w
  have hHb := hH
  refine qx_seq (reg_seq ?_)
  refine seq_op hS (by decide) (runs_boxB (cs := cmc c (.slice A c.bs.length cc)) rfl rfl) (fun v1 w1 a1 hp hS => ?_)
  obtain ⟨rfl, hM1, hB1⟩ := hp
  have hB := hB.trans (hB1.mono hB.size)
  have hH := hHb.kept hB
  refine sI hS (runs_assign rfl) fun _ hS => ?_
  refine sI hS (runs_assign rfl) fun _ hS => ?_
  refine nil_ok (qx_seq (qx_seq (reg_seq ?_)))
  refine sI hS (runs_fieldK foC_0 rfl) fun _ hS => ?_
  refine sI hS (runs_load rfl pl3 (hM1.at rfl)) fun _ hS => ?_
  refine sI hS (runs_convInt (r := ((u64 c.w : Nat) : Int)) rfl (by decide) undB64 (by simp [IntKind.wrap, IntKind.bits, IntKind.signed, u64]; omega)) fun _ hS => ?_
  refine sI hS (runs_fieldK foC_1 rfl) fun _ hS => ?_
  refine sI hS (runs_load rfl pl3 (hM1.at rfl)) fun _ hS => ?_
  refine sI hS (runs_convInt (r := ((u64 c.st : Nat) : Int)) rfl (by decide) undB64 (by simp [IntKind.wrap, IntKind.bits, IntKind.signed, u64]; omega)) fun _ hS => ?_
  refine sI hS (runs_fieldK foC_3 rfl) fun _ hS => ?_
  refine sI hS (runs_load rfl pl924 (hM1.at (cm_v hl))) fun _ hS => ?_
  refine sI hS (runs_len rfl undHs) fun _ hS => ?_
  refine sI hS (runs_convInt (r := ((c.bs.length : Nat) : Int)) rfl (by decide) undB64 (by simp [IntKind.wrap, IntKind.bits, IntKind.signed]; omega)) fun _ hS => ?_
  refine seq_op hS (by decide) (runs_call (args := [.int .u64 ((u64 c.w : Nat) : Int), .int .u64 ((u64 c.st : Nat) : Int), .int .u64 ((c.bs.length : Nat) : Int)]) goes13 rfl (may_any _ _ _ w1)) (fun v3 w3 a1 hp hS => ?_)
  obtain ⟨rfl, hB3⟩ := hp
  rw [may_right hF] at hS
  have hB := hB.trans (hB3.mono hB.size)
  have hM1 := hM1.below hB3 hM1.lt
  have hH := hHb.kept hB
  by_cases hr : rightC c = true
  · skip
    rw [hr] at hS
    refine sI hS (runs_not (b := true) rfl) fun _ hS => ?_
    refine nil_ok (wp_cond_false (hS.eval rfl) (wp_skip (qx_seq (?_))))
    obtain ⟨r1, r2, r3, r4, r5, r6⟩ := (rightC_iff c).1 hr
    have l1 := Wire.num_len10 c.w.toNat (by omega)
    have l2 := Wire.num_len10 c.st.toNat (by omega)
    have l4 := Wire.num_len10 c.bs.length (by omega)
    have hfl := flatten_len c.bs (fun x hx => (hHo x hx).1)
    have h67 : Wire.num 67 = [67] := Wire.num_lt (by omega)
    have hBpre0 := hB
    have hB := Below.refl w3.heap.size w3
    have hM1b := hM1
    have hHb := hH
    refine reg_seq ?_
    refine seq_op hS (by decide) (runs_call (args := []) goes20 rfl (wr_new w3)) (fun v5 w5 a1 hp hS => ?_)
    obtain ⟨rfl, hW, hK5⟩ := hp
    have hB := hB.trans hK5
    have hM1 := hM1b.below hB hM1b.lt
    have hH := hHb.kept hB
    refine sI hS (runs_assign rfl) fun _ hS => ?_
    refine nil_ok (qx_seq (reg_seq ?_))
    refine sI hS (runs_move rfl) fun _ hS => ?_
    refine seq_op hS (by decide) (runs_call (args := [.pointer (some ⟨w3.heap.size, 0, none⟩), .int .u64 ((67 : Nat) : Int)]) goes21 rfl (wr_num (n := 67) hW (by omega) (by simp))) (fun v6 w6 a1 hp hS => ?_)
    obtain ⟨hW, hK6⟩ := hp
    have hB := hB.trans hK6
    have hM1 := hM1b.below hB hM1b.lt
    have hH := hHb.kept hB
    refine nil_ok (qx_seq (reg_seq ?_))
    refine sI hS (runs_move rfl) fun _ hS => ?_
    refine sI hS (runs_fieldK foC_0 rfl) fun _ hS => ?_
    refine sI hS (runs_load rfl pl3 (hM1.at rfl)) fun _ hS => ?_
    refine sI hS (runs_convInt (r := ((c.w.toNat : Nat) : Int)) rfl (by decide) undB64 (by simp [IntKind.wrap, IntKind.bits, IntKind.signed]; omega)) fun _ hS => ?_
    refine seq_op hS (by decide) (runs_call (args := [.pointer (some ⟨w3.heap.size, 0, none⟩), .int .u64 ((c.w.toNat : Nat) : Int)]) goes21 rfl (wr_num hW (by omega) (by simp only [List.length_append, List.length_nil, h67, List.length_cons]; omega))) (fun v7 w7 a1 hp hS => ?_)
    obtain ⟨hW, hK7⟩ := hp
    have hB := hB.trans hK7
    have hM1 := hM1b.below hB hM1b.lt
    have hH := hHb.kept hB
    refine nil_ok (qx_seq (reg_seq ?_))
    refine sI hS (runs_move rfl) fun _ hS => ?_
    refine sI hS (runs_fieldK foC_1 rfl) fun _ hS => ?_
    refine sI hS (runs_load rfl pl3 (hM1.at rfl)) fun _ hS => ?_
    refine sI hS (runs_convInt (r := ((c.st.toNat : Nat) : Int)) rfl (by decide) undB64 (by simp [IntKind.wrap, IntKind.bits, IntKind.signed]; omega)) fun _ hS => ?_
    refine seq_op hS (by decide) (runs_call (args := [.pointer (some ⟨w3.heap.size, 0, none⟩), .int .u64 ((c.st.toNat : Nat) : Int)]) goes21 rfl (wr_num hW (by omega) (by simp only [List.length_append, List.length_nil, h67, List.length_cons]; omega))) (fun v8 w8 a1 hp hS => ?_)
    obtain ⟨hW, hK8⟩ := hp
    have hB := hB.trans hK8
    have hM1 := hM1b.below hB hM1b.lt
    have hH := hHb.kept hB
    refine nil_ok (qx_seq (reg_seq ?_))
    refine sI hS (runs_move rfl) fun _ hS => ?_
    refine sI hS (runs_fieldK foC_2 rfl) fun _ hS => ?_
    refine sI hS (runs_loadMid rfl (cm_root hM1 hl) Tryz.underlying25 rfl (by rw [infHash, U8_length, hl])) fun _ hS => ?_
    refine seq_op hS (by decide) (runs_call (args := [.pointer (some ⟨w3.heap.size, 0, none⟩), .agg (U8 c.root).toArray]) goes22 rfl (wr_hash hl hW (by simp only [List.length_append, List.length_nil, h67, List.length_cons]; omega))) (fun v9 w9 a1 hp hS => ?_)
    obtain ⟨hW, hK9⟩ := hp
    have hB := hB.trans hK9
    have hM1 := hM1b.below hB hM1b.lt
    have hH := hHb.kept hB
    refine nil_ok (qx_seq (reg_seq ?_))
    refine sI hS (runs_move rfl) fun _ hS => ?_
    refine sI hS (runs_fieldK foC_3 rfl) fun _ hS => ?_
    refine sI hS (runs_load rfl pl924 (hM1.at (cm_v hl))) fun _ hS => ?_
    refine sI hS (runs_len rfl undHs) fun _ hS => ?_
    refine sI hS (runs_convInt (r := ((c.bs.length : Nat) : Int)) rfl (by decide) undB64 (by simp [IntKind.wrap, IntKind.bits, IntKind.signed]; omega)) fun _ hS => ?_
    refine seq_op hS (by decide) (runs_call (args := [.pointer (some ⟨w3.heap.size, 0, none⟩), .int .u64 ((c.bs.length : Nat) : Int)]) goes21 rfl (wr_num hW (by omega) (by simp only [List.length_append, List.length_nil, h67, List.length_cons]; omega))) (fun v10 w10 a1 hp hS => ?_)
    obtain ⟨hW, hK10⟩ := hp
    have hB := hB.trans hK10
    have hM1 := hM1b.below hB hM1b.lt
    have hH := hHb.kept hB
    refine nil_ok (qx_seq (qx_seq (?_)))
    obtain ⟨pre, hpre⟩ : ∃ p, [] ++ Wire.num 67 ++ Wire.num c.w.toNat ++ Wire.num c.st.toNat ++ c.root ++ Wire.num c.bs.length = p := ⟨_, rfl⟩
    have hpl : pre.length ≤ 63 := by rw [← hpre]; simp only [List.length_append, List.length_cons, List.length_nil, h67]; omega
    rw [hpre] at hW
    refine reg_seq ?_
    refine sI hS (runs_fieldK foC_3 rfl) fun _ hS => ?_
    refine sI hS (runs_load rfl pl924 (hM1.at (cm_v hl))) fun _ hS => ?_
    refine sI hS (runs_len rfl undHs) fun _ hS => ?_
    refine sI hS (runs_move rfl) fun _ hS => ?_
    refine nil_ok (?_)
    rw [show pre = pre ++ (c.bs.take 0).flatten by simp] at hW
    refine qx_range (fun mm a w' => ∃ (i : Nat), i ≤ c.bs.length ∧ mm = c.bs.length - i ∧ Below w3.heap.size w3 w' ∧ Wr w3.heap.size w' (w3.heap.size) (pre ++ (c.bs.take i).flatten) ∧ Sees 55 [(45, .int .i64 (i : Int)), (44, .int .i64 ((c.bs.length : Nat) : Int)), (43, .slice A c.bs.length cc), (4, .pointer (some ⟨w3.heap.size, 0, none⟩))] a) c.bs.length ⟨0, by omega, by omega, hB, hW, hS.only _ ⟨rfl, rfl, rfl, rfl, trivial⟩⟩ ?_
    clear hS 
    rintro mm a wl1 ⟨i, hi1, rfl, hBb1, hW, hS⟩
    have hBsz1 := hBb1.size
    have hH := hHb.kept hBb1
    have hB := Below.refl wl1.heap.size wl1
    refine reg_seq ?_
    by_cases hlt1 : i < c.bs.length
    · skip
      refine sI hS (lssT rfl rfl (by omega)) fun _ hS => ?_
      refine nil_ok ⟨_, hS.eval rfl, fun h => by simp at h, fun _ => ?_⟩
      have hSn := hS
      have hWn := hW
      obtain ⟨x, hx⟩ : ∃ x, c.bs[i]? = some x := ⟨c.bs[i], by simp [hlt1]⟩
      obtain ⟨b, o, hbe, hbw, hr_⟩ := hashes_row hH (by omega)
      cases hbe
      have hrx := hashes_at hr_ hHo hx
      have hx32 := (hHo x (List.mem_of_getElem? hx)).1
      have hfi : ((c.bs.take i).flatten).length ≤ 32 * 64 := by rw [flatten_len _ (fun y hy => (hHo y (List.mem_of_mem_take hy)).1), List.length_take]; omega
      have hS := hSn
      have hW := hWn
      refine qx_seq (qx_block (qx_seq (reg_seq ?_)))
      refine sI hS (runs_indexAddrG (j := i) rfl rfl undHs szHs rfl hlt1) fun _ hS => ?_
      refine sI hS (runs_loadMid rfl hrx Tryz.underlying25 rfl (by rw [infHash, U8_length, hx32])) fun _ hS => ?_
      refine seq_op hS (by decide) (runs_allocB (cs := U8 zero32) zoH rfl) (fun v11 w11 a1 hp hS => ?_)
      obtain ⟨rfl, hM11, hB11⟩ := hp
      have hW := hW.below hB11
      have hLhM11 : wl1.heap.size ≤ wl1.heap.size := hB.size
      have hB := hB.trans (hB11.mono hB.size)
      refine seq_none hS (runs_storeB (cs := U8 x) rfl rfl hM11 (by rw [U8_length, U8_length, hx32]; rfl) (List.all_eq_true.2 (U8_one x)) (by rw [infHash, U8_length, hx32])) (fun v13 w13 a1 hp hS => ?_)
      have hQ13 := hM11
      obtain ⟨hM11, hU13⟩ := hp
      have hB := But.new hB hU13 (fun i e => by rw [e]; exact hLhM11) (Nat.le_refl _)
      have hW := hW.butH hU13 hQ13 (by decide) (by decide)
      refine nil_ok (reg_seq ?_)
      refine sI hS (runs_move rfl) fun _ hS => ?_
      refine sI hS (runs_loadRow rfl hM11 Tryz.underlying25 rfl (by rw [infHash, U8_length, hx32])) fun _ hS => ?_
      refine seq_op hS (by decide) (runs_call (args := [.pointer (some ⟨w3.heap.size, 0, none⟩), .agg (U8 x).toArray]) goes22 rfl (wr_hash hx32 hW (by simp only [List.length_append]; omega))) (fun v15 w15 a1 hp hS => ?_)
      obtain ⟨hW, hK15⟩ := hp
      have hB := (hBb1.trans (hB.mono hBsz1)).trans hK15
      refine nil_ok (reg_seq ?_)
      refine sI hS (runs_add (r := ((i + 1 : Nat) : Int)) rfl rfl (by simp [IntKind.wrap, IntKind.bits, IntKind.signed]; omega)) fun _ hS => ?_
      refine sI hS (runs_move rfl) fun _ hS => ?_
      exact nil_ok ⟨_, by omega, i + 1, by omega, rfl, hB, by rw [List.take_add_one, hx, Option.toList_some, List.flatten_append, List.flatten_singleton, ← List.append_assoc]; exact hW, hS.only _ ⟨rfl, rfl, rfl, rfl, trivial⟩⟩
    refine sI hS (lssF rfl rfl (by omega)) fun _ hS => ?_
    obtain rfl : i = c.bs.length := by omega
    refine nil_ok ⟨_, hS.eval rfl, fun _ => ?_, fun h => by simp at h⟩
    have hB := hBb1
    rw [List.take_length] at hW
    refine qx_seq (reg_seq ?_)
    refine sI hS (runs_move rfl) fun _ hS => ?_
    refine sI hS (runs_call (args := [.pointer (some ⟨w3.heap.size, 0, none⟩)]) goes23 rfl (wr_done hW)) fun _ hS => ?_
    refine sI hS (runs_assign rfl) fun _ hS => ?_
    refine sI hS (runs_assign rfl) fun _ hS => ?_
    have hfin : S (pre ++ c.bs.flatten) = putC c := by
      unfold putC; rw [if_pos hr, ← hpre]; simp [bytesC, h67]
    exact nil_ok (qx_ret (ret2 (t := 2) (u := 3) (by kernel_rfl) hS rfl rfl ⟨_, rfl, by rw [chkC_ok hr, hfin], hBpre0.trans (hB.mono hBpre0.size)⟩))
  · skip
    rw [Bool.eq_false_iff.2 hr] at hS
    refine sI hS (runs_not (b := false) rfl) fun _ hS => ?_
    refine nil_ok (wp_cond_true (hS.eval rfl) (qx_seq (reg_seq ?_)))
    refine sI hS (runs_assign rfl) fun _ hS => ?_
    refine sI hS (runs_assign rfl) fun _ hS => ?_
    exact nil_ok (qx_ret (ret2 (t := 2) (u := 3) (by kernel_rfl) hS rfl rfl ⟨_, rfl, by rw [chkC_bad hr]; unfold putC; rw [if_neg hr]; rfl, hB⟩))
end Go.Proofs.YtooeahpkhocaeaaGreatDoor
