/- How messages and numbers come in. No condition. -/
import Derived.Test.YtooeahpkhocaeaaGreatDoorJ25
import Derived.Test.YtooeahpkhocaeaaGreatDoorJ00
import Derived.Test.YtooeahpkhocaeaaGreatDoorJ29
import Derived.Test.YtooeahpkhocaeaaGreatDoorJ27
import Derived.Test.YtooeahpkhocaeaaGreatDoorJ19
namespace Go.Proofs.YtooeahpkhocaeaaGreatDoor
open Go.ChangeShapes Go.WideShapes Go.ChangeAt Go.RowKit
set_option maxRecDepth 100000

def FitsE (m : E) : Prop := (-9223372036854775808 ≤ m.1 ∧ m.1 ≤ 9223372036854775807) ∧ (-9223372036854775808 ≤ m.2.1 ∧ m.2.1 ≤ 9223372036854775807) ∧ -9223372036854775808 ≤ m.2.2 ∧ m.2.2 ≤ 9223372036854775807
section
variable {H : Type} {enc : TypeId × Value → H} {W : World} {base b0 : Nat} {r : Reach} {sp : Nat → Bool} {held : Bool} {v : Value} {d : DataW H} {p : List MemPlace}
theorem open_msg0F {fuel : Nat} {cs : List Value} {x : DataW H × List MemPlace} (h : DataW.trod enc Tryz.prog W base sp held fuel 81 cs = some x) : ∃ e : E, cs = encE e ∧ FitsE e := by
  obtain ⟨xs, n, _, _, hl, hlen, hf⟩ := DataW.trod_struct Tryz.underlying81 h
  rw [ce41] at hl
  match cs, hl with
  | [c0, c1, c2], _ =>
    have f0 : DataW.trod enc Tryz.prog W base sp held n 3 (([c0, c1, c2].drop 0).take (Tryz.prog.cellsOf 3)) = xs[0]? := hf 0 _ rfl
    have f1 : DataW.trod enc Tryz.prog W base sp held n 3 (([c0, c1, c2].drop 1).take (Tryz.prog.cellsOf 3)) = xs[1]? := hf 1 _ rfl
    have f2 : DataW.trod enc Tryz.prog W base sp held n 2 (([c0, c1, c2].drop 2).take (Tryz.prog.cellsOf 2)) = xs[2]? := hf 2 _ rfl
    rw [ce3] at f0 f1
    rw [ce2] at f2
    match xs, hlen with
    | [x0, x1, x2], _ =>
      obtain ⟨a, ha, _, haw⟩ := DataW.trod_int und3 f0
      obtain ⟨b, hb, _, hbw⟩ := DataW.trod_int und3 f1
      obtain ⟨c, hc, _, hcw⟩ := DataW.trod_int und2 f2
      simp at ha hb hc
      exact ⟨(a, b, c), by simp [encE, ha, hb, hc], ⟨bounds_i64 haw, bounds_i64 hbw, bounds_i64 hcw⟩⟩
theorem open_msgsF {fuel : Nat} {c1 : Value} {x : DataW H × List MemPlace} (h : DataW.trod enc Tryz.prog W base sp held fuel 30 [c1] = some x) (hlt : ∀ q ∈ x.2, q.block < W.heap.size) : ∃ es : List E, Edges W c1 es ∧ ∀ e ∈ es, FitsE e := by
  rcases DataW.trod_slice und32 h with ⟨hc, _⟩ | ⟨a, len, cap, elems, rest, n, _, hc, hx, _, hl, hm, hel, hcell, _⟩
  · simp only [List.cons.injEq, and_true] at hc
    subst hc
    exact ⟨[], edges_nil W, fun e he => by simp at he⟩
  · simp only [List.cons.injEq, and_true] at hc
    subst hc
    rw [ce41] at hcell hx
    have hget : ∀ i, i < len → ∃ e : E, (∀ j u, (encE e)[j]? = some u → W.cell? ((a.add (i * 3)).add j) = some u) ∧ FitsE e := fun i hi => by
      have h1 := hcell i hi
      rw [List.getElem?_eq_getElem (by omega)] at h1
      rw [Option.bind_eq_some_iff] at h1
      obtain ⟨cs, hcs, ht⟩ := h1
      obtain ⟨e, rfl, hew⟩ := open_msg0F ht
      exact ⟨e, cells3 hcs, hew⟩
    obtain ⟨f, hf, hfw⟩ : ∃ f : Nat → E, (∀ i, i < len → ∀ j u, (encE (f i))[j]? = some u → W.cell? ((a.add (i * 3)).add j) = some u) ∧ ∀ i, i < len → FitsE (f i) :=
      ⟨fun i => if h : i < len then (hget i h).choose else (0, 0, 0), fun i hi => by simp only [hi, dif_pos]; exact (hget i hi).choose_spec.1, fun i hi => by simp only [hi, dif_pos]; exact (hget i hi).choose_spec.2⟩
    refine ⟨(List.range len).map f, ⟨some a, cap, by simp, by simpa using hl, hm, fun h0 => ?_⟩, fun e he => by obtain ⟨i, hi, rfl⟩ := List.mem_map.1 he; exact hfw i (List.mem_range.1 hi)⟩
    simp only [List.length_map, List.length_range] at h0
    obtain ⟨b, off, spot⟩ := a
    have hspot : spot = none := by
      have := hf 0 h0 0 _ rfl
      simpa [Addr.add] using World.cell?_spot this
    subst hspot
    refine ⟨b, off, rfl, ?_, fun j u hj => ?_⟩
    · refine hlt (.cell b off) ?_
      rw [hx]
      exact List.mem_append_left _ (MemPlace.mem_row.2 ⟨0, by omega, by simp⟩)
    · have hj3 : j < len * 3 := by have := (List.getElem?_eq_some_iff.1 hj).1; rw [cellsE_length] at this; simpa using this
      have hq : j / 3 < len := by omega
      have h1 := cellsE_get ((List.range len).map f) (j / 3) (f (j / 3)) (by simp [hq])
      have h2 : (encE (f (j / 3)))[j % 3]? = some u := by
        rw [← h1, List.getElem?_take, if_pos (Nat.mod_lt _ (by omega)), List.getElem?_drop, show j / 3 * 3 + j % 3 = j by omega]
        exact hj
      have h3 := hf (j / 3) hq (j % 3) u h2
      rw [add_lit', add_lit'] at h3
      rw [show off + j / 3 * 3 + j % 3 = off + j by omega] at h3
      exact h3
end
end Go.Proofs.YtooeahpkhocaeaaGreatDoor
/- Layer 12: how a commitment lies in memory. No condition. -/
namespace Go.Proofs.YtooeahpkhocaeaaGreatDoor
open Go.RowKit
set_option maxRecDepth 100000

def cmc (c : Cm) (v : Value) : List Value := .int .i64 c.w :: .int .i64 c.st :: (U8 c.root ++ [v])
theorem cmc_len {c : Cm} {v : Value} (h : c.root.length = 32) : (cmc c v).length = 35 := by simp [cmc, h]
theorem cm_v {c : Cm} {v : Value} (h : c.root.length = 32) : (cmc c v)[34]? = some v := by
  show (U8 c.root ++ [v])[32]? = some v
  rw [List.getElem?_append_right (by rw [U8_length]; omega), U8_length, h]; rfl
theorem cm_root {w : World} {g : Nat} {t : TypeId} {c : Cm} {v : Value} (hg : Has w g t (cmc c v)) (h : c.root.length = 32) : w.rangeAt g (0 + 2) (U8 c.root) := by
  have := hg.range 2 32
  rw [show ((cmc c v).drop 2).take 32 = U8 c.root by
    show (U8 c.root ++ [v]).take 32 = _
    rw [List.take_left' (by rw [U8_length, h])]] at this
  exact this
theorem cm_one {c : Cm} {v : Value} (hv : v.oneCell' = true) : (cmc c v).all (·.oneCell') = true := by
  have := U8_one c.root
  simp only [cmc, List.all_cons, List.all_append, List.all_nil, hv, Bool.and_true, Bool.and_eq_true]
  exact ⟨rfl, rfl, List.all_eq_true.2 this⟩
theorem cm_set {c : Cm} {v v' : Value} (h : c.root.length = 32) : (cmc c v).set 34 v' = cmc c v' := by
  show .int .i64 c.w :: .int .i64 c.st :: (U8 c.root ++ [v]).set 32 v' = _
  rw [List.set_append_right _ _ (by rw [U8_length]; omega), U8_length, h]; rfl
theorem noCm_len : noCm.root.length = 32 := by decide
theorem szC : (Tryz.prog.info? 28).map (·.size) = some 35 := by kernel_rfl
theorem zoC : zeroOf Tryz.prog 28 = some (.agg (cmc noCm (.slice none 0 0)).toArray) := by kernel_rfl
theorem foC_0 : fieldOff Tryz.prog 28 0 = some 0 := by kernel_rfl
theorem foC_1 : fieldOff Tryz.prog 28 1 = some 1 := by kernel_rfl
theorem foC_2 : fieldOff Tryz.prog 28 2 = some 2 := by kernel_rfl
theorem foC_3 : fieldOff Tryz.prog 28 3 = some 34 := by kernel_rfl
theorem pl924 : (match Tryz.prog.underlying 26 with | some (.struct _) => true | some (.array _ _) => true | none => true | _ => false) = false := by kernel_rfl
theorem s1_924 : (Tryz.prog.info? 26).map (·.size) = some 1 := by kernel_rfl
theorem undHs : Tryz.prog.underlying 26 = some (.slice 25) := by kernel_rfl
theorem undLMM : Tryz.prog.underlying 23 = some (.slice 30) := by kernel_rfl
theorem undLV : Tryz.prog.underlying 22 = some (.slice 77) := by kernel_rfl
theorem infLM : (Tryz.prog.info? 30).map (fun i => (i.zero, i.size, i.bytes)) = some (some (.slice none 0 0), 1, 24) := by kernel_rfl
theorem szLM : (Tryz.prog.info? 30).map (·.size) = some 1 := by kernel_rfl
theorem plLM : (match Tryz.prog.underlying 30 with | some (.struct _) => true | some (.array _ _) => true | none => true | _ => false) = false := by kernel_rfl
theorem built_C3a (a b : Int) (bs : List (List Nat)) (x0 x1 x2 x3 x4 x5 x6 x7 x8 x9 x10 x11 x12 x13 x14 x15 x16 x17 x18 x19 x20 x21 x22 x23 x24 x25 x26 x27 x28 x29 x30 x31 : Nat) : Tryz.prog.built 28 [(0, .int .i64 a), (1, .int .i64 b), (2, .agg (U8 [x0, x1, x2, x3, x4, x5, x6, x7, x8, x9, x10, x11, x12, x13, x14, x15, x16, x17, x18, x19, x20, x21, x22, x23, x24, x25, x26, x27, x28, x29, x30, x31]).toArray)] = some (cmc ⟨a, b, [x0, x1, x2, x3, x4, x5, x6, x7, x8, x9, x10, x11, x12, x13, x14, x15, x16, x17, x18, x19, x20, x21, x22, x23, x24, x25, x26, x27, x28, x29, x30, x31], bs⟩ (.slice none 0 0)).toArray := by kernel_rfl
theorem built_C3 {a b : Int} {r : List Nat} {bs : List (List Nat)} (h : r.length = 32) : Tryz.prog.built 28 [(0, .int .i64 a), (1, .int .i64 b), (2, .agg (U8 r).toArray)] = some (cmc ⟨a, b, r, bs⟩ (.slice none 0 0)).toArray := by
  match r, h with
  | [x0, x1, x2, x3, x4, x5, x6, x7, x8, x9, x10, x11, x12, x13, x14, x15, x16, x17, x18, x19, x20, x21, x22, x23, x24, x25, x26, x27, x28, x29, x30, x31], _ => exact built_C3a a b bs x0 x1 x2 x3 x4 x5 x6 x7 x8 x9 x10 x11 x12 x13 x14 x15 x16 x17 x18 x19 x20 x21 x22 x23 x24 x25 x26 x27 x28 x29 x30 x31
theorem built_B (A : Option Addr) (n k : Nat) (bs : List (List Nat)) : Tryz.prog.built 28 [(3, .slice A n k)] = some (cmc ⟨0, 0, zero32, bs⟩ (.slice A n k)).toArray := by kernel_rfl
/-- The value u is the commitment c. -/
def CmV (w : World) (u : Value) (c : Cm) : Prop := ∃ v, u = .agg (cmc c v).toArray ∧ Hashes w v c.bs ∧ c.root.length = 32 ∧ Sha.Bytes c.root
theorem CmV.kept {w w' : World} {u : Value} {c : Cm} (h : CmV w u c) (k : Below w.heap.size w w') : CmV w' u c := by
  obtain ⟨v, rfl, h1, h2, h3⟩ := h
  exact ⟨v, rfl, h1.kept k, h2, h3⟩
theorem CmV.ok {w : World} {u : Value} {c : Cm} (h : CmV w u c) : c.Ok := by
  obtain ⟨v, rfl, ⟨_, _, _, _, _, h5, _⟩, h2, h3⟩ := h
  exact ⟨⟨h2, h3⟩, h5⟩
theorem hashes_nil (w : World) : Hashes w (.slice none 0 0) [] := ⟨none, 0, rfl, Nat.le_refl _, by unfold maxLen; omega, by simp, fun h => absurd h (by simp)⟩
theorem cmv_no (w : World) : CmV w (.agg (cmc noCm (.slice none 0 0)).toArray) noCm := ⟨_, rfl, hashes_nil w, by decide, by unfold Sha.Bytes noCm zero32; intro x hx; rw [List.mem_replicate] at hx; omega⟩
/-- A slice of slices of messages. -/
def Outs (w : World) (v : Value) (ls : List (List E)) : Prop :=
  ∃ (A : Option Addr) (c : Nat) (vs : List Value), v = .slice A ls.length c ∧ ls.length ≤ c ∧ c ≤ maxLen ∧ vs.length = ls.length ∧ (0 < ls.length → ∃ b o, A = some ⟨b, o, none⟩ ∧ b < w.heap.size ∧ w.rangeAt b o vs) ∧ ∀ (i : Nat) (l : List E), ls[i]? = some l → ∃ u, vs[i]? = some u ∧ Edges w u l
theorem Outs.kept {w w' : World} {v : Value} {ls : List (List E)} (h : Outs w v ls) (k : Below w.heap.size w w') : Outs w' v ls := by
  obtain ⟨A, c, vs, rfl, h1, h2, h3, h4, h5⟩ := h
  refine ⟨A, c, vs, rfl, h1, h2, h3, fun hp => ?_, fun i l hi => ?_⟩
  · obtain ⟨b, o, rfl, hb, hr⟩ := h4 hp
    exact ⟨b, o, rfl, Nat.lt_of_lt_of_le hb k.size, range_below hr k hb⟩
  · obtain ⟨u, hu, hE⟩ := h5 i l hi
    exact ⟨u, hu, hE.kept k⟩
def putC (c : Cm) : ByteArray := if rightC c = true then S (bytesC c) else S []
def chkC (c : Cm) : Int := if rightC c = true then 0 else 120
theorem chkC_ok {c : Cm} (h : rightC c = true) : chkC c = 0 := if_pos h
theorem chkC_bad {c : Cm} (h : ¬ rightC c = true) : chkC c = 120 := if_neg h
theorem bl_putC {c : Cm} (h : rightC c = true) (ho : c.Ok) : bl (putC c) = bytesC c := by unfold putC; rw [if_pos h, bl_S (bytesC_lt ho)]
/-- What Make makes of vertices and messages; whether a commitment keeps them. -/
def makeM (a b : Int) (l : List Vx) (outs : List (List E)) : Cm := ⟨a, b, rootX l, outs.map rootM⟩
def keepsB (c : Cm) (l : List Vx) (outs : List (List E)) : Bool := decide (c.root = rootX l) && decide (c.bs = outs.map rootM)
/-- Its numbers are whole numbers of 64 bits. -/
def FitsC (c : Cm) : Prop := (-9223372036854775808 ≤ c.w ∧ c.w ≤ 9223372036854775807) ∧ -9223372036854775808 ≤ c.st ∧ c.st ≤ 9223372036854775807
theorem fitsC_right {c : Cm} (h : rightC c = true) : FitsC c := by
  obtain ⟨h1, h2, h3, h4, _, _⟩ := (rightC_iff c).1 h
  exact ⟨⟨by omega, by omega⟩, by omega, by omega⟩
def FitsO (outs : List (List E)) : Prop := ∀ m ∈ outs, m.length ≤ 10000 ∧ FitsM m
/-- What is asked of the program's calls. -/
def CPutC : Prop := ∀ (c : Cm) (u : Value) (w : World), CmV w u c → c.bs.length ≤ 10000 → FitsC c → Ans 11 [u] w (fun r w' => r = .tuple #[.string (putC c), .int .i64 (chkC c)] ∧ Below w.heap.size w w')
def CGetC : Prop := ∀ (s : ByteArray) (w : World), s.size ≤ 20000 → Ans 12 [.string s] w (fun r w' => ∃ u, r = .tuple #[u, .int .i64 ((getC (bl s)).2 : Int)] ∧ CmV w' u (getC (bl s)).1 ∧ Below w.heap.size w w')
def CMakeC : Prop := ∀ (a b : Int) (l : List Vx) (outs : List (List E)) (vl vo : Value) (w : World), -9223372036854775808 ≤ a ∧ a ≤ 9223372036854775807 → -9223372036854775808 ≤ b ∧ b ≤ 9223372036854775807 → Verts w vl l → l.length ≤ 10000 → Outs w vo outs → outs.length ≤ 10000 → FitsO outs → Kept w → Ans 5 [.int .i64 a, .int .i64 b, vl, vo] w (fun r w' => ∃ u, r = .tuple #[u, .int .i64 (chkC (makeM a b l outs))] ∧ CmV w' u (if rightC (makeM a b l outs) = true then makeM a b l outs else noCm) ∧ Below w.heap.size w w')
def CKeepsC : Prop := ∀ (c : Cm) (l : List Vx) (outs : List (List E)) (u vl vo : Value) (w : World), CmV w u c → c.bs.length ≤ 10000 → Verts w vl l → l.length ≤ 10000 → Outs w vo outs → outs.length ≤ 10000 → FitsO outs → Kept w → Ans 8 [u, vl, vo] w (fun r w' => r = .bool (keepsB c l outs) ∧ Below w.heap.size w w')
def CAwkC : Prop := ∀ (w : World), Kept w → Ans 4 [] w (fun u w' => u = .bool true ∧ Below w.heap.size w w')
def RMakeC : Prop := ∀ (a b : Int) (l : List Vx) (outs : List (List E)) (vl vo : Value) (w : World), Verts w vl l → l.length ≤ 10000 → Outs w vo outs → outs.length ≤ 10000 → FitsO outs → Kept w → Ans 6 [.int .i64 a, .int .i64 b, vl, vo] w (fun r w' => CmV w' r (makeM a b l outs) ∧ Below w.heap.size w w')
end Go.Proofs.YtooeahpkhocaeaaGreatDoor
