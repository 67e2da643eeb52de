/- Layer 10: Rows and Root. Conditions: at most 100000 vertices. -/
import Derived.Test.YthkbnbnfjnliaaaGreatDoorJ28
import Derived.Test.YthkbnbnfjnliaaaGreatDoorYBMath
import Derived.Test.YthkbnbnfjnliaaaGreatDoorJ25
import Derived.Test.YthkbnbnfjnliaaaGreatDoorJ18
import Derived.Test.YthkbnbnfjnliaaaGreatDoorJ26
import Derived.Test.YthkbnbnfjnliaaaGreatDoorJ05
import Derived.ProofKit
import Derived.LaidMore
import Derived.OpenShut
import Derived.ShutString
import Derived.Stop.Joined
import Derived.Test.YthkbnbnfjnliaaaGreatDoorJ07
import Derived.Test.YthkbnbnfjnliaaaGreatDoorJ08
import Derived.ChangeOld
import Derived.Below
import Derived.Test.YthkbnbnfjnliaaaGreatDoorJ20
namespace Go.Proofs.YthkbnbnfjnliaaaGreatDoor
open Go.RowKit
set_option maxRecDepth 100000

theorem strs_ownR {w : World} {B n : Nat} {v : Value} {ss : List ByteArray} (h : w.ownsRow B 9 1 v n (ss.map Value.string)) (hn : ss.length = n) : Strs w v ss := by
  subst hn
  rcases h.2 with ⟨rfl, h0⟩ | ⟨g, c, cur, rfl, hb, hg, hc, hm, hs, ht⟩
  · exact ⟨none, 0, by rw [h0], by omega, by unfold maxLen; omega, fun h => by omega⟩
  · refine ⟨some ⟨g, 0, none⟩, c, rfl, hc, hm, fun hp => ⟨g, 0, rfl, (Array.getElem?_eq_some_iff.1 hg).1, fun i hi => ?_⟩⟩
    obtain ⟨g2, c2, e, _, _, hr⟩ := owns_rowK h hp
    simp only [Value.slice.injEq, Option.some.injEq, Addr.mk.injEq] at e
    obtain ⟨⟨rfl, _⟩, _⟩ := e
    exact hr i _ (by simp [List.getElem?_map, List.getElem?_eq_getElem hi, List.getD])
section
variable {L : List (Nat × Value)} {w : World} {ty : TypeId}
theorem runs_oneSt {x : Operand} {s : ByteArray} (hx : vals L x = some (.string s)) : Runs Tryz.prog (.buildSlice 39 1 #[(0, x)]) ty L w (fun v w' => ∃ g2, v = .slice (some ⟨g2, 0, none⟩) 1 1 ∧ Has w' g2 9 [.string s] ∧ Below w.heap.size w w') := by
  obtain ⟨i48, hi48, hz48, hs48, hb48⟩ := info_parts infStr
  exact (runs_buildSliceG (sz := 1) (pv := [(0, .string s)]) (by simp [hx]) undStrs hi48 hz48 hs48 (by omega) (by omega) (cells := #[.string s]) (by kernel_rfl)).mono (by rintro v w5 ⟨rfl, rfl⟩; exact ⟨_, rfl, Has.new w 9 [.string s], (Below.refl _ _).alloc (Nat.le_refl _) _⟩)
end
end Go.Proofs.YthkbnbnfjnliaaaGreatDoor
/- Layer 11: what the program's calls are asked to answer. No condition. -/
namespace Go.Proofs.YthkbnbnfjnliaaaGreatDoor
open Go.RowKit
set_option maxRecDepth 100000

theorem goes10 : Goes Tryz.prog 10 := goes_of Tryz.func10 (by kernel_rfl) rfl
theorem goes11 : Goes Tryz.prog 11 := goes_of Tryz.func11 (by kernel_rfl) rfl
theorem goes12 : Goes Tryz.prog 12 := goes_of Tryz.func12 (by kernel_rfl) rfl
theorem goes13 : Goes Tryz.prog 13 := goes_of Tryz.func13 (by kernel_rfl) rfl
theorem goes14 : Goes Tryz.prog 14 := goes_of Tryz.func14 (by kernel_rfl) rfl
theorem goes15 : Goes Tryz.prog 15 := goes_of Tryz.func15 (by kernel_rfl) rfl
theorem goes16 : Goes Tryz.prog 16 := goes_of Tryz.func16 (by kernel_rfl) rfl
theorem goes17 : Goes Tryz.prog 17 := goes_of Tryz.func17 (by kernel_rfl) rfl
theorem goes18 : Goes Tryz.prog 18 := goes_of Tryz.func18 (by kernel_rfl) rfl
theorem goes19 : Goes Tryz.prog 19 := goes_of Tryz.func19 (by kernel_rfl) rfl
theorem goes20 : Goes Tryz.prog 20 := goes_of Tryz.func20 (by kernel_rfl) rfl
theorem goes21 : Goes Tryz.prog 21 := goes_of Tryz.func21 (by kernel_rfl) rfl
theorem goes28 : Goes Tryz.prog 28 := goes_of Tryz.func28 (by kernel_rfl) rfl
theorem goes29 : Goes Tryz.prog 29 := goes_of Tryz.func29 (by kernel_rfl) rfl
theorem goes40 : Goes Tryz.prog 40 := goes_of Tryz.func40 (by kernel_rfl) rfl
theorem goes42 : Goes Tryz.prog 42 := goes_of Tryz.func42 (by kernel_rfl) rfl
theorem goes43 : Goes Tryz.prog 43 := goes_of Tryz.func43 (by kernel_rfl) rfl
theorem goes44 : Goes Tryz.prog 44 := goes_of Tryz.func44 (by kernel_rfl) rfl
theorem goes50 : Goes Tryz.prog 50 := goes_of Tryz.func50 (by kernel_rfl) rfl
/-- Each field within 64 bits. -/
def FitsM (l : List E) : Prop := ∀ m ∈ l, (-9223372036854775808 ≤ m.1 ∧ m.1 ≤ 9223372036854775807) ∧ (-9223372036854775808 ≤ m.2.1 ∧ m.2.1 ≤ 9223372036854775807) ∧ -9223372036854775808 ≤ m.2.2 ∧ m.2.2 ≤ 9223372036854775807
theorem FitsM.sort {l : List E} (h : FitsM l) : FitsM (sortM l) := fun m hm => h m (sortM_mem.1 hm)
theorem FitsM.sub {l m : List E} (h : FitsM l) (hs : ∀ x ∈ m, x ∈ l) : FitsM m := fun x hx => h x (hs x hx)
def putM (l : List E) : ByteArray := if rightM l = true then S (bytesM l) else S []
def chkM (l : List E) : Int := if rightM l = true then 0 else 110
def rootM (l : List E) : List Nat := Tree.root l.length (Tree.top (rowsM l))
theorem rootM_len (l : List E) : (rootM l).length = 32 := root_len _ _
theorem rootM_perm {l m : List E} (h : l.Perm m) : rootM l = rootM m := by unfold rootM; rw [rowsM_perm h, h.length_eq]
theorem chkM_perm {l m : List E} (h : l.Perm m) : chkM l = chkM m := by unfold chkM; rw [rightM_perm h]
theorem putM_perm {l m : List E} (h : l.Perm m) : putM l = putM m := by unfold putM; rw [rightM_perm h, bytesM_perm h]
theorem chkM_ok {l : List E} (h : rightM l = true) : chkM l = 0 := if_pos h
theorem chkM_bad {l : List E} (h : ¬ rightM l = true) : chkM l = 110 := if_neg h
theorem bl_putM {l : List E} (h : rightM l = true) : bl (putM l) = bytesM l := by unfold putM; rw [if_pos h, bl_S (bytesM_lt l)]
theorem rowsS_map (l : List E) : ((rowsM l).map S).map bl = rowsM l := by
  rw [List.map_map]
  conv => rhs; rw [← List.map_id (rowsM l)]
  refine List.map_congr_left (fun r hr => ?_)
  obtain ⟨m, _, rfl⟩ := List.mem_map.1 hr
  exact bl_S (rowM_lt m)
theorem rowsS_small {l : List E} (h : FitsM l) : ∀ s ∈ (rowsM l).map S, s.size ≤ 30 := fun s hs => by
  obtain ⟨r, hr, rfl⟩ := List.mem_map.1 hs
  obtain ⟨m, hm, rfl⟩ := List.mem_map.1 hr
  obtain ⟨h1, h2, h3⟩ := h m (sortM_mem.1 hm)
  rw [S_size]
  exact rowM_size (by omega) (by omega) h3.1 h3.2
theorem rowsS_root (l : List E) : Tree.root ((rowsM l).map S).length (Tree.top (((rowsM l).map S).map bl)) = rootM l := by
  rw [rowsS_map, List.length_map, rowsM_length]; rfl
/-- What is asked of the program's calls. -/
def PutC : Prop := ∀ (l : List E) (v : Value) (w : World), Edges w v l → l.length ≤ 10000 → Ans 10 [v] w (fun u w' => u = .tuple #[.string (putM l), .int .i64 (chkM l)] ∧ Below w.heap.size w w')
def GetC : Prop := ∀ (s : ByteArray) (w : World), s.size ≤ 10000 → Ans 16 [.string s] w (fun u w' => ∃ v, u = .tuple #[v, .int .i64 ((getM (bl s)).2 : Int)] ∧ Edges w' v (getM (bl s)).1 ∧ Below w.heap.size w w')
def ChkC : Prop := ∀ (l : List E) (v : Value) (w : World), Edges w v l → l.length ≤ 10000 → Ans 15 [v] w (fun u w' => u = .int .i64 (chkM l) ∧ Below w.heap.size w w')
def RowsC : Prop := ∀ (l : List E) (v : Value) (w : World), Edges w v l → l.length ≤ 10000 → FitsM l → Ans 21 [v] w (fun u w' => Strs w' u ((rowsM l).map S) ∧ Below w.heap.size w w')
def RootC : Prop := ∀ (l : List E) (v : Value) (w : World), Edges w v l → l.length ≤ 10000 → FitsM l → Kept w → Ans 12 [v] w (fun u w' => u = .agg (U8 (rootM l)).toArray ∧ Below w.heap.size w w')
def AwkC : Prop := ∀ (w : World), Kept w → Ans 9 [] w (fun u w' => u = .bool true ∧ Below w.heap.size w w')
end Go.Proofs.YthkbnbnfjnliaaaGreatDoor
/- How messages and numbers come in. No condition. -/
namespace Go.Proofs.YthkbnbnfjnliaaaGreatDoor
open Go.ChangeShapes Go.WideShapes Go.ChangeAt Go.RowKit
set_option maxRecDepth 100000

def FitsE (m : E) : Prop := (-9223372036854775808 ≤ m.1 ∧ m.1 ≤ 9223372036854775807) ∧ (-9223372036854775808 ≤ m.2.1 ∧ m.2.1 ≤ 9223372036854775807) ∧ -9223372036854775808 ≤ m.2.2 ∧ m.2.2 ≤ 9223372036854775807
section
variable {H : Type} {enc : TypeId × Value → H} {W : World} {base b0 : Nat} {r : Reach} {sp : Nat → Bool} {held : Bool} {v : Value} {d : DataW H} {p : List MemPlace}
theorem open_msg0F {fuel : Nat} {cs : List Value} {x : DataW H × List MemPlace} (h : DataW.trod enc Tryz.prog W base sp held fuel 43 cs = some x) : ∃ e : E, cs = encE e ∧ FitsE e := by
  obtain ⟨xs, n, _, _, hl, hlen, hf⟩ := DataW.trod_struct Tryz.underlying43 h
  rw [ce41] at hl
  match cs, hl with
  | [c0, c1, c2], _ =>
    have f0 : DataW.trod enc Tryz.prog W base sp held n 3 (([c0, c1, c2].drop 0).take (Tryz.prog.cellsOf 3)) = xs[0]? := hf 0 _ rfl
    have f1 : DataW.trod enc Tryz.prog W base sp held n 3 (([c0, c1, c2].drop 1).take (Tryz.prog.cellsOf 3)) = xs[1]? := hf 1 _ rfl
    have f2 : DataW.trod enc Tryz.prog W base sp held n 2 (([c0, c1, c2].drop 2).take (Tryz.prog.cellsOf 2)) = xs[2]? := hf 2 _ rfl
    rw [ce3] at f0 f1
    rw [ce2] at f2
    match xs, hlen with
    | [x0, x1, x2], _ =>
      obtain ⟨a, ha, _, haw⟩ := DataW.trod_int und3 f0
      obtain ⟨b, hb, _, hbw⟩ := DataW.trod_int und3 f1
      obtain ⟨c, hc, _, hcw⟩ := DataW.trod_int und2 f2
      simp at ha hb hc
      exact ⟨(a, b, c), by simp [encE, ha, hb, hc], ⟨bounds_i64 haw, bounds_i64 hbw, bounds_i64 hcw⟩⟩
theorem open_msgsF {fuel : Nat} {c1 : Value} {x : DataW H × List MemPlace} (h : DataW.trod enc Tryz.prog W base sp held fuel 22 [c1] = some x) (hlt : ∀ q ∈ x.2, q.block < W.heap.size) : ∃ es : List E, Edges W c1 es ∧ ∀ e ∈ es, FitsE e := by
  rcases DataW.trod_slice und32 h with ⟨hc, _⟩ | ⟨a, len, cap, elems, rest, n, _, hc, hx, _, hl, hm, hel, hcell, _⟩
  · simp only [List.cons.injEq, and_true] at hc
    subst hc
    exact ⟨[], edges_nil W, fun e he => by simp at he⟩
  · simp only [List.cons.injEq, and_true] at hc
    subst hc
    rw [ce41] at hcell hx
    have hget : ∀ i, i < len → ∃ e : E, (∀ j u, (encE e)[j]? = some u → W.cell? ((a.add (i * 3)).add j) = some u) ∧ FitsE e := fun i hi => by
      have h1 := hcell i hi
      rw [List.getElem?_eq_getElem (by omega)] at h1
      rw [Option.bind_eq_some_iff] at h1
      obtain ⟨cs, hcs, ht⟩ := h1
      obtain ⟨e, rfl, hew⟩ := open_msg0F ht
      exact ⟨e, cells3 hcs, hew⟩
    obtain ⟨f, hf, hfw⟩ : ∃ f : Nat → E, (∀ i, i < len → ∀ j u, (encE (f i))[j]? = some u → W.cell? ((a.add (i * 3)).add j) = some u) ∧ ∀ i, i < len → FitsE (f i) :=
      ⟨fun i => if h : i < len then (hget i h).choose else (0, 0, 0), fun i hi => by simp only [hi, dif_pos]; exact (hget i hi).choose_spec.1, fun i hi => by simp only [hi, dif_pos]; exact (hget i hi).choose_spec.2⟩
    refine ⟨(List.range len).map f, ⟨some a, cap, by simp, by simpa using hl, hm, fun h0 => ?_⟩, fun e he => by obtain ⟨i, hi, rfl⟩ := List.mem_map.1 he; exact hfw i (List.mem_range.1 hi)⟩
    simp only [List.length_map, List.length_range] at h0
    obtain ⟨b, off, spot⟩ := a
    have hspot : spot = none := by
      have := hf 0 h0 0 _ rfl
      simpa [Addr.add] using World.cell?_spot this
    subst hspot
    refine ⟨b, off, rfl, ?_, fun j u hj => ?_⟩
    · refine hlt (.cell b off) ?_
      rw [hx]
      exact List.mem_append_left _ (MemPlace.mem_row.2 ⟨0, by omega, by simp⟩)
    · have hj3 : j < len * 3 := by have := (List.getElem?_eq_some_iff.1 hj).1; rw [cellsE_length] at this; simpa using this
      have hq : j / 3 < len := by omega
      have h1 := cellsE_get ((List.range len).map f) (j / 3) (f (j / 3)) (by simp [hq])
      have h2 : (encE (f (j / 3)))[j % 3]? = some u := by
        rw [← h1, List.getElem?_take, if_pos (Nat.mod_lt _ (by omega)), List.getElem?_drop, show j / 3 * 3 + j % 3 = j by omega]
        exact hj
      have h3 := hf (j / 3) hq (j % 3) u h2
      rw [add_lit', add_lit'] at h3
      rw [show off + j / 3 * 3 + j % 3 = off + j by omega] at h3
      exact h3
theorem open_listF (hv : Value.okWide Tryz.prog W r b0 22 v) (h : DataW.Trod enc Tryz.prog W base sp held 22 v d p) (hlt : ∀ x ∈ p, x.block < W.heap.size) : ∃ es : List E, Edges W v es ∧ FitsM es := by
  obtain ⟨a, len, cap, rfl⟩ := okWide_slice und32 hv
  obtain ⟨fuel, hf⟩ := h
  have hf' : DataW.trod enc Tryz.prog W base sp held fuel 22 [.slice a len cap] = some (d, p) := hf
  exact open_msgsF hf' hlt
end
theorem open_u8 {H : Type} {enc : TypeId × Value → H} {W : World} {base b0 : Nat} {r : Reach} {sp : Nat → Bool} {held : Bool} {v : Value} {d : DataW H} {p : List MemPlace} (hv : Value.okWide Tryz.prog W r b0 5 v) (h : DataW.Trod enc Tryz.prog W base sp held 5 v d p) : ∃ n : Nat, n < 256 ∧ v = .int .u8 (n : Int) := by
  obtain ⟨n, rfl, _, _, wf⟩ := open_int undByte hv h
  have := bounds_u8 wf
  exact ⟨n.toNat, by omega, by rw [Int.toNat_of_nonneg this.1]⟩
end Go.Proofs.YthkbnbnfjnliaaaGreatDoor
/- What the card's listed table gives the walks: its 64 cells. No condition. -/
namespace Go.Proofs.YthkbnbnfjnliaaaGreatDoor
open Go.ChangeShapes Go.WideShapes Go.ChangeAt Go.RowKit

def laidK : List (String × DataW Unit) := [("modillion/hash.constants", Rows.laid_modillion_hash_constants)]
theorem own : ownKnob Tryz.prog.godebug = none := by kernel_rfl
theorem gK : Tryz.prog.globalNamed "modillion/hash.constants" = some 0 := by kernel_rfl
theorem tK : (Tryz.prog.globals[0]?).map (·.type) = some 145 := by kernel_rfl
theorem c60 : Tryz.prog.cellsOf 122 = 1 := by kernel_rfl
theorem und60 : Tryz.prog.underlying 122 = some (.int .u32) := by kernel_rfl

theorem datum_is : (Rows.laid_modillion_hash_constants : DataW Unit) = .agg (Sha.K.map fun n : Nat => .lit (.int .u32 (n : Int))) := by rfl

/-- The door's own heap meets the condition. -/
theorem door_met (os : Os) (args : Array Value) : laidMetH Tryz.prog laidK ((World.doorLaid Tryz.prog 400 os).forCall (fun _ _ => 0) ⟨#[], args, []⟩).memory :=
  laidMetH_of_parts3 (fuel := 8) (laidMet_of_run' 8 (by kernel_rfl) (by kernel_rfl)) (by kernel_rfl) (by kernel_rfl)

/-- What the condition gives the walks: the table's cells. -/
theorem kept_of_laid {W : World} (h : laidMetH Tryz.prog laidK W) : Kept W := by
  rw [MakeChecks.laidMetH_plain _ _ _ (by kernel_rfl)] at h
  obtain ⟨ps, ⟨g0, t0, cs0, f0, p0, q0, hg0, ht0, hv0, hd0, _, _⟩, _, _⟩ := h
  obtain rfl := Option.some.inj (gK.symm.trans hg0)
  obtain rfl := Option.some.inj (tK.symm.trans ht0)
  obtain ⟨xs, m, _, hx, hlen, hn, hel⟩ := DataW.trod_array und69 hd0
  rw [datum_is] at hx
  simp only [Prod.mk.injEq, DataW.agg.injEq] at hx
  intro i hi
  have h1 := hel i hi
  rw [c60] at h1
  have hxi : xs[i]? = some (xs[i]'(by omega)) := List.getElem?_eq_getElem _
  rw [hxi] at h1
  obtain ⟨n, e1, e2, _⟩ := DataW.trod_int und60 h1
  have hK : i < Sha.K.length := hi
  have h2 : (xs.map (·.1))[i]? = some (.lit (.int .u32 (Sha.K.getD i 0 : Nat))) := by
    rw [← hx.1, List.getElem?_map, List.getElem?_eq_getElem hK, List.getD_eq_getElem?_getD, List.getElem?_eq_getElem hK]
    rfl
  rw [List.getElem?_map, hxi, e2] at h2
  have hnK : n = (Sha.K.getD i 0 : Nat) := by simpa using h2
  rw [World.var?_cell hg0 hv0 i]
  have h3 : cs0.toList[i]? = some (.int .u32 n) := by
    have := congrArg (fun l => l[0]?) e1
    simp only [List.getElem?_take, List.getElem?_drop, Nat.mul_one, Nat.add_zero] at this
    simpa using this
  rw [← hnK]
  simpa using h3
end Go.Proofs.YthkbnbnfjnliaaaGreatDoor
/- How an argument that is a sum comes in: 32 bytes. No condition. -/
namespace Go.Proofs.YthkbnbnfjnliaaaGreatDoor
open Go.ChangeShapes Go.WideShapes Go.ChangeAt Go.RowKit

theorem laidOut : laidOutB Tryz.prog = true := by kernel_rfl
theorem c5 : Tryz.prog.cellsOf 5 = 1 := by kernel_rfl
theorem und4 : Tryz.prog.underlying 4 = some .bool := by kernel_rfl

end Go.Proofs.YthkbnbnfjnliaaaGreatDoor
/- The wire in layer 11: texts written and read. Conditions: at most 100000 bytes. -/
namespace Go.Proofs.YthkbnbnfjnliaaaGreatDoor
open Go.RowKit
set_option maxRecDepth 100000

theorem goes25 : Goes Tryz.prog 25 := goes_of Tryz.func25 (by kernel_rfl) rfl
theorem goes34 : Goes Tryz.prog 34 := goes_of Tryz.func34 (by kernel_rfl) rfl
theorem goes36 : Goes Tryz.prog 36 := goes_of Tryz.func36 (by kernel_rfl) rfl
theorem goes38 : Goes Tryz.prog 38 := goes_of Tryz.func38 (by kernel_rfl) rfl
theorem goes51 : Goes Tryz.prog 51 := goes_of Tryz.func51 (by kernel_rfl) rfl
theorem goes52 : Goes Tryz.prog 52 := goes_of Tryz.func52 (by kernel_rfl) rfl
theorem goes57 : Goes Tryz.prog 57 := goes_of Tryz.func57 (by kernel_rfl) rfl
theorem goes64 : Goes Tryz.prog 64 := goes_of Tryz.func64 (by kernel_rfl) rfl
theorem rdd_text {b e : Nat} {w : World} {s : ByteArray} {most : Int} (h : In w b s e) (hs : s.size ≤ 100000) (hm1 : -9223372036854775808 ≤ most) (hm2 : most ≤ 9223372036854775807) : Ans 36 [.pointer (some ⟨b, 0, none⟩), .int .i64 most] w (fun u w' => u = .string (textRes s e most).1 ∧ Rdd w b (textRes s e most).2.1 (textRes s e most).2.2 w') :=
  (inText_any b s e most w hs hm1 hm2 h).mono (by rintro x w' ⟨rfl, k⟩; exact ⟨_, rfl, rfl, k.1, fr_but k.2⟩)
theorem rdd_err {b e : Nat} {w : World} {s : ByteArray} (h : In w b s e) : Ans 38 [.pointer (some ⟨b, 0, none⟩)] w (Is (.int .i64 (e : Int)) w) :=
  (err_any b s e w h).mono (by rintro x w' ⟨rfl, rfl⟩; exact ⟨_, rfl, rfl, rfl⟩)
theorem textOf_rd (s : ByteArray) : bl (textOf s 40 (Wire.rd (bl s))).1 = (rdT 40 (bl s)).1 ∧ (textOf s 40 (Wire.rd (bl s))).2 = (rdT 40 (bl s)).2 := by
  unfold textOf rdT
  rw [bl_length]
  by_cases h1 : (Wire.rd (bl s)).2.2 = 0
  · by_cases h2 : 40 < (Wire.rd (bl s)).1
    · rw [if_neg (by simp [h1]), if_pos (by omega), if_neg (by simp [h1]), if_pos h2]; exact ⟨rfl, rfl⟩
    · by_cases h3 : s.size - (Wire.rd (bl s)).2.1 < (Wire.rd (bl s)).1
      · rw [if_neg (by simp [h1]), if_neg (by omega), if_pos h3, if_neg (by simp [h1]), if_neg h2, if_pos h3]; exact ⟨rfl, rfl⟩
      · rw [if_neg (by simp [h1]), if_neg (by omega), if_neg h3, if_neg (by simp [h1]), if_neg h2, if_neg h3]
        refine ⟨?_, rfl⟩
        rw [bl_sub, Nat.add_sub_cancel_left]
  · rw [if_pos h1, if_pos h1]; exact ⟨rfl, rfl⟩
/-- A text of at most 40 bytes that is read, by the plain mathematics. -/
theorem textRes40 (s : ByteArray) : bl (textRes s 0 40).1 = (rdT 40 (bl s)).1 ∧ (textRes s 0 40).2.2 = (rdT 40 (bl s)).2.2 ∧ bl (textRes s 0 40).2.1 = (bl s).drop (rdT 40 (bl s)).2.1 := by
  obtain ⟨t1, t2⟩ := textOf_rd s
  have e : textRes s 0 40 = ((textOf s 40 (Wire.rd (bl s))).1, cut s (textOf s 40 (Wire.rd (bl s))).2.1, (textOf s 40 (Wire.rd (bl s))).2.2) := by unfold textRes; rw [if_neg (by simp)]
  rw [e]
  exact ⟨t1, by rw [t2], by rw [bl_cut, t2]⟩
theorem numRes0 (s : ByteArray) : ((numRes s 0).2.2 = (Wire.rd (bl s)).2.2) ∧ ((Wire.rd (bl s)).2.2 = 0 → (numRes s 0).1 = (Wire.rd (bl s)).1 ∧ bl (numRes s 0).2.1 = (bl s).drop (Wire.rd (bl s)).2.1) := by
  unfold numRes
  rw [if_neg (by simp)]
  by_cases h : (Wire.rd (bl s)).2.2 = 0
  · rw [if_pos h]; exact ⟨h.symm, fun _ => ⟨rfl, by rw [bl_cut]⟩⟩
  · rw [if_neg h]; exact ⟨rfl, fun e => absurd e h⟩
end Go.Proofs.YthkbnbnfjnliaaaGreatDoor
/- Two sums are compared by their bytes. Conditions: 32 bytes each. -/
namespace Go.Proofs.YthkbnbnfjnliaaaGreatDoor
open Go.RowKit

theorem size5 (w : World) : (sizeOf 5).run Tryz.prog w = .ok 1 w := by
  obtain ⟨i, hi, _, hs, _⟩ := info5
  simp [sizeOf, typeInfo, hi, hs]
theorem part5 (cs : List Value) (i : Nat) (v : Value) (h : cs[i]? = some v) (w : World) : (part 5 cs.toArray i).run Tryz.prog w = .ok v w := by
  have hagg : (isAgg 5).run Tryz.prog w = .ok false w := by
    unfold isAgg
    rw [Sem.run_bind, run_underlying (show Tryz.prog.underlying 5 = some (.int .u8) by kernel_rfl) w]
    simp
  simp [part, Sem.run_bind, hagg, h]
theorem loop_eq (d : Nat) (a b : List Nat) (la : a.length = 32) (lb : b.length = 32) (w : World) : ∀ L : List Nat, (∀ i ∈ L, i < 32) →
    Sem.run Tryz.prog (forIn L ((none : Option Bool), ()) fun i __s => do
      let x ← part 5 (U8 a).toArray (i * 1)
      let y ← part 5 (U8 b).toArray (i * 1)
      let r ← Op.equalIn (d + 1) 5 x y
      if (!r) = true then pure (ForInStep.done (some false, ())) else pure (ForInStep.yield (none, ()))) w
    = .ok ((if L.all (fun i => a.getD i 0 == b.getD i 0) then none else some false), ()) w
  | [], _ => by simp
  | i :: L, h => by
    have hi : i < 32 := h i (by simp)
    have ih := loop_eq d a b la lb w L (fun j hj => h j (by simp [hj]))
    have ha := part5 (U8 a) i _ (U8_get (by omega)) w
    have hb := part5 (U8 b) i _ (U8_get (by omega)) w
    rw [List.forIn_cons]
    simp only [Sem.run_bind, Nat.mul_one, ha, hb, Result.andThen_ok, run_equalIn_int w d 5 .u8 .u8 _ _ (show Tryz.prog.underlying 5 = some (.int .u8) by kernel_rfl)]
    by_cases e : a.getD i 0 = b.getD i 0
    · have e1 : ((a.getD i 0 : Int) == (b.getD i 0 : Int)) = true := by rw [e]; simp
      have e2 : (a.getD i 0 == b.getD i 0) = true := by rw [e]; simp
      simp only [e1, Bool.not_true, Bool.false_eq_true, if_false, Sem.run_pure, Result.andThen_ok, List.all_cons, e2, Bool.true_and]
      simpa only [Nat.mul_one] using ih
    · have e1 : ((a.getD i 0 : Int) == (b.getD i 0 : Int)) = false := by rw [beq_eq_false_iff_ne]; omega
      have e2 : (a.getD i 0 == b.getD i 0) = false := by rw [beq_eq_false_iff_ne]; exact e
      simp only [e1, Bool.not_false, if_true, Sem.run_pure, Result.andThen_ok, List.all_cons, e2, Bool.false_and, Bool.false_eq_true, if_false]
theorem all_eq (a b : List Nat) (la : a.length = 32) (lb : b.length = 32) : (List.range' 0 32).all (fun i => a.getD i 0 == b.getD i 0) = (a == b) := by
  rw [Bool.eq_iff_iff, List.all_eq_true, beq_iff_eq]
  constructor
  · intro h
    apply List.ext_getElem (by omega)
    intro i h1 h2
    have := h i (by simp [List.mem_range'_1]; omega)
    rw [beq_iff_eq, List.getD_eq_getElem?_getD, List.getD_eq_getElem?_getD, List.getElem?_eq_getElem h1, List.getElem?_eq_getElem h2] at this
    simpa using this
  · rintro rfl i _
    simp
theorem run_eqArr (d : Nat) (a b : List Nat) (la : a.length = 32) (lb : b.length = 32) (w : World) : (Op.equalIn (d + 2) 29 (.agg (U8 a).toArray) (.agg (U8 b).toArray)).run Tryz.prog w = .ok (a == b) w := by
  rw [Op.equalIn]
  simp only [Sem.run_bind, run_underlying und25, Result.andThen_ok, size5, Std.Legacy.Range.forIn_eq_forIn_range']
  rw [show (List.range' 0 [:32].size) = List.range' 0 32 from rfl]
  have := loop_eq d a b la lb w (List.range' 0 32) (fun i hi => by simp [List.mem_range'_1] at hi; omega)
  rw [this, all_eq a b la lb]
  cases a == b <;> simp
/-- '==' of two sums. -/
theorem run_eqHash (a b : List Nat) (la : a.length = 32) (lb : b.length = 32) (w : World) : (binOp .eql 29 (.agg (U8 a).toArray) (.agg (U8 b).toArray)).run Tryz.prog w = .ok (.bool (a == b)) w := by
  rw [run_eql_struct]
  rw [run_eqArr 9998 a b la lb w]
  rfl
end Go.Proofs.YthkbnbnfjnliaaaGreatDoor
/- Layer 3: Check. Conditions: the table of constants lies as it was laid; a leaf of at most 100000 bytes, at most 1000 sums. -/
namespace Go.Proofs.YthkbnbnfjnliaaaGreatDoor
open Go.RowKit
set_option maxRecDepth 100000

section
variable {L : List (Nat × Value)} {w : World} {ty : TypeId}
theorem runs_eqHash {t' : TypeId} {X Y : Operand} {x y : List Nat} {r : Bool} (hx : vals L X = some (.agg (U8 x).toArray)) (hy : vals L Y = some (.agg (U8 y).toArray)) (lx : x.length = 32) (ly : y.length = 32) (hr : (x == y) = r) : Runs Tryz.prog (.binOp .eql 29 X Y t') ty L w (Is (.bool r) w) := fun o a K Q ho _ hL hK => by
  have ex := hL X (by simp [Op.operands]) _ hx
  have ey := hL Y (by simp [Op.operands]) _ hy
  have h := run_eqHash x y lx ly w
  have hg : (eqGuard .eql 29 X Y (.agg (U8 x).toArray) (.agg (U8 y).toArray)).run Tryz.prog w = .ok () w := by
    have hp : Tryz.prog.eqGuardType Tryz.prog.depth 26 = false := by kernel_rfl
    simp [eqGuard]
  unfold Oper.wp
  have : (execOp a.eval o).run Tryz.prog w = .ok (.value (.bool r)) w := by
    simp only [execOp, ho, ex, ey]
    simp only [Sem.run_bind, hg, Result.andThen_ok, h, hr, Sem.run_pure]
  rw [this]
  exact hK _ w ⟨rfl, rfl⟩
end
end Go.Proofs.YthkbnbnfjnliaaaGreatDoor
