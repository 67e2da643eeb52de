/- What the card's listed table gives the walks: its 64 cells. No condition. -/
import Derived.Test.YtooeahpkhocaeaaDoorJ05
import Derived.ProofKit
import Derived.LaidMore
import Derived.OpenShut
import Derived.ShutString
import Derived.Stop.Joined
import Derived.Test.YtooeahpkhocaeaaDoorJ07
import Derived.Test.YtooeahpkhocaeaaDoorJ08
import Derived.ChangeOld
import Derived.Below
import Derived.Test.YtooeahpkhocaeaaDoorCOwn
import Derived.Test.YtooeahpkhocaeaaDoorJ25
namespace Go.Proofs.YtooeahpkhocaeaaDoor
open Go.ChangeShapes Go.WideShapes Go.ChangeAt Go.RowKit

def laidK : List (String × DataW Unit) := [("modillion/hash.constants", Rows.laid_modillion_hash_constants)]
theorem own : ownKnob Tryd.prog.godebug = none := by kernel_rfl
theorem gK : Tryd.prog.globalNamed "modillion/hash.constants" = some 0 := by kernel_rfl
theorem tK : (Tryd.prog.globals[0]?).map (·.type) = some 137 := by kernel_rfl
theorem c60 : Tryd.prog.cellsOf 117 = 1 := by kernel_rfl
theorem und60 : Tryd.prog.underlying 117 = some (.int .u32) := by kernel_rfl

theorem datum_is : (Rows.laid_modillion_hash_constants : DataW Unit) = .agg (Sha.K.map fun n : Nat => .lit (.int .u32 (n : Int))) := by rfl

/-- The door's own heap meets the condition. -/
theorem door_met (os : Os) (args : Array Value) : laidMetH Tryd.prog laidK ((World.doorLaid Tryd.prog 400 os).forCall (fun _ _ => 0) ⟨#[], args, []⟩).memory :=
  laidMetH_of_parts3 (fuel := 8) (laidMet_of_run' 8 (by kernel_rfl) (by kernel_rfl)) (by kernel_rfl) (by kernel_rfl)

/-- What the condition gives the walks: the table's cells. -/
theorem kept_of_laid {W : World} (h : laidMetH Tryd.prog laidK W) : Kept W := by
  rw [MakeChecks.laidMetH_plain _ _ _ (by kernel_rfl)] at h
  obtain ⟨ps, ⟨g0, t0, cs0, f0, p0, q0, hg0, ht0, hv0, hd0, _, _⟩, _, _⟩ := h
  obtain rfl := Option.some.inj (gK.symm.trans hg0)
  obtain rfl := Option.some.inj (tK.symm.trans ht0)
  obtain ⟨xs, m, _, hx, hlen, hn, hel⟩ := DataW.trod_array und69 hd0
  rw [datum_is] at hx
  simp only [Prod.mk.injEq, DataW.agg.injEq] at hx
  intro i hi
  have h1 := hel i hi
  rw [c60] at h1
  have hxi : xs[i]? = some (xs[i]'(by omega)) := List.getElem?_eq_getElem _
  rw [hxi] at h1
  obtain ⟨n, e1, e2, _⟩ := DataW.trod_int und60 h1
  have hK : i < Sha.K.length := hi
  have h2 : (xs.map (·.1))[i]? = some (.lit (.int .u32 (Sha.K.getD i 0 : Nat))) := by
    rw [← hx.1, List.getElem?_map, List.getElem?_eq_getElem hK, List.getD_eq_getElem?_getD, List.getElem?_eq_getElem hK]
    rfl
  rw [List.getElem?_map, hxi, e2] at h2
  have hnK : n = (Sha.K.getD i 0 : Nat) := by simpa using h2
  rw [World.var?_cell hg0 hv0 i]
  have h3 : cs0.toList[i]? = some (.int .u32 n) := by
    have := congrArg (fun l => l[0]?) e1
    simp only [List.getElem?_take, List.getElem?_drop, Nat.mul_one, Nat.add_zero] at this
    simpa using this
  rw [← hnK]
  simpa using h3
end Go.Proofs.YtooeahpkhocaeaaDoor
/- How an argument that is a sum comes in: 32 bytes. No condition. -/
namespace Go.Proofs.YtooeahpkhocaeaaDoor
open Go.ChangeShapes Go.WideShapes Go.ChangeAt Go.RowKit

theorem laidOut : laidOutB Tryd.prog = true := by kernel_rfl
theorem c5 : Tryd.prog.cellsOf 5 = 1 := by kernel_rfl
theorem und4 : Tryd.prog.underlying 4 = some .bool := by kernel_rfl

end Go.Proofs.YtooeahpkhocaeaaDoor
/- How commitments and rows of rows of messages come in. No condition. -/
namespace Go.Proofs.YtooeahpkhocaeaaDoor
open Go.ChangeShapes Go.WideShapes Go.ChangeAt Go.RowKit
set_option maxRecDepth 100000

theorem undHc2 : Tryd.prog.underlying 23 = some (.array 32 5) := by kernel_rfl
theorem ceH : Tryd.prog.cellsOf 23 = 32 := by kernel_rfl
theorem ce5b : Tryd.prog.cellsOf 5 = 1 := by kernel_rfl
theorem ceLH : Tryd.prog.cellsOf 24 = 1 := by kernel_rfl
theorem ceLM : Tryd.prog.cellsOf 40 = 1 := by kernel_rfl
theorem ceC : Tryd.prog.cellsOf 26 = 35 := by kernel_rfl
theorem ce3c : Tryd.prog.cellsOf 3 = 1 := by kernel_rfl
theorem flat_at {α : Type} : ∀ (l : List (List α)) (sz : Nat), (∀ x ∈ l, x.length = sz) → ∀ (q : Nat) (x : List α), l[q]? = some x → (l.flatten.drop (q * sz)).take sz = x
  | [], _, _, q, x, h => by simp at h
  | y :: l, sz, hl, 0, x, h => by
    simp only [List.getElem?_cons_zero, Option.some.injEq] at h
    subst h
    have h1 := hl y (by simp)
    rw [Nat.zero_mul, List.drop_zero, List.flatten_cons, List.take_left' h1]
  | y :: l, sz, hl, q + 1, x, h => by
    have h1 := hl y (by simp)
    rw [List.flatten_cons, show (q + 1) * sz = sz + q * sz by rw [Nat.add_mul, Nat.one_mul, Nat.add_comm], ← List.drop_drop, List.drop_left' h1]
    exact flat_at l sz (fun z hz => hl z (by simp [hz])) q x (by simpa using h)
theorem flat_len {α : Type} : ∀ (l : List (List α)) (sz : Nat), (∀ x ∈ l, x.length = sz) → l.flatten.length = l.length * sz
  | [], _, _ => by simp
  | y :: l, sz, hl => by
    rw [List.flatten_cons, List.length_append, hl y (by simp), flat_len l sz (fun z hz => hl z (by simp [hz])), List.length_cons, Nat.add_mul, Nat.one_mul, Nat.add_comm]
section
variable {H : Type} {enc : TypeId × Value → H} {W : World} {base b0 : Nat} {r : Reach} {sp : Nat → Bool} {held : Bool} {v : Value} {d : DataW H} {p : List MemPlace}
theorem cellsN {n : Nat} {a : Addr} {cs : List Value} (h : W.cells? base a n = some cs) : cs.length = n ∧ ∀ j u, cs[j]? = some u → W.cell? (a.add j) = some u := by
  unfold World.cells? at h
  split at h
  · have hlen : cs.length = n := by simpa using Lib.mapM_length h
    refine ⟨hlen, fun j u hj => ?_⟩
    have hj3 : j < n := by have := (List.getElem?_eq_some_iff.1 hj).1; omega
    obtain ⟨b, hb, hf⟩ := Lib.mapM_at h j j (by simp [hj3])
    rw [hb] at hj
    rw [hf, ← hj]
  · cases h
/-- A slice of things of one size, each opened by a law of its own. -/
theorem open_sl {T SL : TypeId} {sz : Nat} (hu : Tryd.prog.underlying SL = some (.slice T)) (hc : Tryd.prog.cellsOf T = sz) (hsz : 0 < sz) {Pr : List Value → Prop} (hopen : ∀ (n : Nat) (cs : List Value) (x' : DataW H × List MemPlace), DataW.trod enc Tryd.prog W base sp held n T cs = some x' → (∀ q ∈ x'.2, q.block < W.heap.size) → Pr cs)
    {fuel : Nat} {c1 : Value} {x : DataW H × List MemPlace} (h : DataW.trod enc Tryd.prog W base sp held fuel SL [c1] = some x) (hlt : ∀ q ∈ x.2, q.block < W.heap.size) :
    ∃ (A : Option Addr) (c : Nat) (rows : List (List Value)), c1 = .slice A rows.length c ∧ rows.length ≤ c ∧ c ≤ maxLen ∧ (∀ cs ∈ rows, cs.length = sz ∧ Pr cs) ∧ (0 < rows.length → ∃ b o, A = some ⟨b, o, none⟩ ∧ b < W.heap.size ∧ W.rangeAt b o rows.flatten) := by
  rcases DataW.trod_slice hu h with ⟨hc1, _⟩ | ⟨a, len, cap, elems, rest, n, _, hc1, hx, _, hl, hm, hel, hcell, _⟩
  · simp only [List.cons.injEq, and_true] at hc1
    subst hc1
    exact ⟨none, 0, [], rfl, Nat.le_refl _, by unfold maxLen; omega, by simp, fun h0 => absurd h0 (by simp)⟩
  · simp only [List.cons.injEq, and_true] at hc1
    subst hc1
    rw [hc] at hcell hx
    have hget : ∀ i, i < len → ∃ cs : List Value, cs.length = sz ∧ (∀ j u, cs[j]? = some u → W.cell? ((a.add (i * sz)).add j) = some u) ∧ Pr cs := fun i hi => by
      have h1 := hcell i hi
      rw [List.getElem?_eq_getElem (by omega)] at h1
      rw [Option.bind_eq_some_iff] at h1
      obtain ⟨cs, hcs, ht⟩ := h1
      obtain ⟨h2, h3⟩ := cellsN hcs
      exact ⟨cs, h2, h3, hopen n cs _ ht (fun q hq => hlt q (by rw [hx]; exact List.mem_append_right _ (List.mem_flatMap.2 ⟨_, List.mem_append_left _ (List.getElem_mem _), hq⟩)))⟩
    obtain ⟨f, hf⟩ : ∃ f : Nat → List Value, ∀ i, i < len → (f i).length = sz ∧ (∀ j u, (f i)[j]? = some u → W.cell? ((a.add (i * sz)).add j) = some u) ∧ Pr (f i) :=
      ⟨fun i => if h : i < len then (hget i h).choose else [], fun i hi => by simp only [hi, dif_pos]; exact (hget i hi).choose_spec⟩
    have hrl : ∀ cs ∈ (List.range len).map f, cs.length = sz := fun cs hcs => by obtain ⟨i, hi, rfl⟩ := List.mem_map.1 hcs; exact (hf i (List.mem_range.1 hi)).1
    refine ⟨some a, cap, (List.range len).map f, by simp, by simpa using hl, hm, fun cs hcs => ⟨hrl cs hcs, by obtain ⟨i, hi, rfl⟩ := List.mem_map.1 hcs; exact (hf i (List.mem_range.1 hi)).2.2⟩, fun h0 => ?_⟩
    simp only [List.length_map, List.length_range] at h0
    obtain ⟨b, off, spot⟩ := a
    obtain ⟨f1, f2, _⟩ := hf 0 h0
    have hspot : spot = none := by
      have := f2 0 _ (List.getElem?_eq_getElem (by omega))
      simpa [Addr.add] using World.cell?_spot this
    subst hspot
    refine ⟨b, off, rfl, ?_, fun j u hj => ?_⟩
    · refine hlt (.cell b off) ?_
      rw [hx]
      exact List.mem_append_left _ (MemPlace.mem_row.2 ⟨0, by rw [hel]; exact Nat.lt_of_lt_of_le (Nat.mul_pos h0 hsz) (Nat.mul_le_mul_right _ (Nat.le_add_right _ _)), by simp⟩)
    · have hj3 : j < len * sz := by have := (List.getElem?_eq_some_iff.1 hj).1; rw [flat_len _ sz hrl] at this; simpa using this
      have hq : j / sz < len := Nat.div_lt_of_lt_mul (by rw [Nat.mul_comm]; exact hj3)
      have h1 := flat_at ((List.range len).map f) sz hrl (j / sz) (f (j / sz)) (by simp [hq])
      have hdm := Nat.div_add_mod' j sz
      have h2 : (f (j / sz))[j % sz]? = some u := by
        rw [← h1, List.getElem?_take, if_pos (Nat.mod_lt _ hsz), List.getElem?_drop, hdm]
        exact hj
      have h3 := (hf (j / sz) hq).2.1 (j % sz) u h2
      rw [add_lit', add_lit', Nat.add_assoc, hdm] at h3
      exact h3
theorem hash_cells2 {m : Nat} {cs : List Value} {x : DataW H × List MemPlace} (hf : DataW.trod enc Tryd.prog W base sp held m 23 cs = some x) : ∃ l : List Nat, l.length = 32 ∧ (∀ c ∈ l, c < 256) ∧ cs = U8 l := by
  obtain ⟨xs, m, _, _, hlen, hn, hel⟩ := DataW.trod_array undHc2 hf
  have hcs : cs.length = 32 := by rw [← ceH]; exact hlen
  have hcell : ∀ i, i < 32 → ∃ n : Nat, n < 256 ∧ cs[i]? = some (.int .u8 (n : Int)) := fun i hi => by
    have h1 := hel i hi
    rw [ce5b] at h1
    have hxi : xs[i]? = some (xs[i]'(by omega)) := List.getElem?_eq_getElem _
    rw [hxi] at h1
    obtain ⟨n, e1, _, wf⟩ := DataW.trod_int undByte h1
    have hb : 0 ≤ n ∧ n ≤ 255 := bounds_u8 wf
    refine ⟨n.toNat, by omega, ?_⟩
    have := congrArg (fun l => l[0]?) e1
    simp only [List.getElem?_take, List.getElem?_drop, Nat.mul_one, Nat.add_zero] at this
    rw [Int.toNat_of_nonneg hb.1]
    simpa using this
  refine ⟨cs.map (fun u => match u with | .int _ n => n.toNat | _ => 0), by simpa using hcs, ?_, ?_⟩
  · intro x hx
    obtain ⟨u, hu, rfl⟩ := List.mem_map.1 hx
    obtain ⟨i, hi, rfl⟩ := List.mem_iff_getElem.1 hu
    obtain ⟨n, hn256, e⟩ := hcell i (by omega)
    rw [List.getElem?_eq_getElem hi] at e
    injection e with e
    rw [e]
    simpa using hn256
  · unfold U8
    rw [List.map_map]
    apply List.ext_getElem (by simp)
    intro i h1 h2
    obtain ⟨n, _, e⟩ := hcell i (by omega)
    rw [List.getElem?_eq_getElem h1] at e
    injection e with e
    simp only [List.getElem_map, Function.comp]
    rw [e]
    simp
theorem open_hs {fuel : Nat} {c1 : Value} {x : DataW H × List MemPlace} (h : DataW.trod enc Tryd.prog W base sp held fuel 24 [c1] = some x) (hlt : ∀ q ∈ x.2, q.block < W.heap.size) : ∃ hs : List (List Nat), Hashes W c1 hs := by
  obtain ⟨A, c, rows, rfl, h1, h2, h3, h4⟩ := open_sl undHs ceH (by omega) (Pr := fun cs => ∃ l : List Nat, l.length = 32 ∧ (∀ c ∈ l, c < 256) ∧ cs = U8 l) (fun n cs x' ht _ => hash_cells2 ht) h hlt
  obtain ⟨g, hg⟩ : ∃ g : List Value → List Nat, ∀ cs ∈ rows, (g cs).length = 32 ∧ (∀ c ∈ g cs, c < 256) ∧ cs = U8 (g cs) :=
    by classical exact ⟨fun cs => if h : ∃ l : List Nat, l.length = 32 ∧ (∀ c ∈ l, c < 256) ∧ cs = U8 l then h.choose else [], fun cs hcs => by simp only [(h3 cs hcs).2, dif_pos]; exact (h3 cs hcs).2.choose_spec⟩
  have hfl : rows.flatten = U8 (rows.map g).flatten := by
    have : ∀ l : List (List Value), (∀ cs ∈ l, cs = U8 (g cs)) → l.flatten = U8 (l.map g).flatten := by
      intro l
      induction l with
      | nil => intro _; rfl
      | cons y l ih => intro hl; rw [List.flatten_cons, List.map_cons, List.flatten_cons, ih (fun z hz => hl z (by simp [hz])), show U8 (g y ++ (l.map g).flatten) = U8 (g y) ++ U8 (l.map g).flatten by simp [U8], ← hl y (by simp)]
    exact this rows (fun cs hcs => (hg cs hcs).2.2)
  exact ⟨rows.map g, A, c, by simp, by simpa using h1, h2, fun y hy => by obtain ⟨cs, hcs, rfl⟩ := List.mem_map.1 hy; exact ⟨(hg cs hcs).1, (hg cs hcs).2.1⟩, fun h0 => by rw [← hfl]; exact h4 (by simpa using h0)⟩
theorem open_cm0 {fuel : Nat} {cs : List Value} {x : DataW H × List MemPlace} (h : DataW.trod enc Tryd.prog W base sp held fuel 26 cs = some x) (hlt : ∀ q ∈ x.2, q.block < W.heap.size) : ∃ c : Cm, CmV W (.agg cs.toArray) c ∧ (-9223372036854775808 ≤ c.w ∧ c.w ≤ 9223372036854775807) ∧ -9223372036854775808 ≤ c.st ∧ c.st ≤ 9223372036854775807 := by
  obtain ⟨xs, n, _, hx, hl, hlen, hf⟩ := DataW.trod_struct Tryd.underlying26 h
  rw [ceC] at hl
  have f0 : DataW.trod enc Tryd.prog W base sp held n 3 ((cs.drop 0).take (Tryd.prog.cellsOf 3)) = xs[0]? := hf 0 _ rfl
  have f1 : DataW.trod enc Tryd.prog W base sp held n 3 ((cs.drop 1).take (Tryd.prog.cellsOf 3)) = xs[1]? := hf 1 _ rfl
  have f2 : DataW.trod enc Tryd.prog W base sp held n 23 ((cs.drop 2).take (Tryd.prog.cellsOf 23)) = xs[2]? := hf 2 _ rfl
  have f3 : DataW.trod enc Tryd.prog W base sp held n 24 ((cs.drop 34).take (Tryd.prog.cellsOf 24)) = xs[3]? := hf 3 _ rfl
  rw [ce3c] at f0 f1
  rw [ceH] at f2
  rw [ceLH] at f3
  match xs, hlen with
  | [x0, x1, x2, x3], _ =>
    obtain ⟨a, ha, _, haw⟩ := DataW.trod_int und3 f0
    obtain ⟨b, hb, _, hbw⟩ := DataW.trod_int und3 f1
    obtain ⟨rt, hr1, hr2, hr3⟩ := hash_cells2 f2
    match cs, hl with
    | c0 :: c1 :: rs, hl =>
      simp only [List.drop_zero, List.drop_succ_cons, List.take_succ_cons, List.take_zero, List.cons.injEq, and_true] at ha hb
      simp only [List.drop_succ_cons, List.drop_zero] at hr3 f3
      have hrl : rs.length = 33 := by simpa using hl
      obtain ⟨v, hv⟩ : ∃ v, rs.drop 32 = [v] := by
        have : (rs.drop 32).length = 1 := by rw [List.length_drop]; omega
        match rs.drop 32, this with
        | [v], _ => exact ⟨v, rfl⟩
      rw [hv] at f3
      have f3' : DataW.trod enc Tryd.prog W base sp held n 24 [v] = some x3 := f3
      obtain ⟨hs, hH⟩ := open_hs f3' (fun q hq => hlt q (by rw [hx]; exact List.mem_flatMap.2 ⟨x3, by simp, hq⟩))
      refine ⟨⟨a, b, rt, hs⟩, ⟨v, ?_, hH, hr1, hr2⟩, bounds_i64 haw, bounds_i64 hbw⟩
      show _ = Value.agg (Value.int .i64 a :: Value.int .i64 b :: (U8 rt ++ [v])).toArray
      rw [ha, hb, ← hr3, ← hv, List.take_append_drop]
theorem open_commit (hv : Value.okWide Tryd.prog W r b0 26 v) (h : DataW.Trod enc Tryd.prog W base sp held 26 v d p) (hlt : ∀ x ∈ p, x.block < W.heap.size) : ∃ c : Cm, CmV W v c ∧ (-9223372036854775808 ≤ c.w ∧ c.w ≤ 9223372036854775807) ∧ -9223372036854775808 ≤ c.st ∧ c.st ≤ 9223372036854775807 := by
  obtain ⟨cs, rfl, hc⟩ := okWide_struct Tryd.underlying26 hv
  obtain ⟨fuel, hf⟩ := h
  have hf' : DataW.trod enc Tryd.prog W base sp held fuel 26 cs.toList = some (d, p) := hf
  have := open_cm0 hf' hlt
  rwa [Array.toArray_toList] at this
theorem open_outs (hv : Value.okWide Tryd.prog W r b0 39 v) (h : DataW.Trod enc Tryd.prog W base sp held 39 v d p) (hlt : ∀ x ∈ p, x.block < W.heap.size) : ∃ ls : List (List E), Outs W v ls ∧ ∀ l ∈ ls, FitsM l := by
  obtain ⟨a, len, cap, rfl⟩ := okWide_slice undLMM hv
  obtain ⟨fuel, hf⟩ := h
  have hf' : DataW.trod enc Tryd.prog W base sp held fuel 39 [.slice a len cap] = some (d, p) := hf
  obtain ⟨A, c, rows, e, h1, h2, h3, h4⟩ := open_sl undLMM ceLM (by omega) (Pr := fun cs => ∃ (u : Value) (l : List E), cs = [u] ∧ Edges W u l ∧ FitsM l) (fun n cs x' ht hq => by
    obtain ⟨u, rfl⟩ : ∃ u, cs = [u] := by
      have hcl : cs.length = 1 := by
        rcases DataW.trod_slice und32 ht with ⟨e, _⟩ | ⟨_, _, _, _, _, _, _, e, _⟩ <;> rw [e] <;> rfl
      match cs, hcl with
      | [u], _ => exact ⟨u, rfl⟩
    obtain ⟨es, hE, hF⟩ := open_msgsF ht hq
    exact ⟨u, es, rfl, hE, hF⟩) hf' hlt
  obtain ⟨g, hg⟩ : ∃ g : List Value → Value × List E, ∀ cs ∈ rows, cs = [(g cs).1] ∧ Edges W (g cs).1 (g cs).2 ∧ FitsM (g cs).2 :=
    by classical exact ⟨fun cs => if h : ∃ (u : Value) (l : List E), cs = [u] ∧ Edges W u l ∧ FitsM l then (h.choose, h.choose_spec.choose) else (.nilFunc, []), fun cs hcs => by simp only [(h3 cs hcs).2, dif_pos]; exact (h3 cs hcs).2.choose_spec.choose_spec⟩
  have hfl : rows.flatten = rows.map (fun cs => (g cs).1) := by
    have : ∀ l : List (List Value), (∀ cs ∈ l, cs = [(g cs).1]) → l.flatten = l.map (fun cs => (g cs).1) := by
      intro l
      induction l with
      | nil => intro _; rfl
      | cons y l ih => intro hl; rw [List.flatten_cons, List.map_cons, ih (fun z hz => hl z (by simp [hz]))]; show y ++ _ = [(g y).1] ++ _; rw [← hl y (by simp)]
    exact this rows (fun cs hcs => (hg cs hcs).1)
  refine ⟨rows.map (fun cs => (g cs).2), ⟨A, c, rows.map (fun cs => (g cs).1), by rw [e]; simp, by simpa using h1, h2, by simp, fun h0 => by rw [← hfl]; exact h4 (by simpa using h0), fun i l hi => ?_⟩, fun l hl => ?_⟩
  · rw [List.getElem?_map] at hi ⊢
    cases hr : rows[i]? with
    | none => rw [hr] at hi; cases hi
    | some cs =>
      rw [hr] at hi
      simp only [Option.map_some, Option.some.injEq] at hi ⊢
      subst hi
      exact ⟨_, rfl, (hg cs (List.mem_of_getElem? hr)).2.1⟩
  · obtain ⟨cs, hcs, rfl⟩ := List.mem_map.1 hl
    exact (hg cs hcs).2.2
end
theorem undU16c : Tryd.prog.underlying 44 = some (.int .u16) := by kernel_rfl
theorem open_u16 {H : Type} {enc : TypeId × Value → H} {W : World} {base b0 : Nat} {r : Reach} {sp : Nat → Bool} {held : Bool} {v : Value} {d : DataW H} {p : List MemPlace} (hv : Value.okWide Tryd.prog W r b0 44 v) (h : DataW.Trod enc Tryd.prog W base sp held 44 v d p) : ∃ n : Nat, n < 65536 ∧ v = .int .u16 (n : Int) := by
  obtain ⟨n, rfl, _, _, wf⟩ := open_int undU16c hv h
  have := bounds_u16 wf
  exact ⟨n.toNat, by omega, by rw [Int.toNat_of_nonneg this.1]⟩
end Go.Proofs.YtooeahpkhocaeaaDoor
