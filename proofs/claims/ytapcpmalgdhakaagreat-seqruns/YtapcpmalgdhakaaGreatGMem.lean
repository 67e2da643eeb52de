/- Memory of graphs: slices of edges, edges and texts compared, a new row written. No condition. -/
import Derived.Test.YtapcpmalgdhakaaGreatGEng
import Derived.Tactics
namespace Go.Proofs.YtapcpmalgdhakaaGreat
open Go.RowKit
set_option maxRecDepth 100000

def encE (e : E) : List Value := [.int .i64 e.1, .int .i64 e.2.1, .int .i64 e.2.2]
def cellsE (es : List E) : List Value := es.flatMap encE
theorem cellsE_length (es : List E) : (cellsE es).length = es.length * 3 := by
  induction es with
  | nil => rfl
  | cons x xs ih => unfold cellsE at ih ⊢; rw [List.flatMap_cons, List.length_append, ih]; simp [encE]; omega
theorem cellsE_append (a b : List E) : cellsE (a ++ b) = cellsE a ++ cellsE b := by unfold cellsE; rw [List.flatMap_append]
theorem cellsE_one (e : E) : cellsE [e] = encE e := by simp [cellsE]
theorem cellsE_get : ∀ (es : List E) (i : Nat) (e : E), es[i]? = some e → ((cellsE es).drop (i * 3)).take 3 = encE e
  | x :: es, 0, e, h => by obtain rfl : x = e := by simpa using h
                           simp [cellsE, encE]
  | x :: es, i + 1, e, h => by
    have := cellsE_get es i e (by simpa using h)
    unfold cellsE at this ⊢
    rw [List.flatMap_cons, show (i + 1) * 3 = (encE x).length + i * 3 by simp [encE]; omega, List.drop_append, List.drop_eq_nil_of_le (by omega), List.nil_append, show (encE x).length + i * 3 - (encE x).length = i * 3 by omega]
    exact this
theorem cellsE_onecell (es : List E) : ∀ v ∈ cellsE es, v.oneCell' = true := fun v hv => by
  simp only [cellsE, List.mem_flatMap, encE] at hv
  obtain ⟨e, _, he⟩ := hv
  simp at he
  rcases he with rfl | rfl | rfl <;> rfl
/-- The value v is a slice of the edges es. -/
def Edges (w : World) (v : Value) (es : List E) : Prop :=
  ∃ (A : Option Addr) (c : Nat), v = .slice A es.length c ∧ es.length ≤ c ∧ c ≤ maxLen ∧ (0 < es.length → ∃ b o, A = some ⟨b, o, none⟩ ∧ b < w.heap.size ∧ w.rangeAt b o (cellsE es))
theorem Edges.kept {w w' : World} {v : Value} {es : List E} (h : Edges w v es) (k : Below w.heap.size w w') : Edges w' v es := by
  obtain ⟨A, c, rfl, h1, h2, h4⟩ := h
  refine ⟨A, c, rfl, h1, h2, fun hp => ?_⟩
  obtain ⟨b, o, rfl, hb, hr⟩ := h4 hp
  exact ⟨b, o, rfl, Nat.lt_of_lt_of_le hb k.size, range_below hr k hb⟩
theorem edges_nil (w : World) : Edges w (.slice none 0 0) [] := ⟨none, 0, rfl, Nat.le_refl _, by unfold maxLen; omega, fun h => absurd h (by simp)⟩
theorem edges_empty (w : World) (A : Option Addr) (c : Nat) (hc : c ≤ maxLen) : Edges w (.slice A 0 c) [] := ⟨A, c, rfl, Nat.zero_le _, hc, fun h => absurd h (by simp)⟩
theorem edges_own {w : World} {base : Nat} {v : Value} {n : Nat} {es : List E} (h : w.ownsRow base 48 3 v n (cellsE es)) (hn : es.length = n) : Edges w v es := by
  subst hn
  rcases h.2 with ⟨rfl, h0⟩ | ⟨g, cap, cur, rfl, hb, hg, h1, h2, h3, h4⟩
  · exact ⟨none, 0, by rw [h0], by omega, by unfold maxLen; omega, fun h => by omega⟩
  · refine ⟨_, cap, rfl, h1, h2, fun _ => ⟨g, 0, rfl, (Array.getElem?_eq_some_iff.1 hg).1, fun j v hv => ?_⟩⟩
    rw [← h4, List.getElem?_take] at hv
    split at hv
    · simp only [World.cell?, hg, Nat.zero_add]; simpa using hv
    · cases hv
theorem edges_has {w : World} {g : Nat} {es : List E} (h : Has w g 48 (cellsE es)) (hc : es.length ≤ maxLen) : Edges w (.slice (some ⟨g, 0, none⟩) es.length es.length) es :=
  ⟨_, _, rfl, Nat.le_refl _, hc, fun _ => ⟨g, 0, rfl, h.lt, fun j v hv => by rw [Nat.zero_add, h.cell]; exact hv⟩⟩
theorem edges_at {w : World} {b o : Nat} {es : List E} (h : w.rangeAt b o (cellsE es)) {i : Nat} {e : E} (hi : es[i]? = some e) : w.rangeAt b (o + i * 3) (encE e) := by
  rw [← cellsE_get es i e hi]
  exact range_sub h (i * 3) 3
theorem edges_take {w : World} {A : Option Addr} {c : Nat} {es : List E} (h : Edges w (.slice A es.length c) es) (k : Nat) (hk : k ≤ es.length) : Edges w (.slice A k c) (es.take k) := by
  obtain ⟨A', c', e, h1, h2, hA⟩ := h
  simp only [Value.slice.injEq, true_and] at e
  obtain ⟨rfl, rfl⟩ := e
  have hl : (es.take k).length = k := by simp; omega
  refine ⟨A, c, by rw [hl], by omega, h2, fun h0 => ?_⟩
  obtain ⟨b, o, rfl, hb, hc⟩ := hA (by omega)
  refine ⟨b, o, rfl, hb, fun j v hv => hc j v ?_⟩
  have : cellsE es = cellsE (es.take k) ++ cellsE (es.drop k) := by rw [← cellsE_append, List.take_append_drop]
  rw [this, List.getElem?_append_left (List.getElem?_eq_some_iff.1 hv).1]; exact hv
theorem edges_drop {w : World} {A : Option Addr} {c : Nat} {es : List E} (h : Edges w (.slice A es.length c) es) (k : Nat) (hk : k ≤ es.length) : Edges w (.slice (if c = k then A else A.map (·.add (k * 3))) (es.length - k) (c - k)) (es.drop k) := by
  obtain ⟨A', c', e, h1, h2, hA⟩ := h
  simp only [Value.slice.injEq, true_and] at e
  obtain ⟨rfl, rfl⟩ := e
  have hl : (es.drop k).length = es.length - k := by simp
  refine ⟨_, c - k, by rw [hl], by omega, by omega, fun h0 => ?_⟩
  rw [hl] at h0
  obtain ⟨b, o, rfl, hb, hc⟩ := hA (by omega)
  refine ⟨b, o + k * 3, by rw [if_neg (by omega)]; simp [add_lit'], hb, fun j v hv => ?_⟩
  rw [Nat.add_assoc]
  refine hc _ v ?_
  have : cellsE es = cellsE (es.take k) ++ cellsE (es.drop k) := by rw [← cellsE_append, List.take_append_drop]
  rw [this, List.getElem?_append_right (by rw [cellsE_length]; simp; omega), cellsE_length, show k * 3 + j - (es.take k).length * 3 = j by simp [show min k es.length = k by omega]]
  exact hv
/-- A graph as a value. -/
abbrev gv (n : Int) (v : Value) : Value := .agg #[.int .i64 n, v]
theorem below_row {w w5 : World} {g : Nat} (h : Below w.heap.size w w5) (hg : w.heap.size ≤ g) (cs : Array Value) : Below w.heap.size w (w5.setRow g cs) :=
  ⟨h.os, h.tape, h.output, by simpa [World.setRow] using h.size, fun i hi => (setRow_other w5 g i _ (by omega)).trans (h.block i hi)⟩
theorem below_rowB {B : Nat} {w w5 : World} {g : Nat} (h : Below B w w5) (hg : B ≤ g) (cs : Array Value) : Below B w (w5.setRow g cs) :=
  ⟨h.os, h.tape, h.output, by simpa [World.setRow] using h.size, fun i hi => (setRow_other w5 g i _ (by omega)).trans (h.block i hi)⟩
/-- A new block that is written at once. -/
theorem new_row (w : World) (t : TypeId) (z cs : List Value) : Has ((w.alloc (.cells z.toArray t)).setRow w.heap.size cs.toArray) w.heap.size t cs ∧ Below w.heap.size w ((w.alloc (.cells z.toArray t)).setRow w.heap.size cs.toArray) :=
  ⟨has_setRow (Has.new w t z), below_row ((Below.refl _ _).alloc (Nat.le_refl _) _) (Nat.le_refl _) _⟩
theorem new_box (w : World) (t : TypeId) (cs : List Value) : Has (w.alloc (.cells cs.toArray t)) w.heap.size t cs ∧ Below w.heap.size w (w.alloc (.cells cs.toArray t)) :=
  ⟨Has.new w t cs, (Below.refl _ _).alloc (Nat.le_refl _) _⟩
theorem eqE_iff (a b : E) : (a.1 == b.1 && a.2.1 == b.2.1 && a.2.2 == b.2.2) = decide (a = b) := by
  obtain ⟨a1, a2, a3⟩ := a; obtain ⟨b1, b2, b3⟩ := b
  rw [Bool.eq_iff_iff]; simp [and_assoc]
theorem run_eqStr (a b : ByteArray) (w : World) : (binOp .eql 9 (.string a) (.string b)).run Tryz.prog w = .ok (.bool (a.data.toList == b.data.toList)) w := by
  simp [binOp, Op.stringOp, ByteArray.toList_eq]
section
variable {L : List (Nat × Value)} {w : World} {ty : TypeId}
theorem runs_eqStr {t' : TypeId} {x y : Operand} {a b : ByteArray} {r : Bool} (hx : vals L x = some (.string a)) (hy : vals L y = some (.string b)) (hr : (a.data.toList == b.data.toList) = r) : Runs Tryz.prog (.binOp .eql 9 x y t') ty L w (Is (.bool r) w) :=
  runs_bin hx hy rfl (by rw [run_eqStr, hr])
/-- An edge of a slice, loaded. -/
theorem runs_loadE {x : Operand} {g o' : Nat} {e : E} (hx : vals L x = some (.pointer (some ⟨g, o', none⟩))) (hg : w.rangeAt g o' (encE e)) : Runs Tryz.prog (.load 48 x) ty L w (Is (.agg (encE e).toArray) w) :=
  runs_loadMid hx hg Tryz.underlying48 rfl (by rw [siz45]; rfl)
theorem runs_loadG {x : Operand} {g : Nat} {n : Int} {v : Value} (hx : vals L x = some (.pointer (some ⟨g, 0, none⟩))) (hg : Has w g 24 [.int .i64 n, v]) : Runs Tryz.prog (.load 24 x) ty L w (Is (gv n v) w) :=
  runs_loadRow hx hg Tryz.underlying24 rfl (by rw [siz24]; rfl)
theorem und_plain3 : (match Tryz.prog.underlying 3 with | some (.struct _) => true | some (.array _ _) => true | none => true | _ => false) = false := by rw [Tryz.underlying3]
theorem und_plain2 : (match Tryz.prog.underlying 2 with | some (.struct _) => true | some (.array _ _) => true | none => true | _ => false) = false := by rw [Tryz.underlying2]
theorem und_plain22 : (match Tryz.prog.underlying 22 with | some (.struct _) => true | some (.array _ _) => true | none => true | _ => false) = false := by rw [Tryz.underlying22]
theorem und_plain4 : (match Tryz.prog.underlying 4 with | some (.struct _) => true | some (.array _ _) => true | none => true | _ => false) = false := by rw [Tryz.underlying4]
theorem runs_loadN {x : Operand} {g : Nat} {n : Int} {v : Value} (hx : vals L x = some (.pointer (some ⟨g, 0 + 0, none⟩))) (hg : Has w g 24 [.int .i64 n, v]) : Runs Tryz.prog (.load 3 x) ty L w (Is (.int .i64 n) w) :=
  runs_load hx und_plain3 (by rw [hg.cell]; rfl)
theorem runs_loadV {x : Operand} {g : Nat} {n : Int} {v : Value} (hx : vals L x = some (.pointer (some ⟨g, 0 + 1, none⟩))) (hg : Has w g 24 [.int .i64 n, v]) : Runs Tryz.prog (.load 22 x) ty L w (Is v w) :=
  runs_load hx und_plain22 (by rw [hg.cell]; rfl)
theorem runs_load0 {x : Operand} {g : Nat} {e : E} (hx : vals L x = some (.pointer (some ⟨g, 0 + 0, none⟩))) (hg : Has w g 48 (encE e)) : Runs Tryz.prog (.load 3 x) ty L w (Is (.int .i64 e.1) w) :=
  runs_load hx und_plain3 (by rw [hg.cell]; rfl)
theorem runs_load1 {x : Operand} {g : Nat} {e : E} (hx : vals L x = some (.pointer (some ⟨g, 0 + 1, none⟩))) (hg : Has w g 48 (encE e)) : Runs Tryz.prog (.load 3 x) ty L w (Is (.int .i64 e.2.1) w) :=
  runs_load hx und_plain3 (by rw [hg.cell]; rfl)
theorem runs_load2 {x : Operand} {g : Nat} {e : E} (hx : vals L x = some (.pointer (some ⟨g, 0 + 2, none⟩))) (hg : Has w g 48 (encE e)) : Runs Tryz.prog (.load 2 x) ty L w (Is (.int .i64 e.2.2) w) :=
  runs_load hx und_plain2 (by rw [hg.cell]; rfl)
theorem runs_loadB {x : Operand} {g : Nat} {e : E} (hx : vals L x = some (.pointer (some ⟨g, 0, none⟩))) (hg : Has w g 48 (encE e)) : Runs Tryz.prog (.load 48 x) ty L w (Is (.agg (encE e).toArray) w) :=
  runs_loadRow hx hg Tryz.underlying48 rfl (by rw [siz45]; rfl)
theorem runs_alloc45 : Runs Tryz.prog (.alloc 48) ty L w (Boxed w 48 #[.int .i64 0, .int .i64 0, .int .i64 0]) := by
  obtain ⟨i, hi, hz, _, _⟩ := info_parts inf45
  exact runs_alloc hi hz
theorem runs_alloc24 : Runs Tryz.prog (.alloc 24) ty L w (Boxed w 24 #[.int .i64 0, .slice none 0 0]) := by
  obtain ⟨i, hi, hz, _, _⟩ := info_parts inf24
  exact runs_alloc hi hz
theorem runs_store45 {x y : Operand} {g : Nat} {old : List Value} {e : E} (hx : vals L x = some (.pointer (some ⟨g, 0, none⟩))) (hy : vals L y = some (.agg (encE e).toArray)) (hg : Has w g 48 old) (hl : old.length = 3) : Runs Tryz.prog (.store 48 x y) ty L w (Is undef (w.setRow g (encE e).toArray)) :=
  runs_storeRow hx hy hg hl (by simp [encE, Value.oneCell']) (by rw [siz45]; rfl)
theorem runs_store24 {x y : Operand} {g : Nat} {old : List Value} {n : Int} {A : Option Addr} {m c : Nat} (hx : vals L x = some (.pointer (some ⟨g, 0, none⟩))) (hy : vals L y = some (gv n (.slice A m c))) (hg : Has w g 24 old) (hl : old.length = 2) : Runs Tryz.prog (.store 24 x y) ty L w (Is undef (w.setRow g #[.int .i64 n, .slice A m c])) :=
  runs_storeRow hx hy hg hl (by simp [Value.oneCell']) (by rw [siz24]; rfl)
end
end Go.Proofs.YtapcpmalgdhakaaGreat
