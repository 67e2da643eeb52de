/- Layer 3: Prove. Conditions: the table of constants lies as it was laid; leaves of at most 100000 bytes, at most 1000000 of them. -/
import Derived.Test.YthkbnbnfjnliaaaDoorJ25
import Derived.Test.YthkbnbnfjnliaaaDoorEngP
import Derived.Test.YthkbnbnfjnliaaaDoorJ14
import Derived.Test.YthkbnbnfjnliaaaDoorJ00
import Derived.Test.YthkbnbnfjnliaaaDoorTRefB
import Derived.ArgAppend
import Derived.Laws.StructEq
import Derived.Tactics
namespace Go.Proofs.YthkbnbnfjnliaaaDoor
open Go.RowKit
set_option maxRecDepth 100000

section
variable {P : Program} {L : List (Nat × Value)} {w : World} {ty : TypeId}
def AppendedN (w : World) (base : Nat) (e : TypeId) (sz : Nat) (v : Value) (k : Nat) (xs : List Value) : Value → World → Prop := fun v' w' => w'.ownsRow base e sz v' k xs ∧ w.grownBy w' v.ownBlock ∧ v' ≠ .slice none 0 0
theorem runs_appendN {t e : TypeId} {s x : Operand} {i : TypeInfo} {z v : Value} {bytes base k m c sz : Nat} {xs news : List Value} {ad : Addr} (ht : P.underlying t = some (.slice e)) (hi : P.info? e = some i) (hz : i.zero = some z)
    (hsize : i.size = sz) (hby : i.bytes = bytes) (hzs : z.cells.size = sz) (hsz : 0 < sz) (hs : vals L s = some v) (hown : w.ownsRow base e sz v k xs) (hx : vals L x = some (.slice (some ad) m c)) (hl : news.length = m * sz) (hnews : ∀ j u, news[j]? = some u → w.cell? (ad.add j) = some u)
    (h1 : ∀ u ∈ news, u.oneCell' = true) (h63 : k + m ≤ maxLen) (hbytes : (k + m) * bytes ≤ 140737488355328) (hbase : base ≤ w.heap.size) (hm : 0 < m) :
    Runs P (.call { callee := .builtin .append, args := #[s, x], argTypes := #[t, t] }) ty L w (AppendedN w base e sz v (k + m) (xs ++ news)) := fun o a K Q ho _ hL hK => by
  refine wp_append_own w s x t ho base e i z sz bytes ht hi hz hsize hby hzs hsz v k xs (hL s (by simp [Op.operands, Call.operands]) v hs) hown ad m c news (hL x (by simp [Op.operands, Call.operands]) _ hx) hl hnews h1 h63 hbytes hbase ?_
  intro v' w' h2 h3 h4
  exact hK v' w' ⟨h2, h3, fun e => by have := (h4.1 e).2; omega⟩
end
/-- The value v is a slice of the sums hs. -/
def Hashes (w : World) (v : Value) (hs : List (List Nat)) : Prop :=
  ∃ (A : Option Addr) (c : Nat), v = .slice A hs.length c ∧ hs.length ≤ c ∧ c ≤ maxLen ∧ (∀ h ∈ hs, h.length = 32 ∧ Sha.Bytes h) ∧ (0 < hs.length → ∃ b o, A = some ⟨b, o, none⟩ ∧ b < w.heap.size ∧ w.rangeAt b o (U8 hs.flatten))
theorem Hashes.kept {w w' : World} {v : Value} {hs : List (List Nat)} (h : Hashes w v hs) (k : Below w.heap.size w w') : Hashes w' v hs := by
  obtain ⟨A, c, rfl, h1, h2, h3, h4⟩ := h
  refine ⟨A, c, rfl, h1, h2, h3, fun hp => ?_⟩
  obtain ⟨b, o, rfl, hb, hr⟩ := h4 hp
  exact ⟨b, o, rfl, Nat.lt_of_lt_of_le hb k.size, range_below hr k hb⟩
theorem range_sub {w : World} {b o : Nat} {cs : List Value} (h : w.rangeAt b o cs) (k n : Nat) : w.rangeAt b (o + k) ((cs.drop k).take n) := fun j v hv => by
  rw [List.getElem?_take] at hv
  split at hv
  · rw [List.getElem?_drop] at hv
    rw [show o + k + j = o + (k + j) by omega]
    exact h (k + j) v hv
  · cases hv
end Go.Proofs.YthkbnbnfjnliaaaDoor
/- More laws of operations: fields, rows of structs, strings. No condition. -/
namespace Go.Proofs.YthkbnbnfjnliaaaDoor
open Go.RowKit
set_option maxRecDepth 100000

section
variable {L : List (Nat × Value)} {w : World} {ty : TypeId}
theorem und60k : Tryd.prog.underlying 108 = some (.slice 3) := by kernel_rfl
theorem und3 : Tryd.prog.underlying 3 = some (.int .i64) := by kernel_rfl
theorem inf3 : (Tryd.prog.info? 3).map (fun i => (i.zero, i.size, i.bytes)) = some (some (.int .i64 0), 1, 8) := by kernel_rfl
theorem siz3 : (Tryd.prog.info? 3).map (·.size) = some 1 := by kernel_rfl
end
end Go.Proofs.YthkbnbnfjnliaaaDoor
/- Memory of graphs: slices of edges, edges and texts compared, a new row written. No condition. -/
namespace Go.Proofs.YthkbnbnfjnliaaaDoor
open Go.RowKit
set_option maxRecDepth 100000

def encE (e : E) : List Value := [.int .i64 e.1, .int .i64 e.2.1, .int .i64 e.2.2]
def cellsE (es : List E) : List Value := es.flatMap encE
theorem cellsE_length (es : List E) : (cellsE es).length = es.length * 3 := by
  induction es with
  | nil => rfl
  | cons x xs ih => unfold cellsE at ih ⊢; rw [List.flatMap_cons, List.length_append, ih]; simp [encE]; omega
theorem cellsE_append (a b : List E) : cellsE (a ++ b) = cellsE a ++ cellsE b := by unfold cellsE; rw [List.flatMap_append]
theorem cellsE_one (e : E) : cellsE [e] = encE e := by simp [cellsE]
theorem cellsE_get : ∀ (es : List E) (i : Nat) (e : E), es[i]? = some e → ((cellsE es).drop (i * 3)).take 3 = encE e
  | x :: es, 0, e, h => by obtain rfl : x = e := by simpa using h
                           simp [cellsE, encE]
  | x :: es, i + 1, e, h => by
    have := cellsE_get es i e (by simpa using h)
    unfold cellsE at this ⊢
    rw [List.flatMap_cons, show (i + 1) * 3 = (encE x).length + i * 3 by simp [encE]; omega, List.drop_append, List.drop_eq_nil_of_le (by omega), List.nil_append, show (encE x).length + i * 3 - (encE x).length = i * 3 by omega]
    exact this
theorem cellsE_onecell (es : List E) : ∀ v ∈ cellsE es, v.oneCell' = true := fun v hv => by
  simp only [cellsE, List.mem_flatMap, encE] at hv
  obtain ⟨e, _, he⟩ := hv
  simp at he
  rcases he with rfl | rfl | rfl <;> rfl
/-- The value v is a slice of the edges es. -/
def Edges (w : World) (v : Value) (es : List E) : Prop :=
  ∃ (A : Option Addr) (c : Nat), v = .slice A es.length c ∧ es.length ≤ c ∧ c ≤ maxLen ∧ (0 < es.length → ∃ b o, A = some ⟨b, o, none⟩ ∧ b < w.heap.size ∧ w.rangeAt b o (cellsE es))
theorem Edges.kept {w w' : World} {v : Value} {es : List E} (h : Edges w v es) (k : Below w.heap.size w w') : Edges w' v es := by
  obtain ⟨A, c, rfl, h1, h2, h4⟩ := h
  refine ⟨A, c, rfl, h1, h2, fun hp => ?_⟩
  obtain ⟨b, o, rfl, hb, hr⟩ := h4 hp
  exact ⟨b, o, rfl, Nat.lt_of_lt_of_le hb k.size, range_below hr k hb⟩
theorem edges_nil (w : World) : Edges w (.slice none 0 0) [] := ⟨none, 0, rfl, Nat.le_refl _, by unfold maxLen; omega, fun h => absurd h (by simp)⟩
theorem edges_own {w : World} {base : Nat} {v : Value} {n : Nat} {es : List E} (h : w.ownsRow base 31 3 v n (cellsE es)) (hn : es.length = n) : Edges w v es := by
  subst hn
  rcases h.2 with ⟨rfl, h0⟩ | ⟨g, cap, cur, rfl, hb, hg, h1, h2, h3, h4⟩
  · exact ⟨none, 0, by rw [h0], by omega, by unfold maxLen; omega, fun h => by omega⟩
  · refine ⟨_, cap, rfl, h1, h2, fun _ => ⟨g, 0, rfl, (Array.getElem?_eq_some_iff.1 hg).1, fun j v hv => ?_⟩⟩
    rw [← h4, List.getElem?_take] at hv
    split at hv
    · simp only [World.cell?, hg, Nat.zero_add]; simpa using hv
    · cases hv
theorem edges_at {w : World} {b o : Nat} {es : List E} (h : w.rangeAt b o (cellsE es)) {i : Nat} {e : E} (hi : es[i]? = some e) : w.rangeAt b (o + i * 3) (encE e) := by
  rw [← cellsE_get es i e hi]
  exact range_sub h (i * 3) 3
theorem edges_take {w : World} {A : Option Addr} {c : Nat} {es : List E} (h : Edges w (.slice A es.length c) es) (k : Nat) (hk : k ≤ es.length) : Edges w (.slice A k c) (es.take k) := by
  obtain ⟨A', c', e, h1, h2, hA⟩ := h
  simp only [Value.slice.injEq, true_and] at e
  obtain ⟨rfl, rfl⟩ := e
  have hl : (es.take k).length = k := by simp; omega
  refine ⟨A, c, by rw [hl], by omega, h2, fun h0 => ?_⟩
  obtain ⟨b, o, rfl, hb, hc⟩ := hA (by omega)
  refine ⟨b, o, rfl, hb, fun j v hv => hc j v ?_⟩
  have : cellsE es = cellsE (es.take k) ++ cellsE (es.drop k) := by rw [← cellsE_append, List.take_append_drop]
  rw [this, List.getElem?_append_left (List.getElem?_eq_some_iff.1 hv).1]; exact hv
theorem edges_drop {w : World} {A : Option Addr} {c : Nat} {es : List E} (h : Edges w (.slice A es.length c) es) (k : Nat) (hk : k ≤ es.length) : Edges w (.slice (if c = k then A else A.map (·.add (k * 3))) (es.length - k) (c - k)) (es.drop k) := by
  obtain ⟨A', c', e, h1, h2, hA⟩ := h
  simp only [Value.slice.injEq, true_and] at e
  obtain ⟨rfl, rfl⟩ := e
  have hl : (es.drop k).length = es.length - k := by simp
  refine ⟨_, c - k, by rw [hl], by omega, by omega, fun h0 => ?_⟩
  rw [hl] at h0
  obtain ⟨b, o, rfl, hb, hc⟩ := hA (by omega)
  refine ⟨b, o + k * 3, by rw [if_neg (by omega)]; simp [add_lit'], hb, fun j v hv => ?_⟩
  rw [Nat.add_assoc]
  refine hc _ v ?_
  have : cellsE es = cellsE (es.take k) ++ cellsE (es.drop k) := by rw [← cellsE_append, List.take_append_drop]
  rw [this, List.getElem?_append_right (by rw [cellsE_length]; simp; omega), cellsE_length, show k * 3 + j - (es.take k).length * 3 = j by simp [show min k es.length = k by omega]]
  exact hv
theorem new_box (w : World) (t : TypeId) (cs : List Value) : Has (w.alloc (.cells cs.toArray t)) w.heap.size t cs ∧ Below w.heap.size w (w.alloc (.cells cs.toArray t)) :=
  ⟨Has.new w t cs, (Below.refl _ _).alloc (Nat.le_refl _) _⟩
theorem eqE_iff (a b : E) : (a.1 == b.1 && a.2.1 == b.2.1 && a.2.2 == b.2.2) = decide (a = b) := by
  obtain ⟨a1, a2, a3⟩ := a; obtain ⟨b1, b2, b3⟩ := b
  rw [Bool.eq_iff_iff]; simp [and_assoc]
section
variable {L : List (Nat × Value)} {w : World} {ty : TypeId}
theorem und_plain3 : (match Tryd.prog.underlying 3 with | some (.struct _) => true | some (.array _ _) => true | none => true | _ => false) = false := by rw [Tryd.underlying3]
end
end Go.Proofs.YthkbnbnfjnliaaaDoor
/- Layer 5: formed, twice, Check. Conditions: none of our own. -/
namespace Go.Proofs.YthkbnbnfjnliaaaDoor
open Go.RowKit
set_option maxRecDepth 100000

/-- What a call answers. -/
abbrev Ans (f : FuncId) (args : List Value) (w : World) (Post : Value → World → Prop) : Prop := Calls Tryd.prog f args.toArray w fun e w' => ∃ v, e = .returned v ∧ Post v w'
end Go.Proofs.YthkbnbnfjnliaaaDoor
/- Slices of edges in blocks of one's own; a graph returned. Conditions: none of our own. -/
namespace Go.Proofs.YthkbnbnfjnliaaaDoor
open Go.RowKit
set_option maxRecDepth 100000
set_option maxRecDepth 100000
/-- A slice of edges in blocks from B on. -/
def EdgesB (B : Nat) (w : World) (v : Value) (es : List E) : Prop :=
  ∃ (A : Option Addr) (c : Nat), v = .slice A es.length c ∧ es.length ≤ c ∧ c ≤ maxLen ∧ (0 < es.length → ∃ b o, A = some ⟨b, o, none⟩ ∧ B ≤ b ∧ b < w.heap.size ∧ w.rangeAt b o (cellsE es))
theorem EdgesB.edges {B : Nat} {w : World} {v : Value} {es : List E} (h : EdgesB B w v es) : Edges w v es := by
  obtain ⟨A, c, rfl, h1, h2, h3⟩ := h
  exact ⟨A, c, rfl, h1, h2, fun h0 => by obtain ⟨b, o, rfl, _, hb, hr⟩ := h3 h0; exact ⟨b, o, rfl, hb, hr⟩⟩
theorem EdgesB.kept {B : Nat} {w w' : World} {v : Value} {es : List E} (h : EdgesB B w v es) (k : Below w.heap.size w w') : EdgesB B w' v es := by
  obtain ⟨A, c, rfl, h1, h2, h3⟩ := h
  exact ⟨A, c, rfl, h1, h2, fun h0 => by obtain ⟨b, o, rfl, hB, hb, hr⟩ := h3 h0; exact ⟨b, o, rfl, hB, Nat.lt_of_lt_of_le hb k.size, range_below hr k hb⟩⟩
theorem EdgesB.mono {B B' : Nat} {w : World} {v : Value} {es : List E} (h : EdgesB B w v es) (k : B' ≤ B) : EdgesB B' w v es := by
  obtain ⟨A, c, rfl, h1, h2, h3⟩ := h
  exact ⟨A, c, rfl, h1, h2, fun h0 => by obtain ⟨b, o, rfl, hB, hb, hr⟩ := h3 h0; exact ⟨b, o, rfl, Nat.le_trans k hB, hb, hr⟩⟩
theorem EdgesB.setRow {B : Nat} {w : World} {v : Value} {es : List E} (h : EdgesB B w v es) {g : Nat} (hg : g < B) (cs : Array Value) : EdgesB B (w.setRow g cs) v es := by
  obtain ⟨A, c, rfl, h1, h2, h3⟩ := h
  refine ⟨A, c, rfl, h1, h2, fun h0 => ?_⟩
  obtain ⟨b, o, rfl, hB, hb, hr⟩ := h3 h0
  refine ⟨b, o, rfl, hB, by simpa [World.setRow] using hb, fun j u hj => ?_⟩
  have := setRow_other w g b cs (by omega)
  have h5 := hr j u hj
  simp only [World.cell?] at h5 ⊢
  rw [this]; exact h5
theorem edgesB_nil (B : Nat) (w : World) : EdgesB B w (.slice none 0 0) [] := ⟨none, 0, rfl, Nat.le_refl _, by unfold maxLen; omega, fun h => absurd h (by simp)⟩
end Go.Proofs.YthkbnbnfjnliaaaDoor
/- A copy of a slice of edges; a graph of one's own memory. Conditions: none of our own. -/
namespace Go.Proofs.YthkbnbnfjnliaaaDoor
open Go.RowKit
set_option maxRecDepth 100000
set_option maxRecDepth 100000
section
variable {P : Program} {L : List (Nat × Value)} {w : World} {ty : TypeId}
theorem runs_append0N {t e : TypeId} {s x : Operand} {i : TypeInfo} {z : Value} {bytes g m c sz : Nat} {news : List Value} {ad : Addr} (ht : P.underlying t = some (.slice e)) (hi : P.info? e = some i) (hz : i.zero = some z)
    (hsize : i.size = sz) (hby : i.bytes = bytes) (hzs : z.cells.size = sz) (hsz : 0 < sz) (hs : vals L s = some (.slice (some ⟨g, 0, none⟩) 0 0)) (hx : vals L x = some (.slice (some ad) m c)) (hl : news.length = m * sz) (hnews : ∀ j u, news[j]? = some u → w.cell? (ad.add j) = some u)
    (h63 : m ≤ maxLen) (hbytes : m * bytes ≤ 140737488355328) (hm : 0 < m) :
    Runs P (.call { callee := .builtin .append, args := #[s, x], argTypes := #[t, t] }) ty L w (fun v w' => w'.ownsRow w.heap.size e sz v m news ∧ Below w.heap.size w w') := fun o a K Q ho _ hL hK => by
  have e1 := hL s (by simp [Op.operands, Call.operands]) _ hs
  have e2 := hL x (by simp [Op.operands, Call.operands]) _ hx
  obtain ⟨v', w', hr, h2, h3⟩ := run_append_arg_grows (P := P) w t o.type e i z sz bytes ht hi hz hsize hby hzs hsz ⟨g, 0, none⟩ 0 0 [] (by simp) (fun j u h => by simp at h) ad m c news hl hnews (by omega) (by omega) (by simpa using hbytes)
  unfold Oper.wp execOp
  simp only [ho, resolve, invoke, builtin, Sem.run_bind, Sem.run_pure, Result.andThen_ok, List.map_toArray, List.map_cons, List.map_nil, e1, e2, hr]
  rw [Nat.zero_add, List.nil_append] at h2
  exact hK v' w' ⟨h2, (Below.refl _ _).grown h3 (Nat.le_refl _) (fun k h => by cases h)⟩
end
end Go.Proofs.YthkbnbnfjnliaaaDoor
/- append of append: rows that stay. Conditions: none of our own. -/
namespace Go.Proofs.YthkbnbnfjnliaaaDoor
open Go.RowKit
set_option maxRecDepth 100000

/-- What stays while a row is made of two: all below B, rows of edges that are short enough or the last one, and what is no row of edges. -/
def KA (B N0 N1 : Nat) (Y : List Value) (a b : World) : Prop := Below B a b ∧ (∀ v n xs, (n ≤ N0 ∨ (n = N1 ∧ xs = Y)) → a.ownsRow B 31 3 v n xs → b.ownsRow B 31 3 v n xs) ∧ ∀ i t cs, t ≠ 31 → Has a i t cs → Has b i t cs
theorem KA.of_below {B N0 N1 : Nat} {Y : List Value} {a b : World} (h : Below a.heap.size a b) (hB : B ≤ a.heap.size) : KA B N0 N1 Y a b :=
  ⟨h.mono hB, fun _ _ _ _ ho => owns_kept ho h, fun _ _ _ _ hg => hg.below h hg.lt⟩
end Go.Proofs.YthkbnbnfjnliaaaDoor
