/- Small facts of vertices. No condition. -/
import Derived.Test.YtooeahpkhocaeaaDoorJ22
import Derived.Laws.StructEq
namespace Go.Proofs.YtooeahpkhocaeaaDoor
open Go.RowKit
set_option maxRecDepth 100000

theorem fo28_0 : fieldOff Tryd.prog 88 0 = some 0 := by kernel_rfl
theorem fo28_1 : fieldOff Tryd.prog 88 1 = some 1 := by kernel_rfl
theorem fo28_2 : fieldOff Tryd.prog 88 2 = some 2 := by kernel_rfl
theorem fo28_3 : fieldOff Tryd.prog 88 3 = some 3 := by kernel_rfl
theorem fo28_4 : fieldOff Tryd.prog 88 4 = some 4 := by kernel_rfl
theorem sz28 : (Tryd.prog.info? 88).map (·.size) = some 5 := by kernel_rfl
theorem zo28 : zeroOf Tryd.prog 88 = some (.agg [.int .i64 0, .int .i64 0, .bool false, .bool false, .int .i64 0].toArray) := by kernel_rfl
theorem pl4 : (match Tryd.prog.underlying 4 with | some (.struct _) => true | some (.array _ _) => true | none => true | _ => false) = false := by kernel_rfl
abbrev vc (x : Vx) : List Value := [.int .i64 x.id, .int .i64 x.val, .bool x.act, .bool x.has, .int .i64 x.inn]
abbrev vv (x : Vx) : Value := .agg (vc x).toArray
end Go.Proofs.YtooeahpkhocaeaaDoor
/- Rows of vertices in memory. No condition. -/
namespace Go.Proofs.YtooeahpkhocaeaaDoor
open Go.RowKit
set_option maxRecDepth 100000

theorem undVx : Tryd.prog.underlying 38 = some (.slice 88) := by kernel_rfl
def cellsV (es : List Vx) : List Value := es.flatMap vc
theorem cellsV_get : ∀ (es : List Vx) (i : Nat) (e : Vx), es[i]? = some e → ((cellsV es).drop (i * 5)).take 5 = vc e
  | x :: es, 0, e, h => by obtain rfl : x = e := by simpa using h
                           simp [cellsV, vc]
  | x :: es, i + 1, e, h => by
    have := cellsV_get es i e (by simpa using h)
    unfold cellsV at this ⊢
    rw [List.flatMap_cons, show (i + 1) * 5 = (vc x).length + i * 5 by simp [vc]; omega, List.drop_append, List.drop_eq_nil_of_le (by omega), List.nil_append, show (vc x).length + i * 5 - (vc x).length = i * 5 by omega]
    exact this
/-- The value v is a slice of the verts es. -/
def Verts (w : World) (v : Value) (es : List Vx) : Prop :=
  ∃ (A : Option Addr) (c : Nat), v = .slice A es.length c ∧ es.length ≤ c ∧ c ≤ maxLen ∧ (0 < es.length → ∃ b o, A = some ⟨b, o, none⟩ ∧ b < w.heap.size ∧ w.rangeAt b o (cellsV es))
theorem Verts.kept {w w' : World} {v : Value} {es : List Vx} (h : Verts w v es) (k : Below w.heap.size w w') : Verts w' v es := by
  obtain ⟨A, c, rfl, h1, h2, h4⟩ := h
  refine ⟨A, c, rfl, h1, h2, fun hp => ?_⟩
  obtain ⟨b, o, rfl, hb, hr⟩ := h4 hp
  exact ⟨b, o, rfl, Nat.lt_of_lt_of_le hb k.size, range_below hr k hb⟩
theorem verts_own {w : World} {base : Nat} {v : Value} {n : Nat} {es : List Vx} (h : w.ownsRow base 88 5 v n (cellsV es)) (hn : es.length = n) : Verts w v es := by
  subst hn
  rcases h.2 with ⟨rfl, h0⟩ | ⟨g, cap, cur, rfl, hb, hg, h1, h2, h3, h4⟩
  · exact ⟨none, 0, by rw [h0], by omega, by unfold maxLen; omega, fun h => by omega⟩
  · refine ⟨_, cap, rfl, h1, h2, fun _ => ⟨g, 0, rfl, (Array.getElem?_eq_some_iff.1 hg).1, fun j v hv => ?_⟩⟩
    rw [← h4, List.getElem?_take] at hv
    split at hv
    · simp only [World.cell?, hg, Nat.zero_add]; simpa using hv
    · cases hv
theorem verts_at {w : World} {b o : Nat} {es : List Vx} (h : w.rangeAt b o (cellsV es)) {i : Nat} {e : Vx} (hi : es[i]? = some e) : w.rangeAt b (o + i * 5) (vc e) := by
  rw [← cellsV_get es i e hi]
  exact range_sub h (i * 5) 5
/-- As Verts, and its cells lie at or behind B. -/
def VertsB (B : Nat) (w : World) (v : Value) (es : List Vx) : Prop :=
  ∃ (A : Option Addr) (c : Nat), v = .slice A es.length c ∧ es.length ≤ c ∧ c ≤ maxLen ∧ (0 < es.length → ∃ b o, A = some ⟨b, o, none⟩ ∧ B ≤ b ∧ b < w.heap.size ∧ w.rangeAt b o (cellsV es))
theorem VertsB.verts {B : Nat} {w : World} {v : Value} {es : List Vx} (h : VertsB B w v es) : Verts w v es := by
  obtain ⟨A, c, rfl, h1, h2, h3⟩ := h
  exact ⟨A, c, rfl, h1, h2, fun h0 => by obtain ⟨b, o, rfl, _, hb, hr⟩ := h3 h0; exact ⟨b, o, rfl, hb, hr⟩⟩
theorem VertsB.kept {B : Nat} {w w' : World} {v : Value} {es : List Vx} (h : VertsB B w v es) (k : Below w.heap.size w w') : VertsB B w' v es := by
  obtain ⟨A, c, rfl, h1, h2, h3⟩ := h
  exact ⟨A, c, rfl, h1, h2, fun h0 => by obtain ⟨b, o, rfl, hB, hb, hr⟩ := h3 h0; exact ⟨b, o, rfl, hB, Nat.lt_of_lt_of_le hb k.size, range_below hr k hb⟩⟩
theorem VertsB.mono {B B' : Nat} {w : World} {v : Value} {es : List Vx} (h : VertsB B w v es) (k : B' ≤ B) : VertsB B' w v es := by
  obtain ⟨A, c, rfl, h1, h2, h3⟩ := h
  exact ⟨A, c, rfl, h1, h2, fun h0 => by obtain ⟨b, o, rfl, hB, hb, hr⟩ := h3 h0; exact ⟨b, o, rfl, Nat.le_trans k hB, hb, hr⟩⟩
/-- What stays where a row of vertices that is made ends as Y. -/
def KYV (B : Nat) (Y : List Value) (a b : World) : Prop := Below B a b ∧ (∀ v k ys, ys <+: Y → a.ownsRow B 88 5 v k ys → b.ownsRow B 88 5 v k ys) ∧ (∀ i t cs, t ≠ 88 → Has a i t cs → Has b i t cs) ∧ (∀ i cs, cs.length = 5 → Has a i 88 cs → Has b i 88 cs)
theorem KYV.refl {B : Nat} {Y : List Value} {a : World} : KYV B Y a a := ⟨Below.refl _ _, fun _ _ _ _ h => h, fun _ _ _ _ h => h, fun _ _ _ h => h⟩
theorem KYV.trans {B : Nat} {Y : List Value} {a b c : World} (h : KYV B Y a b) (k : KYV B Y b c) : KYV B Y a c :=
  ⟨h.1.trans k.1, fun v n ys hy ho => k.2.1 v n ys hy (h.2.1 v n ys hy ho), fun i t cs ht ho => k.2.2.1 i t cs ht (h.2.2.1 i t cs ht ho), fun i cs ht ho => k.2.2.2 i cs ht (h.2.2.2 i cs ht ho)⟩
section
variable {L : List (Nat × Value)} {w : World} {ty : TypeId}
/-- A vertex of a slice, loaded. -/
theorem runs_loadVx {x : Operand} {g o' : Nat} {e : Vx} (hx : vals L x = some (.pointer (some ⟨g, o', none⟩))) (hg : w.rangeAt g o' (vc e)) : Runs Tryd.prog (.load 88 x) ty L w (Is (vv e) w) :=
  runs_loadMid hx hg Tryd.underlying88 rfl (by rw [sz28]; rfl)
end
end Go.Proofs.YtooeahpkhocaeaaDoor
/- The document of layer 10: which vertices have bytes, and these. Conditions: none of our own. -/
namespace Go.Proofs.YtooeahpkhocaeaaDoor
open Go.RowKit
set_option maxRecDepth 100000

theorem great_zero : great 0 = false := rfl
/-- What Put tells. -/
def putX (x : Vx) : ByteArray := S (if rightX x then bytesX x else [])
end Go.Proofs.YtooeahpkhocaeaaDoor
/- The writer and the reader of layer 2, as calls that keep what lies below B. Conditions: numbers of 61 bits. -/
namespace Go.Proofs.YtooeahpkhocaeaaDoor
open Go.RowKit
set_option maxRecDepth 100000

theorem goes54 : Goes Tryd.prog 54 := goes_of Tryd.func54 (by kernel_rfl) rfl
end Go.Proofs.YtooeahpkhocaeaaDoor
