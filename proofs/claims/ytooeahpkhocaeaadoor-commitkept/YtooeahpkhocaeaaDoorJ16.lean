/- Memory of graphs: slices of edges, edges and texts compared, a new row written. No condition. -/
import Derived.Test.YtooeahpkhocaeaaDoorJ15
import Derived.Tactics
namespace Go.Proofs.YtooeahpkhocaeaaDoor
open Go.RowKit
set_option maxRecDepth 100000

def encE (e : E) : List Value := [.int .i64 e.1, .int .i64 e.2.1, .int .i64 e.2.2]
def cellsE (es : List E) : List Value := es.flatMap encE
theorem cellsE_length (es : List E) : (cellsE es).length = es.length * 3 := by
  induction es with
  | nil => rfl
  | cons x xs ih => unfold cellsE at ih ⊢; rw [List.flatMap_cons, List.length_append, ih]; simp [encE]; omega
theorem cellsE_append (a b : List E) : cellsE (a ++ b) = cellsE a ++ cellsE b := by unfold cellsE; rw [List.flatMap_append]
theorem cellsE_one (e : E) : cellsE [e] = encE e := by simp [cellsE]
theorem cellsE_get : ∀ (es : List E) (i : Nat) (e : E), es[i]? = some e → ((cellsE es).drop (i * 3)).take 3 = encE e
  | x :: es, 0, e, h => by obtain rfl : x = e := by simpa using h
                           simp [cellsE, encE]
  | x :: es, i + 1, e, h => by
    have := cellsE_get es i e (by simpa using h)
    unfold cellsE at this ⊢
    rw [List.flatMap_cons, show (i + 1) * 3 = (encE x).length + i * 3 by simp [encE]; omega, List.drop_append, List.drop_eq_nil_of_le (by omega), List.nil_append, show (encE x).length + i * 3 - (encE x).length = i * 3 by omega]
    exact this
/-- The value v is a slice of the edges es. -/
def Edges (w : World) (v : Value) (es : List E) : Prop :=
  ∃ (A : Option Addr) (c : Nat), v = .slice A es.length c ∧ es.length ≤ c ∧ c ≤ maxLen ∧ (0 < es.length → ∃ b o, A = some ⟨b, o, none⟩ ∧ b < w.heap.size ∧ w.rangeAt b o (cellsE es))
theorem Edges.kept {w w' : World} {v : Value} {es : List E} (h : Edges w v es) (k : Below w.heap.size w w') : Edges w' v es := by
  obtain ⟨A, c, rfl, h1, h2, h4⟩ := h
  refine ⟨A, c, rfl, h1, h2, fun hp => ?_⟩
  obtain ⟨b, o, rfl, hb, hr⟩ := h4 hp
  exact ⟨b, o, rfl, Nat.lt_of_lt_of_le hb k.size, range_below hr k hb⟩
theorem edges_nil (w : World) : Edges w (.slice none 0 0) [] := ⟨none, 0, rfl, Nat.le_refl _, by unfold maxLen; omega, fun h => absurd h (by simp)⟩
theorem edges_at {w : World} {b o : Nat} {es : List E} (h : w.rangeAt b o (cellsE es)) {i : Nat} {e : E} (hi : es[i]? = some e) : w.rangeAt b (o + i * 3) (encE e) := by
  rw [← cellsE_get es i e hi]
  exact range_sub h (i * 3) 3
theorem new_box (w : World) (t : TypeId) (cs : List Value) : Has (w.alloc (.cells cs.toArray t)) w.heap.size t cs ∧ Below w.heap.size w (w.alloc (.cells cs.toArray t)) :=
  ⟨Has.new w t cs, (Below.refl _ _).alloc (Nat.le_refl _) _⟩
section
variable {L : List (Nat × Value)} {w : World} {ty : TypeId}
theorem und_plain3 : (match Tryd.prog.underlying 3 with | some (.struct _) => true | some (.array _ _) => true | none => true | _ => false) = false := by rw [Tryd.underlying3]
end
end Go.Proofs.YtooeahpkhocaeaaDoor
/- Layer 5: formed, twice, Check. Conditions: none of our own. -/
namespace Go.Proofs.YtooeahpkhocaeaaDoor
open Go.RowKit
set_option maxRecDepth 100000

/-- What a call answers. -/
abbrev Ans (f : FuncId) (args : List Value) (w : World) (Post : Value → World → Prop) : Prop := Calls Tryd.prog f args.toArray w fun e w' => ∃ v, e = .returned v ∧ Post v w'
end Go.Proofs.YtooeahpkhocaeaaDoor
/- Slices of edges in blocks of one's own; a graph returned. Conditions: none of our own. -/
namespace Go.Proofs.YtooeahpkhocaeaaDoor
open Go.RowKit
set_option maxRecDepth 100000
set_option maxRecDepth 100000
/-- A slice of edges in blocks from B on. -/
def EdgesB (B : Nat) (w : World) (v : Value) (es : List E) : Prop :=
  ∃ (A : Option Addr) (c : Nat), v = .slice A es.length c ∧ es.length ≤ c ∧ c ≤ maxLen ∧ (0 < es.length → ∃ b o, A = some ⟨b, o, none⟩ ∧ B ≤ b ∧ b < w.heap.size ∧ w.rangeAt b o (cellsE es))
theorem EdgesB.edges {B : Nat} {w : World} {v : Value} {es : List E} (h : EdgesB B w v es) : Edges w v es := by
  obtain ⟨A, c, rfl, h1, h2, h3⟩ := h
  exact ⟨A, c, rfl, h1, h2, fun h0 => by obtain ⟨b, o, rfl, _, hb, hr⟩ := h3 h0; exact ⟨b, o, rfl, hb, hr⟩⟩
theorem EdgesB.kept {B : Nat} {w w' : World} {v : Value} {es : List E} (h : EdgesB B w v es) (k : Below w.heap.size w w') : EdgesB B w' v es := by
  obtain ⟨A, c, rfl, h1, h2, h3⟩ := h
  exact ⟨A, c, rfl, h1, h2, fun h0 => by obtain ⟨b, o, rfl, hB, hb, hr⟩ := h3 h0; exact ⟨b, o, rfl, hB, Nat.lt_of_lt_of_le hb k.size, range_below hr k hb⟩⟩
theorem EdgesB.mono {B B' : Nat} {w : World} {v : Value} {es : List E} (h : EdgesB B w v es) (k : B' ≤ B) : EdgesB B' w v es := by
  obtain ⟨A, c, rfl, h1, h2, h3⟩ := h
  exact ⟨A, c, rfl, h1, h2, fun h0 => by obtain ⟨b, o, rfl, hB, hb, hr⟩ := h3 h0; exact ⟨b, o, rfl, Nat.le_trans k hB, hb, hr⟩⟩
theorem EdgesB.setRow {B : Nat} {w : World} {v : Value} {es : List E} (h : EdgesB B w v es) {g : Nat} (hg : g < B) (cs : Array Value) : EdgesB B (w.setRow g cs) v es := by
  obtain ⟨A, c, rfl, h1, h2, h3⟩ := h
  refine ⟨A, c, rfl, h1, h2, fun h0 => ?_⟩
  obtain ⟨b, o, rfl, hB, hb, hr⟩ := h3 h0
  refine ⟨b, o, rfl, hB, by simpa [World.setRow] using hb, fun j u hj => ?_⟩
  have := setRow_other w g b cs (by omega)
  have h5 := hr j u hj
  simp only [World.cell?] at h5 ⊢
  rw [this]; exact h5
theorem edgesB_nil (B : Nat) (w : World) : EdgesB B w (.slice none 0 0) [] := ⟨none, 0, rfl, Nat.le_refl _, by unfold maxLen; omega, fun h => absurd h (by simp)⟩
end Go.Proofs.YtooeahpkhocaeaaDoor
/- A copy of a slice of edges; a graph of one's own memory. Conditions: none of our own. -/
namespace Go.Proofs.YtooeahpkhocaeaaDoor
open Go.RowKit
set_option maxRecDepth 100000
set_option maxRecDepth 100000
section
variable {P : Program} {L : List (Nat × Value)} {w : World} {ty : TypeId}
theorem runs_append0N {t e : TypeId} {s x : Operand} {i : TypeInfo} {z : Value} {bytes g m c sz : Nat} {news : List Value} {ad : Addr} (ht : P.underlying t = some (.slice e)) (hi : P.info? e = some i) (hz : i.zero = some z)
    (hsize : i.size = sz) (hby : i.bytes = bytes) (hzs : z.cells.size = sz) (hsz : 0 < sz) (hs : vals L s = some (.slice (some ⟨g, 0, none⟩) 0 0)) (hx : vals L x = some (.slice (some ad) m c)) (hl : news.length = m * sz) (hnews : ∀ j u, news[j]? = some u → w.cell? (ad.add j) = some u)
    (h63 : m ≤ maxLen) (hbytes : m * bytes ≤ 140737488355328) (hm : 0 < m) :
    Runs P (.call { callee := .builtin .append, args := #[s, x], argTypes := #[t, t] }) ty L w (fun v w' => w'.ownsRow w.heap.size e sz v m news ∧ Below w.heap.size w w') := fun o a K Q ho _ hL hK => by
  have e1 := hL s (by simp [Op.operands, Call.operands]) _ hs
  have e2 := hL x (by simp [Op.operands, Call.operands]) _ hx
  obtain ⟨v', w', hr, h2, h3⟩ := run_append_arg_grows (P := P) w t o.type e i z sz bytes ht hi hz hsize hby hzs hsz ⟨g, 0, none⟩ 0 0 [] (by simp) (fun j u h => by simp at h) ad m c news hl hnews (by omega) (by omega) (by simpa using hbytes)
  unfold Oper.wp execOp
  simp only [ho, resolve, invoke, builtin, Sem.run_bind, Sem.run_pure, Result.andThen_ok, List.map_toArray, List.map_cons, List.map_nil, e1, e2, hr]
  rw [Nat.zero_add, List.nil_append] at h2
  exact hK v' w' ⟨h2, (Below.refl _ _).grown h3 (Nat.le_refl _) (fun k h => by cases h)⟩
end
end Go.Proofs.YtooeahpkhocaeaaDoor
/- Layer 8: the kinds of struct, rows of messages, comparing. No condition. -/
namespace Go.Proofs.YtooeahpkhocaeaaDoor
open Go.RowKit
set_option maxRecDepth 100000

theorem fo41_0 : fieldOff Tryd.prog 92 0 = some 0 := by kernel_rfl
theorem fo41_1 : fieldOff Tryd.prog 92 1 = some 1 := by kernel_rfl
theorem fo41_2 : fieldOff Tryd.prog 92 2 = some 2 := by kernel_rfl
theorem sz41 : (Tryd.prog.info? 92).map (·.size) = some 3 := by kernel_rfl
theorem zo41 : zeroOf Tryd.prog 92 = some (.agg [.int .i64 0, .int .i64 0, .int .i64 0].toArray) := by kernel_rfl
theorem pl2 : (match Tryd.prog.underlying 2 with | some (.struct _) => true | some (.array _ _) => true | none => true | _ => false) = false := by kernel_rfl
theorem pl3 : (match Tryd.prog.underlying 3 with | some (.struct _) => true | some (.array _ _) => true | none => true | _ => false) = false := by kernel_rfl
theorem und32 : Tryd.prog.underlying 40 = some (.slice 92) := by kernel_rfl
theorem inf48 : (Tryd.prog.info? 92).map (fun i => (i.zero, i.size, i.bytes)) = some (some (.agg #[.int .i64 0, .int .i64 0, .int .i64 0]), 3, 24) := by kernel_rfl
/-- A cell of an object. -/
theorem Has.at {w : World} {g i : Nat} {t : TypeId} {cs : List Value} {v : Value} (h : Has w g t cs) (hv : cs[i]? = some v) : w.cell? ⟨g, i, none⟩ = some v := by rw [h.cell, hv]
section
variable {ty : TypeId} {L : List (Nat × Value)} {w : World}
/-- One more message. -/
theorem push_ownM {B g2 : Nat} {s x : Operand} {sv : Value} {acc : List E} {e : E} (hs : vals L s = some sv) (hown : w.ownsRow B 92 3 sv acc.length (cellsE acc)) (hx : vals L x = some (.slice (some ⟨g2, 0, none⟩) 1 1)) (hX : Has w g2 92 (encE e)) (hn : acc.length ≤ 10000000) (hB : B ≤ w.heap.size) :
    Runs Tryd.prog (.call { callee := .builtin .append, args := #[s, x], argTypes := #[40, 40] }) ty L w (fun v w' => (∃ g3 c3, v = .slice (some ⟨g3, 0, none⟩) (acc.length + 1) c3) ∧ w'.ownsRow B 92 3 v (acc.length + 1) (cellsE (acc ++ [e])) ∧ (∀ i t cs, t ≠ 92 → Has w i t cs → Has w' i t cs) ∧ Below B w w') := by
  obtain ⟨i48, hi48, hz48, hs48, hb48⟩ := info_parts inf48
  refine (runs_appendN (news := encE e) und32 hi48 hz48 hs48 hb48 rfl (by omega) hs hown hx rfl (fun j u hj => by rw [add_zero_addr, Nat.zero_add, hX.cell]; exact hj) (by simp [encE, Value.oneCell']) (by unfold maxLen; omega) (by omega) hB (by omega)).mono ?_
  rintro v w' ⟨hown3, hgr3, hne3⟩
  refine ⟨?_, by rw [cellsE_append, cellsE_one]; exact hown3, fun i t cs ht hi => ?_, ?_⟩
  · rcases hown3.2 with ⟨rfl, h0⟩ | ⟨g3, c3, _, rfl, _⟩
    · omega
    · exact ⟨g3, c3, rfl⟩
  · have hne : some i ≠ sv.ownBlock := fun hsv => by
      rcases hown.2 with ⟨rfl, _⟩ | ⟨g0, cap, cur, rfl, _, hh, _⟩
      · simp [Value.ownBlock] at hsv
      · simp only [Value.ownBlock, Option.some.injEq] at hsv
        subst hsv
        unfold Has at hi
        rw [hi] at hh
        simp only [Option.some.injEq, Obj.cells.injEq] at hh
        exact ht hh.2.1
    unfold Has
    rw [hgr3.block i hi.lt hne]
    exact hi
  · exact below_grown (Below.refl _ _) hgr3 (fun g hg => by rcases hown.2 with ⟨rfl, _⟩ | ⟨g0, cap, _, rfl, hg0, _⟩ <;> simp [Value.ownBlock] at hg; omega) hB
/-- A slice of one message. -/
theorem runs_oneM {x : Operand} {e : E} (hx : vals L x = some (.agg (encE e).toArray)) : Runs Tryd.prog (.buildSlice 40 1 #[(0, x)]) ty L w (fun v w' => ∃ g2, v = .slice (some ⟨g2, 0, none⟩) 1 1 ∧ Has w' g2 92 (encE e) ∧ Below w.heap.size w w') := by
  obtain ⟨i48, hi48, hz48, hs48, hb48⟩ := info_parts inf48
  exact (runs_buildSliceG (sz := 3) (pv := [(0, .agg (encE e).toArray)]) (by simp [hx]) und32 hi48 hz48 hs48 (by omega) (by omega) (cells := (encE e).toArray) (by kernel_rfl)).mono (by rintro v w5 ⟨rfl, rfl⟩; exact ⟨_, rfl, Has.new w 92 (encE e), (Below.refl _ _).alloc (Nat.le_refl _) _⟩)
/-- A message of a slice, loaded. -/
theorem runs_loadM {x : Operand} {g o' : Nat} {e : E} (hx : vals L x = some (.pointer (some ⟨g, o', none⟩))) (hg : w.rangeAt g o' (encE e)) : Runs Tryd.prog (.load 92 x) ty L w (Is (.agg (encE e).toArray) w) :=
  runs_loadMid hx hg Tryd.underlying92 rfl (by rw [sz41]; rfl)
end
end Go.Proofs.YtooeahpkhocaeaaDoor
/- Messages in order: mathematics. No condition. -/
namespace Go.Proofs.YtooeahpkhocaeaaDoor
set_option maxRecDepth 100000

/-- The order of messages: by To, then by From, then by Val. -/
def lessM (a b : E) : Bool := if a.2.1 = b.2.1 then (if a.1 = b.1 then decide (a.2.2 < b.2.2) else decide (a.1 < b.1)) else decide (a.2.1 < b.2.1)
theorem lessM_iff (a b : E) : lessM a b = true ↔ a.2.1 < b.2.1 ∨ (a.2.1 = b.2.1 ∧ (a.1 < b.1 ∨ (a.1 = b.1 ∧ a.2.2 < b.2.2))) := by
  unfold lessM
  split
  · split <;> simp only [decide_eq_true_eq] <;> omega
  · simp only [decide_eq_true_eq]; omega
theorem lessM_no (a b : E) : lessM a b = false ↔ b.2.1 < a.2.1 ∨ (b.2.1 = a.2.1 ∧ (b.1 < a.1 ∨ (b.1 = a.1 ∧ b.2.2 ≤ a.2.2))) := by
  rw [← Bool.not_eq_true, lessM_iff]; omega
def leM (a b : E) : Prop := lessM b a = false
theorem leM_iff (a b : E) : leM a b ↔ a.2.1 < b.2.1 ∨ (a.2.1 = b.2.1 ∧ (a.1 < b.1 ∨ (a.1 = b.1 ∧ a.2.2 ≤ b.2.2))) := lessM_no b a
theorem leM_trans {a b c : E} (h : leM a b) (k : leM b c) : leM a c := by rw [leM_iff] at *; omega
theorem leM_anti {a b : E} (h : leM a b) (k : leM b a) : a = b := by
  rw [leM_iff] at h k
  exact Prod.ext (by omega) (Prod.ext (by omega) (by omega))
theorem leM_of_less {a b : E} (h : lessM a b = true) : leM a b := by rw [lessM_iff] at h; rw [leM_iff]; omega
theorem sortedM_eq : ∀ (l m : List E), l.Perm m → l.Pairwise leM → m.Pairwise leM → l = m
  | [], m, h, _, _ => (List.Perm.nil_eq h)
  | a :: l, [], h, _, _ => absurd h.length_eq (by simp)
  | a :: l, b :: m, h, h1, h2 => by
    obtain ⟨h1a, k1⟩ := List.pairwise_cons.1 h1
    obtain ⟨h2b, k2⟩ := List.pairwise_cons.1 h2
    have hab : a = b := by
      rcases List.mem_cons.1 (h.mem_iff.1 (List.mem_cons_self (a := a) (l := l))) with e | e
      · exact e
      rcases List.mem_cons.1 (h.mem_iff.2 (List.mem_cons_self (a := b) (l := m))) with e' | e'
      · exact e'.symm
      exact leM_anti (h1a b e') (h2b a e)
    subst hab
    rw [sortedM_eq l m (List.Perm.cons_inv h) k1 k2]
/-- A message put in behind all that aren't greater. -/
def insM (x : E) : List E → List E
  | [] => [x]
  | y :: ys => if lessM x y = true then x :: y :: ys else y :: insM x ys
theorem insM_perm (x : E) : ∀ l : List E, (insM x l).Perm (x :: l)
  | [] => List.Perm.refl _
  | y :: ys => by
    unfold insM
    split
    · exact List.Perm.refl _
    · exact ((insM_perm x ys).cons y).trans (List.Perm.swap x y ys)
theorem insM_sorted (x : E) : ∀ l : List E, l.Pairwise leM → (insM x l).Pairwise leM
  | [], _ => by simp [insM]
  | y :: ys, h => by
    obtain ⟨h1, h2⟩ := List.pairwise_cons.1 h
    unfold insM
    split
    · rename_i hx
      refine List.pairwise_cons.2 ⟨fun z hz => ?_, h⟩
      rcases List.mem_cons.1 hz with rfl | hz
      · exact leM_of_less hx
      · exact leM_trans (leM_of_less hx) (h1 z hz)
    · rename_i hx
      refine List.pairwise_cons.2 ⟨fun z hz => ?_, insM_sorted x ys h2⟩
      rcases List.mem_cons.1 ((insM_perm x ys).mem_iff.1 hz) with rfl | hz
      · exact Bool.eq_false_iff.2 hx
      · exact h1 z hz
/-- Messages in order. -/
def sortM (l : List E) : List E := l.foldl (fun o x => insM x o) []
theorem foldIns_perm : ∀ (l o : List E), (l.foldl (fun o x => insM x o) o).Perm (l ++ o)
  | [], o => List.Perm.refl _
  | x :: l, o => by
    simp only [List.foldl_cons, List.cons_append]
    exact (foldIns_perm l _).trans ((List.Perm.append_left l (insM_perm x o)).trans List.perm_middle)
theorem foldIns_sorted : ∀ (l o : List E), o.Pairwise leM → (l.foldl (fun o x => insM x o) o).Pairwise leM
  | [], _, h => h
  | x :: l, _, h => foldIns_sorted l _ (insM_sorted x _ h)
theorem sortM_perm (l : List E) : (sortM l).Perm l := by
  have := foldIns_perm l []
  rwa [List.append_nil] at this
theorem sortM_sorted (l : List E) : (sortM l).Pairwise leM := foldIns_sorted l [] List.Pairwise.nil
theorem sortM_length (l : List E) : (sortM l).length = l.length := (sortM_perm l).length_eq
theorem sortM_mem {l : List E} {x : E} : x ∈ sortM l ↔ x ∈ l := (sortM_perm l).mem_iff
theorem sortM_is {l m : List E} (hp : m.Perm l) (hs : m.Pairwise leM) : m = sortM l := sortedM_eq _ _ (hp.trans (sortM_perm l).symm) hs (sortM_sorted l)
end Go.Proofs.YtooeahpkhocaeaaDoor
/- append onto rows of messages: where the new row lies, and what stays. Conditions: none of our own. -/
namespace Go.Proofs.YtooeahpkhocaeaaDoor
open Go.RowKit
set_option maxRecDepth 100000

/-- What stays where a row of messages that is made ends as Y. -/
def KY (B : Nat) (Y : List Value) (a b : World) : Prop := Below B a b ∧ (∀ v k ys, ys <+: Y → a.ownsRow B 92 3 v k ys → b.ownsRow B 92 3 v k ys) ∧ (∀ i t cs, t ≠ 92 → Has a i t cs → Has b i t cs) ∧ (∀ i cs, cs.length = 3 → Has a i 92 cs → Has b i 92 cs)
theorem KY.refl {B : Nat} {Y : List Value} {a : World} : KY B Y a a := ⟨Below.refl _ _, fun _ _ _ _ h => h, fun _ _ _ _ h => h, fun _ _ _ h => h⟩
theorem KY.trans {B : Nat} {Y : List Value} {a b c : World} (h : KY B Y a b) (k : KY B Y b c) : KY B Y a c :=
  ⟨h.1.trans k.1, fun v n ys hy ho => k.2.1 v n ys hy (h.2.1 v n ys hy ho), fun i t cs ht ho => k.2.2.1 i t cs ht (h.2.2.1 i t cs ht ho), fun i cs ht ho => k.2.2.2 i cs ht (h.2.2.2 i cs ht ho)⟩
theorem KY.drew {B : Nat} {Y : List Value} {a b : World} (h : KY B Y a b) : KY B Y a b.drew := ⟨h.1.drew, h.2.1, h.2.2.1, h.2.2.2⟩
end Go.Proofs.YtooeahpkhocaeaaDoor
