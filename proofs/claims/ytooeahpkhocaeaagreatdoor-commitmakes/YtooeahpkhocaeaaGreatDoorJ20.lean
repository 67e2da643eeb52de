/- Slices of edges in blocks of one's own; a graph returned. Conditions: none of our own. -/
import Derived.Test.YtooeahpkhocaeaaGreatDoorJ19
import Derived.Test.YtooeahpkhocaeaaGreatDoorJ05
namespace Go.Proofs.YtooeahpkhocaeaaGreatDoor
open Go.RowKit
set_option maxRecDepth 100000
set_option maxRecDepth 100000
/-- A slice of edges in blocks from B on. -/
def EdgesB (B : Nat) (w : World) (v : Value) (es : List E) : Prop :=
  ∃ (A : Option Addr) (c : Nat), v = .slice A es.length c ∧ es.length ≤ c ∧ c ≤ maxLen ∧ (0 < es.length → ∃ b o, A = some ⟨b, o, none⟩ ∧ B ≤ b ∧ b < w.heap.size ∧ w.rangeAt b o (cellsE es))
theorem EdgesB.edges {B : Nat} {w : World} {v : Value} {es : List E} (h : EdgesB B w v es) : Edges w v es := by
  obtain ⟨A, c, rfl, h1, h2, h3⟩ := h
  exact ⟨A, c, rfl, h1, h2, fun h0 => by obtain ⟨b, o, rfl, _, hb, hr⟩ := h3 h0; exact ⟨b, o, rfl, hb, hr⟩⟩
theorem EdgesB.kept {B : Nat} {w w' : World} {v : Value} {es : List E} (h : EdgesB B w v es) (k : Below w.heap.size w w') : EdgesB B w' v es := by
  obtain ⟨A, c, rfl, h1, h2, h3⟩ := h
  exact ⟨A, c, rfl, h1, h2, fun h0 => by obtain ⟨b, o, rfl, hB, hb, hr⟩ := h3 h0; exact ⟨b, o, rfl, hB, Nat.lt_of_lt_of_le hb k.size, range_below hr k hb⟩⟩
theorem EdgesB.mono {B B' : Nat} {w : World} {v : Value} {es : List E} (h : EdgesB B w v es) (k : B' ≤ B) : EdgesB B' w v es := by
  obtain ⟨A, c, rfl, h1, h2, h3⟩ := h
  exact ⟨A, c, rfl, h1, h2, fun h0 => by obtain ⟨b, o, rfl, hB, hb, hr⟩ := h3 h0; exact ⟨b, o, rfl, Nat.le_trans k hB, hb, hr⟩⟩
theorem EdgesB.setRow {B : Nat} {w : World} {v : Value} {es : List E} (h : EdgesB B w v es) {g : Nat} (hg : g < B) (cs : Array Value) : EdgesB B (w.setRow g cs) v es := by
  obtain ⟨A, c, rfl, h1, h2, h3⟩ := h
  refine ⟨A, c, rfl, h1, h2, fun h0 => ?_⟩
  obtain ⟨b, o, rfl, hB, hb, hr⟩ := h3 h0
  refine ⟨b, o, rfl, hB, by simpa [World.setRow] using hb, fun j u hj => ?_⟩
  have := setRow_other w g b cs (by omega)
  have h5 := hr j u hj
  simp only [World.cell?] at h5 ⊢
  rw [this]; exact h5
theorem edgesB_nil (B : Nat) (w : World) : EdgesB B w (.slice none 0 0) [] := ⟨none, 0, rfl, Nat.le_refl _, by unfold maxLen; omega, fun h => absurd h (by simp)⟩
end Go.Proofs.YtooeahpkhocaeaaGreatDoor
/- A copy of a slice of edges; a graph of one's own memory. Conditions: none of our own. -/
namespace Go.Proofs.YtooeahpkhocaeaaGreatDoor
open Go.RowKit
set_option maxRecDepth 100000
set_option maxRecDepth 100000
section
variable {P : Program} {L : List (Nat × Value)} {w : World} {ty : TypeId}
theorem runs_append0N {t e : TypeId} {s x : Operand} {i : TypeInfo} {z : Value} {bytes g m c sz : Nat} {news : List Value} {ad : Addr} (ht : P.underlying t = some (.slice e)) (hi : P.info? e = some i) (hz : i.zero = some z)
    (hsize : i.size = sz) (hby : i.bytes = bytes) (hzs : z.cells.size = sz) (hsz : 0 < sz) (hs : vals L s = some (.slice (some ⟨g, 0, none⟩) 0 0)) (hx : vals L x = some (.slice (some ad) m c)) (hl : news.length = m * sz) (hnews : ∀ j u, news[j]? = some u → w.cell? (ad.add j) = some u)
    (h63 : m ≤ maxLen) (hbytes : m * bytes ≤ 140737488355328) (hm : 0 < m) :
    Runs P (.call { callee := .builtin .append, args := #[s, x], argTypes := #[t, t] }) ty L w (fun v w' => w'.ownsRow w.heap.size e sz v m news ∧ Below w.heap.size w w') := fun o a K Q ho _ hL hK => by
  have e1 := hL s (by simp [Op.operands, Call.operands]) _ hs
  have e2 := hL x (by simp [Op.operands, Call.operands]) _ hx
  obtain ⟨v', w', hr, h2, h3⟩ := run_append_arg_grows (P := P) w t o.type e i z sz bytes ht hi hz hsize hby hzs hsz ⟨g, 0, none⟩ 0 0 [] (by simp) (fun j u h => by simp at h) ad m c news hl hnews (by omega) (by omega) (by simpa using hbytes)
  unfold Oper.wp execOp
  simp only [ho, resolve, invoke, builtin, Sem.run_bind, Sem.run_pure, Result.andThen_ok, List.map_toArray, List.map_cons, List.map_nil, e1, e2, hr]
  rw [Nat.zero_add, List.nil_append] at h2
  exact hK v' w' ⟨h2, (Below.refl _ _).grown h3 (Nat.le_refl _) (fun k h => by cases h)⟩
end
end Go.Proofs.YtooeahpkhocaeaaGreatDoor
/- append of append: rows that stay. Conditions: none of our own. -/
namespace Go.Proofs.YtooeahpkhocaeaaGreatDoor
open Go.RowKit
set_option maxRecDepth 100000

/-- What stays while a row is made of two: all below B, rows of edges that are short enough or the last one, and what is no row of edges. -/
def KA (B N0 N1 : Nat) (Y : List Value) (a b : World) : Prop := Below B a b ∧ (∀ v n xs, (n ≤ N0 ∨ (n = N1 ∧ xs = Y)) → a.ownsRow B 81 3 v n xs → b.ownsRow B 81 3 v n xs) ∧ ∀ i t cs, t ≠ 81 → Has a i t cs → Has b i t cs
theorem KA.of_below {B N0 N1 : Nat} {Y : List Value} {a b : World} (h : Below a.heap.size a b) (hB : B ≤ a.heap.size) : KA B N0 N1 Y a b :=
  ⟨h.mono hB, fun _ _ _ _ ho => owns_kept ho h, fun _ _ _ _ hg => hg.below h hg.lt⟩
end Go.Proofs.YtooeahpkhocaeaaGreatDoor
/- Layer 8: the kinds of struct, rows of messages, comparing. No condition. -/
namespace Go.Proofs.YtooeahpkhocaeaaGreatDoor
open Go.RowKit
set_option maxRecDepth 100000

theorem fo41_0 : fieldOff Tryz.prog 81 0 = some 0 := by kernel_rfl
theorem fo41_1 : fieldOff Tryz.prog 81 1 = some 1 := by kernel_rfl
theorem fo41_2 : fieldOff Tryz.prog 81 2 = some 2 := by kernel_rfl
theorem sz41 : (Tryz.prog.info? 81).map (·.size) = some 3 := by kernel_rfl
theorem zo41 : zeroOf Tryz.prog 81 = some (.agg [.int .i64 0, .int .i64 0, .int .i64 0].toArray) := by kernel_rfl
theorem pl2 : (match Tryz.prog.underlying 2 with | some (.struct _) => true | some (.array _ _) => true | none => true | _ => false) = false := by kernel_rfl
theorem pl3 : (match Tryz.prog.underlying 3 with | some (.struct _) => true | some (.array _ _) => true | none => true | _ => false) = false := by kernel_rfl
theorem und32 : Tryz.prog.underlying 30 = some (.slice 81) := by kernel_rfl
theorem inf48 : (Tryz.prog.info? 81).map (fun i => (i.zero, i.size, i.bytes)) = some (some (.agg #[.int .i64 0, .int .i64 0, .int .i64 0]), 3, 24) := by kernel_rfl
/-- A cell of an object. -/
theorem Has.at {w : World} {g i : Nat} {t : TypeId} {cs : List Value} {v : Value} (h : Has w g t cs) (hv : cs[i]? = some v) : w.cell? ⟨g, i, none⟩ = some v := by rw [h.cell, hv]
theorem edges_ownE {w : World} {base n e : Nat} {v : Value} {es : List E} (h : w.ownsRow base e 3 v n (cellsE es)) (hn : es.length = n) : Edges w v es := by
  subst hn
  rcases h.2 with ⟨rfl, h0⟩ | ⟨g, cap, cur, rfl, hb, hg, h1, h2, h3, h4⟩
  · exact ⟨none, 0, by rw [h0], by omega, by unfold maxLen; omega, fun h => by omega⟩
  · refine ⟨_, cap, rfl, h1, h2, fun _ => ⟨g, 0, rfl, (Array.getElem?_eq_some_iff.1 hg).1, fun j v hv => ?_⟩⟩
    rw [← h4, List.getElem?_take] at hv
    split at hv
    · simp only [World.cell?, hg, Nat.zero_add]; simpa using hv
    · cases hv
section
variable {ty : TypeId} {L : List (Nat × Value)} {w : World}
/-- One more message. -/
theorem push_ownM {B g2 : Nat} {s x : Operand} {sv : Value} {acc : List E} {e : E} (hs : vals L s = some sv) (hown : w.ownsRow B 81 3 sv acc.length (cellsE acc)) (hx : vals L x = some (.slice (some ⟨g2, 0, none⟩) 1 1)) (hX : Has w g2 81 (encE e)) (hn : acc.length ≤ 10000000) (hB : B ≤ w.heap.size) :
    Runs Tryz.prog (.call { callee := .builtin .append, args := #[s, x], argTypes := #[30, 30] }) ty L w (fun v w' => (∃ g3 c3, v = .slice (some ⟨g3, 0, none⟩) (acc.length + 1) c3) ∧ w'.ownsRow B 81 3 v (acc.length + 1) (cellsE (acc ++ [e])) ∧ (∀ i t cs, t ≠ 81 → Has w i t cs → Has w' i t cs) ∧ Below B w w') := by
  obtain ⟨i48, hi48, hz48, hs48, hb48⟩ := info_parts inf48
  refine (runs_appendN (news := encE e) und32 hi48 hz48 hs48 hb48 rfl (by omega) hs hown hx rfl (fun j u hj => by rw [add_zero_addr, Nat.zero_add, hX.cell]; exact hj) (by simp [encE, Value.oneCell']) (by unfold maxLen; omega) (by omega) hB (by omega)).mono ?_
  rintro v w' ⟨hown3, hgr3, hne3⟩
  refine ⟨?_, by rw [cellsE_append, cellsE_one]; exact hown3, fun i t cs ht hi => ?_, ?_⟩
  · rcases hown3.2 with ⟨rfl, h0⟩ | ⟨g3, c3, _, rfl, _⟩
    · omega
    · exact ⟨g3, c3, rfl⟩
  · have hne : some i ≠ sv.ownBlock := fun hsv => by
      rcases hown.2 with ⟨rfl, _⟩ | ⟨g0, cap, cur, rfl, _, hh, _⟩
      · simp [Value.ownBlock] at hsv
      · simp only [Value.ownBlock, Option.some.injEq] at hsv
        subst hsv
        unfold Has at hi
        rw [hi] at hh
        simp only [Option.some.injEq, Obj.cells.injEq] at hh
        exact ht hh.2.1
    unfold Has
    rw [hgr3.block i hi.lt hne]
    exact hi
  · exact below_grown (Below.refl _ _) hgr3 (fun g hg => by rcases hown.2 with ⟨rfl, _⟩ | ⟨g0, cap, _, rfl, hg0, _⟩ <;> simp [Value.ownBlock] at hg; omega) hB
/-- A slice of one message. -/
theorem runs_oneM {x : Operand} {e : E} (hx : vals L x = some (.agg (encE e).toArray)) : Runs Tryz.prog (.buildSlice 30 1 #[(0, x)]) ty L w (fun v w' => ∃ g2, v = .slice (some ⟨g2, 0, none⟩) 1 1 ∧ Has w' g2 81 (encE e) ∧ Below w.heap.size w w') := by
  obtain ⟨i48, hi48, hz48, hs48, hb48⟩ := info_parts inf48
  exact (runs_buildSliceG (sz := 3) (pv := [(0, .agg (encE e).toArray)]) (by simp [hx]) und32 hi48 hz48 hs48 (by omega) (by omega) (cells := (encE e).toArray) (by kernel_rfl)).mono (by rintro v w5 ⟨rfl, rfl⟩; exact ⟨_, rfl, Has.new w 81 (encE e), (Below.refl _ _).alloc (Nat.le_refl _) _⟩)
/-- A message of a slice, loaded. -/
theorem runs_loadM {x : Operand} {g o' : Nat} {e : E} (hx : vals L x = some (.pointer (some ⟨g, o', none⟩))) (hg : w.rangeAt g o' (encE e)) : Runs Tryz.prog (.load 81 x) ty L w (Is (.agg (encE e).toArray) w) :=
  runs_loadMid hx hg Tryz.underlying81 rfl (by rw [sz41]; rfl)
end
end Go.Proofs.YtooeahpkhocaeaaGreatDoor
/- Messages in order: mathematics. No condition. -/
namespace Go.Proofs.YtooeahpkhocaeaaGreatDoor
set_option maxRecDepth 100000

/-- The order of messages: by To, then by From, then by Val. -/
def lessM (a b : E) : Bool := if a.2.1 = b.2.1 then (if a.1 = b.1 then decide (a.2.2 < b.2.2) else decide (a.1 < b.1)) else decide (a.2.1 < b.2.1)
theorem lessM_iff (a b : E) : lessM a b = true ↔ a.2.1 < b.2.1 ∨ (a.2.1 = b.2.1 ∧ (a.1 < b.1 ∨ (a.1 = b.1 ∧ a.2.2 < b.2.2))) := by
  unfold lessM
  split
  · split <;> simp only [decide_eq_true_eq] <;> omega
  · simp only [decide_eq_true_eq]; omega
theorem lessM_no (a b : E) : lessM a b = false ↔ b.2.1 < a.2.1 ∨ (b.2.1 = a.2.1 ∧ (b.1 < a.1 ∨ (b.1 = a.1 ∧ b.2.2 ≤ a.2.2))) := by
  rw [← Bool.not_eq_true, lessM_iff]; omega
def leM (a b : E) : Prop := lessM b a = false
theorem leM_iff (a b : E) : leM a b ↔ a.2.1 < b.2.1 ∨ (a.2.1 = b.2.1 ∧ (a.1 < b.1 ∨ (a.1 = b.1 ∧ a.2.2 ≤ b.2.2))) := lessM_no b a
theorem leM_trans {a b c : E} (h : leM a b) (k : leM b c) : leM a c := by rw [leM_iff] at *; omega
theorem leM_anti {a b : E} (h : leM a b) (k : leM b a) : a = b := by
  rw [leM_iff] at h k
  exact Prod.ext (by omega) (Prod.ext (by omega) (by omega))
theorem leM_of_less {a b : E} (h : lessM a b = true) : leM a b := by rw [lessM_iff] at h; rw [leM_iff]; omega
theorem sortedM_eq : ∀ (l m : List E), l.Perm m → l.Pairwise leM → m.Pairwise leM → l = m
  | [], m, h, _, _ => (List.Perm.nil_eq h)
  | a :: l, [], h, _, _ => absurd h.length_eq (by simp)
  | a :: l, b :: m, h, h1, h2 => by
    obtain ⟨h1a, k1⟩ := List.pairwise_cons.1 h1
    obtain ⟨h2b, k2⟩ := List.pairwise_cons.1 h2
    have hab : a = b := by
      rcases List.mem_cons.1 (h.mem_iff.1 (List.mem_cons_self (a := a) (l := l))) with e | e
      · exact e
      rcases List.mem_cons.1 (h.mem_iff.2 (List.mem_cons_self (a := b) (l := m))) with e' | e'
      · exact e'.symm
      exact leM_anti (h1a b e') (h2b a e)
    subst hab
    rw [sortedM_eq l m (List.Perm.cons_inv h) k1 k2]
/-- A message put in behind all that aren't greater. -/
def insM (x : E) : List E → List E
  | [] => [x]
  | y :: ys => if lessM x y = true then x :: y :: ys else y :: insM x ys
theorem insM_at (x : E) : ∀ (l : List E) (k : Nat), k ≤ l.length → (∀ j y, j < k → l[j]? = some y → lessM x y = false) → (∀ y, l[k]? = some y → lessM x y = true) → insM x l = l.take k ++ [x] ++ l.drop k
  | [], k, hk, _, _ => by
    obtain rfl : k = 0 := by simpa using hk
    rfl
  | y :: ys, 0, _, _, h2 => by
    have := h2 y rfl
    simp [insM, this]
  | y :: ys, k + 1, hk, h1, h2 => by
    have h := h1 0 y (Nat.succ_pos _) rfl
    have ih := insM_at x ys k (by simpa using hk) (fun j z hj hz => h1 (j + 1) z (by omega) (by simpa using hz)) (fun z hz => h2 z (by simpa using hz))
    simp only [insM, h, Bool.false_eq_true, if_false, ih]
    simp
theorem insM_perm (x : E) : ∀ l : List E, (insM x l).Perm (x :: l)
  | [] => List.Perm.refl _
  | y :: ys => by
    unfold insM
    split
    · exact List.Perm.refl _
    · exact ((insM_perm x ys).cons y).trans (List.Perm.swap x y ys)
theorem insM_sorted (x : E) : ∀ l : List E, l.Pairwise leM → (insM x l).Pairwise leM
  | [], _ => by simp [insM]
  | y :: ys, h => by
    obtain ⟨h1, h2⟩ := List.pairwise_cons.1 h
    unfold insM
    split
    · rename_i hx
      refine List.pairwise_cons.2 ⟨fun z hz => ?_, h⟩
      rcases List.mem_cons.1 hz with rfl | hz
      · exact leM_of_less hx
      · exact leM_trans (leM_of_less hx) (h1 z hz)
    · rename_i hx
      refine List.pairwise_cons.2 ⟨fun z hz => ?_, insM_sorted x ys h2⟩
      rcases List.mem_cons.1 ((insM_perm x ys).mem_iff.1 hz) with rfl | hz
      · exact Bool.eq_false_iff.2 hx
      · exact h1 z hz
/-- Messages in order. -/
def sortM (l : List E) : List E := l.foldl (fun o x => insM x o) []
theorem sortM_snoc {l : List E} {i : Nat} {x : E} (h : l[i]? = some x) : sortM (l.take (i + 1)) = insM x (sortM (l.take i)) := by
  unfold sortM; rw [List.take_add_one, h, Option.toList_some, List.foldl_append]; rfl
theorem foldIns_perm : ∀ (l o : List E), (l.foldl (fun o x => insM x o) o).Perm (l ++ o)
  | [], o => List.Perm.refl _
  | x :: l, o => by
    simp only [List.foldl_cons, List.cons_append]
    exact (foldIns_perm l _).trans ((List.Perm.append_left l (insM_perm x o)).trans List.perm_middle)
theorem foldIns_sorted : ∀ (l o : List E), o.Pairwise leM → (l.foldl (fun o x => insM x o) o).Pairwise leM
  | [], _, h => h
  | x :: l, _, h => foldIns_sorted l _ (insM_sorted x _ h)
theorem sortM_perm (l : List E) : (sortM l).Perm l := by
  have := foldIns_perm l []
  rwa [List.append_nil] at this
theorem sortM_sorted (l : List E) : (sortM l).Pairwise leM := foldIns_sorted l [] List.Pairwise.nil
theorem sortM_length (l : List E) : (sortM l).length = l.length := (sortM_perm l).length_eq
theorem sortM_mem {l : List E} {x : E} : x ∈ sortM l ↔ x ∈ l := (sortM_perm l).mem_iff
theorem sortM_is {l m : List E} (hp : m.Perm l) (hs : m.Pairwise leM) : m = sortM l := sortedM_eq _ _ (hp.trans (sortM_perm l).symm) hs (sortM_sorted l)
end Go.Proofs.YtooeahpkhocaeaaGreatDoor
/- Plain mathematics: messages as bytes, and read again. No condition. -/
namespace Go.Proofs.YtooeahpkhocaeaaGreatDoor
open Wire
set_option maxRecDepth 100000

/-- A message's row; the rows of messages, in order; a row as a text; the bytes of messages. -/
def rowM (m : E) : List Nat := if m.1 < 0 ∨ m.2.1 < 0 then [] else num m.1.toNat ++ num m.2.1.toNat ++ num (fold m.2.2)
def rowsM (l : List E) : List (List Nat) := (sortM l).map rowM
theorem rowsM_length (l : List E) : (rowsM l).length = l.length := by simp [rowsM, sortM_length]
theorem rowM_lt (m : E) : ∀ c ∈ rowM m, c < 256 := fun c hc => by
  unfold rowM at hc
  split at hc
  · cases hc
  · simp only [List.mem_append] at hc
    rcases hc with (hc | hc) | hc <;> exact num_bytes _ c hc
/-- A row is of at most 30 bytes. -/
theorem rowM_size {m : E} (h1 : m.1 < 18446744073709551616) (h2 : m.2.1 < 18446744073709551616) (h3 : -9223372036854775808 ≤ m.2.2) (h4 : m.2.2 ≤ 9223372036854775807) : (rowM m).length ≤ 30 := by
  unfold rowM
  split
  · simp
  · have a := num_len10 m.1.toNat (by omega)
    have b := num_len10 m.2.1.toNat (by omega)
    have c := num_len10 (fold m.2.2) (fold_lt _ h3 h4)
    simp only [List.length_append]; omega
end Go.Proofs.YtooeahpkhocaeaaGreatDoor
