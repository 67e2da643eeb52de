/- Layer 8: the kinds of struct, rows of messages, comparing. No condition. -/
import Derived.Test.YthkbnbnfjnliaaaDoorJ26
namespace Go.Proofs.YthkbnbnfjnliaaaDoor
open Go.RowKit
set_option maxRecDepth 100000

theorem fo41_0 : fieldOff Tryd.prog 31 0 = some 0 := by kernel_rfl
theorem fo41_1 : fieldOff Tryd.prog 31 1 = some 1 := by kernel_rfl
theorem fo41_2 : fieldOff Tryd.prog 31 2 = some 2 := by kernel_rfl
theorem sz41 : (Tryd.prog.info? 31).map (·.size) = some 3 := by kernel_rfl
theorem zo41 : zeroOf Tryd.prog 31 = some (.agg [.int .i64 0, .int .i64 0, .int .i64 0].toArray) := by kernel_rfl
theorem pl2 : (match Tryd.prog.underlying 2 with | some (.struct _) => true | some (.array _ _) => true | none => true | _ => false) = false := by kernel_rfl
theorem pl3 : (match Tryd.prog.underlying 3 with | some (.struct _) => true | some (.array _ _) => true | none => true | _ => false) = false := by kernel_rfl
theorem und32 : Tryd.prog.underlying 23 = some (.slice 31) := by kernel_rfl
theorem inf48 : (Tryd.prog.info? 31).map (fun i => (i.zero, i.size, i.bytes)) = some (some (.agg #[.int .i64 0, .int .i64 0, .int .i64 0]), 3, 24) := by kernel_rfl
/-- A cell of an object. -/
theorem Has.at {w : World} {g i : Nat} {t : TypeId} {cs : List Value} {v : Value} (h : Has w g t cs) (hv : cs[i]? = some v) : w.cell? ⟨g, i, none⟩ = some v := by rw [h.cell, hv]
theorem edges_ownE {w : World} {base n e : Nat} {v : Value} {es : List E} (h : w.ownsRow base e 3 v n (cellsE es)) (hn : es.length = n) : Edges w v es := by
  subst hn
  rcases h.2 with ⟨rfl, h0⟩ | ⟨g, cap, cur, rfl, hb, hg, h1, h2, h3, h4⟩
  · exact ⟨none, 0, by rw [h0], by omega, by unfold maxLen; omega, fun h => by omega⟩
  · refine ⟨_, cap, rfl, h1, h2, fun _ => ⟨g, 0, rfl, (Array.getElem?_eq_some_iff.1 hg).1, fun j v hv => ?_⟩⟩
    rw [← h4, List.getElem?_take] at hv
    split at hv
    · simp only [World.cell?, hg, Nat.zero_add]; simpa using hv
    · cases hv
section
variable {ty : TypeId} {L : List (Nat × Value)} {w : World}
/-- One more message. -/
theorem push_ownM {B g2 : Nat} {s x : Operand} {sv : Value} {acc : List E} {e : E} (hs : vals L s = some sv) (hown : w.ownsRow B 31 3 sv acc.length (cellsE acc)) (hx : vals L x = some (.slice (some ⟨g2, 0, none⟩) 1 1)) (hX : Has w g2 31 (encE e)) (hn : acc.length ≤ 10000000) (hB : B ≤ w.heap.size) :
    Runs Tryd.prog (.call { callee := .builtin .append, args := #[s, x], argTypes := #[23, 23] }) ty L w (fun v w' => (∃ g3 c3, v = .slice (some ⟨g3, 0, none⟩) (acc.length + 1) c3) ∧ w'.ownsRow B 31 3 v (acc.length + 1) (cellsE (acc ++ [e])) ∧ (∀ i t cs, t ≠ 31 → Has w i t cs → Has w' i t cs) ∧ Below B w w') := by
  obtain ⟨i48, hi48, hz48, hs48, hb48⟩ := info_parts inf48
  refine (runs_appendN (news := encE e) und32 hi48 hz48 hs48 hb48 rfl (by omega) hs hown hx rfl (fun j u hj => by rw [add_zero_addr, Nat.zero_add, hX.cell]; exact hj) (by simp [encE, Value.oneCell']) (by unfold maxLen; omega) (by omega) hB (by omega)).mono ?_
  rintro v w' ⟨hown3, hgr3, hne3⟩
  refine ⟨?_, by rw [cellsE_append, cellsE_one]; exact hown3, fun i t cs ht hi => ?_, ?_⟩
  · rcases hown3.2 with ⟨rfl, h0⟩ | ⟨g3, c3, _, rfl, _⟩
    · omega
    · exact ⟨g3, c3, rfl⟩
  · have hne : some i ≠ sv.ownBlock := fun hsv => by
      rcases hown.2 with ⟨rfl, _⟩ | ⟨g0, cap, cur, rfl, _, hh, _⟩
      · simp [Value.ownBlock] at hsv
      · simp only [Value.ownBlock, Option.some.injEq] at hsv
        subst hsv
        unfold Has at hi
        rw [hi] at hh
        simp only [Option.some.injEq, Obj.cells.injEq] at hh
        exact ht hh.2.1
    unfold Has
    rw [hgr3.block i hi.lt hne]
    exact hi
  · exact below_grown (Below.refl _ _) hgr3 (fun g hg => by rcases hown.2 with ⟨rfl, _⟩ | ⟨g0, cap, _, rfl, hg0, _⟩ <;> simp [Value.ownBlock] at hg; omega) hB
/-- A slice of one message. -/
theorem runs_oneM {x : Operand} {e : E} (hx : vals L x = some (.agg (encE e).toArray)) : Runs Tryd.prog (.buildSlice 23 1 #[(0, x)]) ty L w (fun v w' => ∃ g2, v = .slice (some ⟨g2, 0, none⟩) 1 1 ∧ Has w' g2 31 (encE e) ∧ Below w.heap.size w w') := by
  obtain ⟨i48, hi48, hz48, hs48, hb48⟩ := info_parts inf48
  exact (runs_buildSliceG (sz := 3) (pv := [(0, .agg (encE e).toArray)]) (by simp [hx]) und32 hi48 hz48 hs48 (by omega) (by omega) (cells := (encE e).toArray) (by kernel_rfl)).mono (by rintro v w5 ⟨rfl, rfl⟩; exact ⟨_, rfl, Has.new w 31 (encE e), (Below.refl _ _).alloc (Nat.le_refl _) _⟩)
/-- A message of a slice, loaded. -/
theorem runs_loadM {x : Operand} {g o' : Nat} {e : E} (hx : vals L x = some (.pointer (some ⟨g, o', none⟩))) (hg : w.rangeAt g o' (encE e)) : Runs Tryd.prog (.load 31 x) ty L w (Is (.agg (encE e).toArray) w) :=
  runs_loadMid hx hg Tryd.underlying31 rfl (by rw [sz41]; rfl)
theorem run_eqM (a b : E) (w : World) : (binOp .eql 31 (.agg (encE a).toArray) (.agg (encE b).toArray)).run Tryd.prog w = .ok (.bool (a.1 == b.1 && a.2.1 == b.2.1 && a.2.2 == b.2.2)) w := by
  have u3 := Tryd.underlying3
  have a3 := Tryd.isAgg3
  have z3 := Tryd.sizeOf3
  have u2 := Tryd.underlying2
  have a2 := Tryd.isAgg2
  have z2 := Tryd.sizeOf2
  have hS : Tryd.prog.underlying 31 = some (.struct (Tryd.prog.fieldsOf 31)) := by kernel_rfl
  have hp : Tryd.prog.stoodInHeld 31 = false := by kernel_rfl
  simp only [encE]
  rw [run_eql_struct, show (10000 : Nat) = 9999 + 1 from rfl, run_equalIn_agg w 9999 31 _ _ hS hp]
  simp only [Program.fieldsOf, Tryd.underlying31]
  go_simp
  by_cases h1 : a.1 = b.1 <;> by_cases h2 : a.2.1 = b.2.1 <;> by_cases h3 : a.2.2 = b.2.2 <;> simp [h1, h2, h3]
theorem run_neM (a b : E) (w : World) : (binOp .neq 31 (.agg (encE a).toArray) (.agg (encE b).toArray)).run Tryd.prog w = .ok (.bool (!(a.1 == b.1 && a.2.1 == b.2.1 && a.2.2 == b.2.2))) w := by
  have h := run_eqM a b w
  rw [run_eql_struct] at h
  rw [run_neq_struct]
  generalize (Op.equalIn 10000 31 (.agg (encE a).toArray) (.agg (encE b).toArray)).run Tryd.prog w = r at h ⊢
  cases r with
  | ok x w1 => simp only [Result.andThen_ok, Result.ok.injEq, Value.bool.injEq] at h ⊢; exact ⟨by rw [h.1], h.2⟩
  | _ => simp [Result.andThen] at h
theorem runs_neM {t' : TypeId} {X Y : Operand} {a b : E} {r : Bool} (hx : vals L X = some (.agg (encE a).toArray)) (hy : vals L Y = some (.agg (encE b).toArray)) (hr : (!decide (a = b)) = r) : Runs Tryd.prog (.binOp .neq 31 X Y t') ty L w (Is (.bool r) w) := fun o act K Q ho _ hL hK => by
  have ex := hL X (by simp [Op.operands]) _ hx
  have ey := hL Y (by simp [Op.operands]) _ hy
  have h := run_neM a b w
  rw [eqE_iff, hr] at h
  have hg : (eqGuard .neq 31 X Y (.agg (encE a).toArray) (.agg (encE b).toArray)).run Tryd.prog w = .ok () w := by
    have hp : Tryd.prog.eqGuardType Tryd.prog.depth 31 = false := by kernel_rfl
    simp [eqGuard, hp]
  unfold Oper.wp
  have : (execOp act.eval o).run Tryd.prog w = .ok (.value (.bool r)) w := by
    simp only [execOp, ho, ex, ey]
    simp only [Sem.run_bind, hg, Result.andThen_ok, h, Sem.run_pure]
  rw [this]
  exact hK _ w ⟨rfl, rfl⟩
end
end Go.Proofs.YthkbnbnfjnliaaaDoor
/- Messages in order: mathematics. No condition. -/
namespace Go.Proofs.YthkbnbnfjnliaaaDoor
set_option maxRecDepth 100000

/-- The order of messages: by To, then by From, then by Val. -/
def lessM (a b : E) : Bool := if a.2.1 = b.2.1 then (if a.1 = b.1 then decide (a.2.2 < b.2.2) else decide (a.1 < b.1)) else decide (a.2.1 < b.2.1)
theorem lessM_iff (a b : E) : lessM a b = true ↔ a.2.1 < b.2.1 ∨ (a.2.1 = b.2.1 ∧ (a.1 < b.1 ∨ (a.1 = b.1 ∧ a.2.2 < b.2.2))) := by
  unfold lessM
  split
  · split <;> simp only [decide_eq_true_eq] <;> omega
  · simp only [decide_eq_true_eq]; omega
theorem lessM_no (a b : E) : lessM a b = false ↔ b.2.1 < a.2.1 ∨ (b.2.1 = a.2.1 ∧ (b.1 < a.1 ∨ (b.1 = a.1 ∧ b.2.2 ≤ a.2.2))) := by
  rw [← Bool.not_eq_true, lessM_iff]; omega
def leM (a b : E) : Prop := lessM b a = false
theorem leM_iff (a b : E) : leM a b ↔ a.2.1 < b.2.1 ∨ (a.2.1 = b.2.1 ∧ (a.1 < b.1 ∨ (a.1 = b.1 ∧ a.2.2 ≤ b.2.2))) := lessM_no b a
theorem leM_trans {a b c : E} (h : leM a b) (k : leM b c) : leM a c := by rw [leM_iff] at *; omega
theorem leM_anti {a b : E} (h : leM a b) (k : leM b a) : a = b := by
  rw [leM_iff] at h k
  exact Prod.ext (by omega) (Prod.ext (by omega) (by omega))
theorem leM_of_less {a b : E} (h : lessM a b = true) : leM a b := by rw [lessM_iff] at h; rw [leM_iff]; omega
theorem sortedM_eq : ∀ (l m : List E), l.Perm m → l.Pairwise leM → m.Pairwise leM → l = m
  | [], m, h, _, _ => (List.Perm.nil_eq h)
  | a :: l, [], h, _, _ => absurd h.length_eq (by simp)
  | a :: l, b :: m, h, h1, h2 => by
    obtain ⟨h1a, k1⟩ := List.pairwise_cons.1 h1
    obtain ⟨h2b, k2⟩ := List.pairwise_cons.1 h2
    have hab : a = b := by
      rcases List.mem_cons.1 (h.mem_iff.1 (List.mem_cons_self (a := a) (l := l))) with e | e
      · exact e
      rcases List.mem_cons.1 (h.mem_iff.2 (List.mem_cons_self (a := b) (l := m))) with e' | e'
      · exact e'.symm
      exact leM_anti (h1a b e') (h2b a e)
    subst hab
    rw [sortedM_eq l m (List.Perm.cons_inv h) k1 k2]
/-- A message put in behind all that aren't greater. -/
def insM (x : E) : List E → List E
  | [] => [x]
  | y :: ys => if lessM x y = true then x :: y :: ys else y :: insM x ys
theorem insM_at (x : E) : ∀ (l : List E) (k : Nat), k ≤ l.length → (∀ j y, j < k → l[j]? = some y → lessM x y = false) → (∀ y, l[k]? = some y → lessM x y = true) → insM x l = l.take k ++ [x] ++ l.drop k
  | [], k, hk, _, _ => by
    obtain rfl : k = 0 := by simpa using hk
    rfl
  | y :: ys, 0, _, _, h2 => by
    have := h2 y rfl
    simp [insM, this]
  | y :: ys, k + 1, hk, h1, h2 => by
    have h := h1 0 y (Nat.succ_pos _) rfl
    have ih := insM_at x ys k (by simpa using hk) (fun j z hj hz => h1 (j + 1) z (by omega) (by simpa using hz)) (fun z hz => h2 z (by simpa using hz))
    simp only [insM, h, Bool.false_eq_true, if_false, ih]
    simp
theorem insM_perm (x : E) : ∀ l : List E, (insM x l).Perm (x :: l)
  | [] => List.Perm.refl _
  | y :: ys => by
    unfold insM
    split
    · exact List.Perm.refl _
    · exact ((insM_perm x ys).cons y).trans (List.Perm.swap x y ys)
theorem insM_sorted (x : E) : ∀ l : List E, l.Pairwise leM → (insM x l).Pairwise leM
  | [], _ => by simp [insM]
  | y :: ys, h => by
    obtain ⟨h1, h2⟩ := List.pairwise_cons.1 h
    unfold insM
    split
    · rename_i hx
      refine List.pairwise_cons.2 ⟨fun z hz => ?_, h⟩
      rcases List.mem_cons.1 hz with rfl | hz
      · exact leM_of_less hx
      · exact leM_trans (leM_of_less hx) (h1 z hz)
    · rename_i hx
      refine List.pairwise_cons.2 ⟨fun z hz => ?_, insM_sorted x ys h2⟩
      rcases List.mem_cons.1 ((insM_perm x ys).mem_iff.1 hz) with rfl | hz
      · exact Bool.eq_false_iff.2 hx
      · exact h1 z hz
/-- Messages in order. -/
def sortM (l : List E) : List E := l.foldl (fun o x => insM x o) []
theorem sortM_snoc {l : List E} {i : Nat} {x : E} (h : l[i]? = some x) : sortM (l.take (i + 1)) = insM x (sortM (l.take i)) := by
  unfold sortM; rw [List.take_add_one, h, Option.toList_some, List.foldl_append]; rfl
theorem foldIns_perm : ∀ (l o : List E), (l.foldl (fun o x => insM x o) o).Perm (l ++ o)
  | [], o => List.Perm.refl _
  | x :: l, o => by
    simp only [List.foldl_cons, List.cons_append]
    exact (foldIns_perm l _).trans ((List.Perm.append_left l (insM_perm x o)).trans List.perm_middle)
theorem foldIns_sorted : ∀ (l o : List E), o.Pairwise leM → (l.foldl (fun o x => insM x o) o).Pairwise leM
  | [], _, h => h
  | x :: l, _, h => foldIns_sorted l _ (insM_sorted x _ h)
theorem sortM_perm (l : List E) : (sortM l).Perm l := by
  have := foldIns_perm l []
  rwa [List.append_nil] at this
theorem sortM_sorted (l : List E) : (sortM l).Pairwise leM := foldIns_sorted l [] List.Pairwise.nil
theorem sortM_length (l : List E) : (sortM l).length = l.length := (sortM_perm l).length_eq
theorem sortM_mem {l : List E} {x : E} : x ∈ sortM l ↔ x ∈ l := (sortM_perm l).mem_iff
theorem sortM_is {l m : List E} (hp : m.Perm l) (hs : m.Pairwise leM) : m = sortM l := sortedM_eq _ _ (hp.trans (sortM_perm l).symm) hs (sortM_sorted l)
end Go.Proofs.YthkbnbnfjnliaaaDoor
