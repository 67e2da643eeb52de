/- Layer 4: laws for pairs of whole numbers, strings that are compared, rows put together. No condition. -/
import Derived.Test.YtdemoidmhmdgkaaDoorMCode
namespace Go.Proofs.YtdemoidmhmdgkaaDoor
open Go.RowKit Many
set_option maxRecDepth 100000

theorem undPair : Tryd.prog.underlying 78 = some (.array 2 3) := by kernel_rfl
theorem undPairs : Tryd.prog.underlying 76 = some (.slice 78) := by kernel_rfl
theorem infPair : (Tryd.prog.info? 78).map (·.size) = some 2 := by kernel_rfl
theorem infPairb : (Tryd.prog.info? 78).map (fun i => (i.zero, i.size, i.bytes)) = some (some (.agg #[.int .i64 0, .int .i64 0]), 2, 16) := by kernel_rfl
theorem toList_bl (a b : ByteArray) : (a.toList == b.toList) = (bl a == bl b) := by
  rw [Bool.eq_iff_iff, beq_iff_eq, beq_iff_eq, ByteArray.toList_eq, ByteArray.toList_eq]
  constructor
  · intro h; unfold bl; rw [h]
  · intro h; rw [bl_inj h]
theorem run_eqStr (a b : ByteArray) (w : World) : (binOp .eql 9 (.string a) (.string b)).run Tryd.prog w = .ok (.bool (bl a == bl b)) w := by
  rw [← toList_bl]; simp [binOp, Op.stringOp]
theorem run_neStr (a b : ByteArray) (w : World) : (binOp .neq 9 (.string a) (.string b)).run Tryd.prog w = .ok (.bool (bl a != bl b)) w := by
  rw [bne, ← toList_bl]; simp [binOp, Op.stringOp]
theorem size3 (w : World) : (sizeOf 3).run Tryd.prog w = .ok 1 w := by
  obtain ⟨i, hi, _, hs, _⟩ := info_parts infInt
  simp [sizeOf, typeInfo, hi, hs]
theorem part3 (cs : List Value) (i : Nat) (v : Value) (h : cs[i]? = some v) (w : World) : (part 3 cs.toArray i).run Tryd.prog w = .ok v w := by
  have hagg : (isAgg 3).run Tryd.prog w = .ok false w := by
    unfold isAgg
    rw [Sem.run_bind, run_underlying undInt w]
    simp
  simp [part, Sem.run_bind, hagg, h]
theorem run_eqArr2 (D : Nat) (a b c d : Int) (w : World) : (Op.equalIn (D + 2) 78 (.agg #[.int .i64 a, .int .i64 b]) (.agg #[.int .i64 c, .int .i64 d])).run Tryd.prog w = .ok (a == c && b == d) w := by
  rw [Op.equalIn]
  simp only [Sem.run_bind, run_underlying undPair, Result.andThen_ok, size3, Std.Legacy.Range.forIn_eq_forIn_range']
  rw [show (List.range' 0 [:2].size) = [0, 1] from rfl]
  have h0 := part3 [.int .i64 a, .int .i64 b] 0 _ rfl w
  have h1 := part3 [.int .i64 a, .int .i64 b] 1 _ rfl w
  have k0 := part3 [.int .i64 c, .int .i64 d] 0 _ rfl w
  have k1 := part3 [.int .i64 c, .int .i64 d] 1 _ rfl w
  rw [List.forIn_cons]
  simp only [Sem.run_bind, Nat.mul_one, h0, k0, Result.andThen_ok, run_equalIn_int w D 3 .i64 .i64 _ _ undInt]
  cases e1 : (a == c)
  · simp
  · simp only [Bool.not_true, Bool.false_eq_true, if_false, Sem.run_pure, Result.andThen_ok, List.forIn_cons, Sem.run_bind, h1, k1, run_equalIn_int w D 3 .i64 .i64 _ _ undInt]
    cases e2 : (b == d) <;> simp
theorem run_eqPair (a b c d : Int) (w : World) : (binOp .eql 78 (.agg #[.int .i64 a, .int .i64 b]) (.agg #[.int .i64 c, .int .i64 d])).run Tryd.prog w = .ok (.bool (a == c && b == d)) w := by
  rw [run_eql_struct]
  rw [run_eqArr2 9998 a b c d w]
  rfl
section
variable {L : List (Nat × Value)} {w : World} {ty : TypeId}
theorem runs_eqStr {t' : TypeId} {x y : Operand} {a b : ByteArray} {r : Bool} (hx : vals L x = some (.string a)) (hy : vals L y = some (.string b)) (hr : (bl a == bl b) = r) : Runs Tryd.prog (.binOp .eql 9 x y t') ty L w (Is (.bool r) w) :=
  runs_bin hx hy rfl (by rw [run_eqStr, hr])
theorem runs_neStr {t' : TypeId} {x y : Operand} {a b : ByteArray} {r : Bool} (hx : vals L x = some (.string a)) (hy : vals L y = some (.string b)) (hr : (bl a != bl b) = r) : Runs Tryd.prog (.binOp .neq 9 x y t') ty L w (Is (.bool r) w) :=
  runs_bin hx hy rfl (by rw [run_neStr, hr])
theorem runs_eqPair {t' : TypeId} {X Y : Operand} {a b c d : Int} {r : Bool} (hx : vals L X = some (.agg #[.int .i64 a, .int .i64 b])) (hy : vals L Y = some (.agg #[.int .i64 c, .int .i64 d])) (hr : (a == c && b == d) = r) : Runs Tryd.prog (.binOp .eql 78 X Y t') ty L w (Is (.bool r) w) := fun o act K Q ho _ hL hK => by
  have ex := hL X (by simp [Op.operands]) _ hx
  have ey := hL Y (by simp [Op.operands]) _ hy
  have h := run_eqPair a b c d w
  have hg : (eqGuard .eql 78 X Y (.agg #[.int .i64 a, .int .i64 b]) (.agg #[.int .i64 c, .int .i64 d])).run Tryd.prog w = .ok () w := by
    have hp : Tryd.prog.eqGuardType Tryd.prog.depth 78 = false := by kernel_rfl
    simp [eqGuard, hp]
  unfold Oper.wp
  have : (execOp act.eval o).run Tryd.prog w = .ok (.value (.bool r)) w := by
    simp only [execOp, ho, ex, ey]
    simp only [Sem.run_bind, hg, Result.andThen_ok, h, hr, Sem.run_pure]
  rw [this]
  exact hK _ w ⟨rfl, rfl⟩
theorem runs_build2 {x y : Operand} {a b : Int} (hx : vals L x = some (.int .i64 a)) (hy : vals L y = some (.int .i64 b)) : Runs Tryd.prog (.build 78 #[(0, x), (1, y)]) ty L w (Is (.agg #[.int .i64 a, .int .i64 b]) w) := fun o act K Q ho _ hL hK => by
  have ex := hL x (by simp [Op.operands]) _ hx
  have ey := hL y (by simp [Op.operands]) _ hy
  obtain ⟨i2, hi2, hz2, hs2, _⟩ := info_parts infPairb
  obtain ⟨i3, hi3, hz3, hs3, _⟩ := info_parts infInt
  unfold Oper.wp
  have : (execOp act.eval o).run Tryd.prog w = .ok (.value (.agg #[.int .i64 a, .int .i64 b])) w := by
    simp only [execOp, ho, List.map_toArray, List.map_cons, List.map_nil, ex, ey]
    simp [Instr.build, zeroValue, typeInfo, hi2, hz2, run_underlying undPair, sizeOf, hi3, hs3, Instr.fill, Value.cells]
  rw [this]
  exact hK _ _ ⟨rfl, rfl⟩
end
section
variable {P : Program} {L : List (Nat × Value)} {w : World} {ty : TypeId}
theorem runs_indexArrO {t e : TypeId} {x y : Operand} {g o' m : Nat} {k : IntKind} {i : Int} {j : Nat} (hx : vals L x = some (.pointer (some ⟨g, o', none⟩))) (hy : vals L y = some (.int k i)) (hu : P.underlying t = some (.array m e))
    (hs : (P.info? e).map (·.size) = some 1) (hj : i = (j : Int)) (hl : j < m) : Runs P (.indexAddr t x y) ty L w (Is (.pointer (some ⟨g, o' + j, none⟩)) w) := fun o a K Q ho _ hL hK => by
  have ex := hL x (by simp [Op.operands]) _ hx
  have ey := hL y (by simp [Op.operands]) _ hy
  subst hj
  obtain ⟨ie, hie⟩ : ∃ ie, P.info? e = some ie := by
    cases h : P.info? e with
    | none => rw [h] at hs; cases hs
    | some ie => exact ⟨ie, rfl⟩
  have hsz : ie.size = 1 := by rw [hie] at hs; simpa using hs
  unfold Oper.wp
  have : (execOp a.eval o).run P w = .ok (.value (.pointer (some ⟨g, o' + j, none⟩))) w := by
    simp only [execOp, ho, ex, ey]
    simp [Instr.indexAt, Instr.sureAddr, asIntOf, run_underlying hu, sizeOf, typeInfo, hie, hsz, hl, add_lit']
  rw [this]
  exact hK _ w ⟨rfl, rfl⟩
/-- append upon a row of the call's own, of a row of its own, whatever they are. -/
theorem runs_appendOwns {t e : TypeId} {s x : Operand} {i : TypeInfo} {z v1 v2 : Value} {bytes B B' n1 n2 sz : Nat} {xs1 xs2 : List Value} (ht : P.underlying t = some (.slice e)) (hi : P.info? e = some i) (hz : i.zero = some z)
    (hsize : i.size = sz) (hby : i.bytes = bytes) (hzs : z.cells.size = sz) (hsz : 0 < sz) (hs : vals L s = some v1) (hx : vals L x = some v2) (h1 : w.ownsRow B e sz v1 n1 xs1) (h2 : w.ownsRow B' e sz v2 n2 xs2) (hone : ∀ u ∈ xs2, u.oneCell' = true) (h63 : n1 + n2 ≤ maxLen) (hbytes : (n1 + n2) * bytes ≤ 140737488355328) (hB : B ≤ w.heap.size) :
    Runs P (.call { callee := .builtin .append, args := #[s, x], argTypes := #[t, t] }) ty L w (fun v w' => w'.ownsRow B e sz v (n1 + n2) (xs1 ++ xs2) ∧ w.grownBy w' v1.ownBlock) := by
  have same : n2 = 0 → w.ownsRow B e sz v1 (n1 + n2) (xs1 ++ xs2) := fun h0 => by
    subst h0
    obtain rfl : xs2 = [] := List.eq_nil_of_length_eq_zero (by rw [h2.1]; simp)
    rw [List.append_nil]; exact h1
  have hrefl : w.grownBy w v1.ownBlock := ⟨rfl, rfl, rfl, Nat.le_refl _, fun _ _ _ => rfl⟩
  by_cases h0 : n2 = 0
  · have hsh2 : ∃ A c', v2 = .slice A 0 c' := by
      rcases h2.2 with ⟨rfl, _⟩ | ⟨g, cap, _, rfl, _⟩
      · exact ⟨_, _, rfl⟩
      · subst h0; exact ⟨_, _, rfl⟩
    obtain ⟨A2, c2, rfl⟩ := hsh2
    rcases id h1.2 with ⟨rfl, _⟩ | ⟨g, cap, _, rfl, _, _, hnc, _⟩
    · exact (runs_appendNil ht hi hs hx).mono (by rintro v w' ⟨rfl, rfl⟩; exact ⟨same h0, hrefl⟩)
    · exact (runs_appendNone ht hi hs hnc (by simp) hx).mono (by rintro v w' ⟨rfl, rfl⟩; exact ⟨same h0, hrefl⟩)
  · rcases id h2.2 with ⟨_, hz⟩ | ⟨g, cap, _, rfl, _⟩
    · exact absurd hz h0
    exact (runs_appendN ht hi hz hsize hby hzs hsz hs h1 hx (news := xs2) h2.1 (fun j u hj => h2.cells rfl j u hj) hone h63 hbytes hB (by omega)).mono (fun v w' h => ⟨h.1, h.2.1⟩)
end
/-- Rows of pairs. -/
def P2 (ps : List (Nat × Nat)) : List Value := ps.flatMap (fun p => [.int .i64 (p.1 : Int), .int .i64 (p.2 : Int)])
theorem P2_length (ps : List (Nat × Nat)) : (P2 ps).length = ps.length * 2 := by
  induction ps with
  | nil => rfl
  | cons x xs ih => unfold P2 at ih ⊢; rw [List.flatMap_cons, List.length_append, ih]; simp; omega
theorem P2_append (a b : List (Nat × Nat)) : P2 (a ++ b) = P2 a ++ P2 b := by unfold P2; rw [List.flatMap_append]
theorem P2_one (ps : List (Nat × Nat)) : ∀ u ∈ P2 ps, u.oneCell' = true := by
  intro u hu
  unfold P2 at hu
  obtain ⟨p, _, hp⟩ := List.mem_flatMap.1 hu
  simp only [List.mem_cons, List.not_mem_nil, or_false] at hp
  rcases hp with rfl | rfl <;> rfl
theorem P2_get : ∀ (ps : List (Nat × Nat)) (i : Nat) (h : i < ps.length), (P2 ps)[i * 2]? = some (.int .i64 ((ps[i].1 : Nat) : Int)) ∧ (P2 ps)[i * 2 + 1]? = some (.int .i64 ((ps[i].2 : Nat) : Int))
  | [], i, h => by simp at h
  | p :: ps, 0, _ => ⟨rfl, rfl⟩
  | p :: ps, i + 1, h => by
    have := P2_get ps i (by simpa using h)
    have e : P2 (p :: ps) = [.int .i64 (p.1 : Int), .int .i64 (p.2 : Int)] ++ P2 ps := rfl
    rw [e, show (i + 1) * 2 = i * 2 + 2 by omega, show i * 2 + 2 + 1 = (i * 2 + 1) + 2 by omega]
    exact this
def Pairs (w : World) (v : Value) (ps : List (Nat × Nat)) : Prop :=
  ∃ A c, v = .slice A ps.length c ∧ ps.length ≤ c ∧ c ≤ maxLen ∧ (0 < ps.length → ∃ b o, A = some ⟨b, o, none⟩ ∧ b < w.heap.size ∧ w.rangeAt b o (P2 ps))
theorem Pairs.kept {w w' : World} {v : Value} {ps : List (Nat × Nat)} (h : Pairs w v ps) (k : Below w.heap.size w w') : Pairs w' v ps := by
  obtain ⟨A, c, rfl, h1, h2, hA⟩ := h
  refine ⟨A, c, rfl, h1, h2, fun h0 => ?_⟩
  obtain ⟨b, o, rfl, hb, hr⟩ := hA h0
  exact ⟨b, o, rfl, Nat.lt_of_lt_of_le hb k.size, range_below hr k hb⟩
theorem pairs_own {w : World} {base : Nat} {v : Value} {ps : List (Nat × Nat)} (h : w.ownsRow base 78 2 v ps.length (P2 ps)) : Pairs w v ps := by
  rcases h.2 with ⟨rfl, h0⟩ | ⟨g, cap, cur, rfl, hb, hg, h1, h2, h3, h4⟩
  · exact ⟨none, 0, by rw [h0], by omega, by unfold maxLen; omega, fun h => by omega⟩
  · refine ⟨_, cap, rfl, h1, h2, fun _ => ⟨g, 0, rfl, (Array.getElem?_eq_some_iff.1 hg).1, fun j u hj => ?_⟩⟩
    have := h.cells (g := g) rfl j u hj
    rwa [add_lit'] at this
end Go.Proofs.YtdemoidmhmdgkaaDoor
/- Plain mathematics: the document's own parts, and where their sums and leaves stand. No condition. -/
namespace Many
open Go.Proofs.YtdemoidmhmdgkaaDoor

def sub (f n : Nat) (l : List Nat) : List Nat := l.filter (fun x => decide (f ≤ x) && decide (x < f + n))
theorem take_filter (mid : Nat) {hi : Nat} : ∀ {l : List Nat} {lo : Nat}, Rise lo hi l → l.take (belowN mid l) = l.filter (fun x => decide (x < mid))
  | [], _, _ => rfl
  | x :: xs, lo, h => by
    unfold belowN
    by_cases hx : x < mid
    · rw [if_pos hx, List.take_succ_cons, List.filter_cons_of_pos (by simpa using hx), take_filter mid h.2.2]
    · rw [if_neg hx, List.take_zero, List.filter_cons_of_neg (by simpa using hx)]
      symm
      rw [List.filter_eq_nil_iff]
      intro y hy
      have := h.2.2.mem y hy
      simp; omega
theorem drop_filter (mid : Nat) {hi : Nat} : ∀ {l : List Nat} {lo : Nat}, Rise lo hi l → l.drop (belowN mid l) = l.filter (fun x => decide (mid ≤ x))
  | [], _, _ => rfl
  | x :: xs, lo, h => by
    unfold belowN
    by_cases hx : x < mid
    · rw [if_pos hx, List.drop_succ_cons, List.filter_cons_of_neg (by simp; omega), drop_filter mid h.2.2]
    · rw [if_neg hx, List.drop_zero]
      symm
      rw [List.filter_eq_self]
      intro y hy
      have h3 := h.2.2
      rcases List.mem_cons.1 hy with rfl | hy
      · simp; omega
      · have := h3.mem y hy
        simp; omega
theorem rise_filter (p : Nat → Bool) {hi : Nat} : ∀ {l : List Nat} {lo : Nat}, Rise lo hi l → Rise lo hi (l.filter p)
  | [], _, _ => trivial
  | x :: xs, lo, h => by
    by_cases hp : p x = true
    · rw [List.filter_cons_of_pos hp]; exact ⟨h.1, h.2.1, rise_filter p h.2.2⟩
    · rw [List.filter_cons_of_neg hp]; exact (rise_filter p h.2.2).mono (by have := h.1; omega)
theorem sub_take {f n k lo hi : Nat} {l : List Nat} (h : Rise lo hi l) (hk : k ≤ n) : (sub f n l).take (belowN (f + k) (sub f n l)) = sub f k l := by
  unfold sub
  rw [take_filter (f + k) (rise_filter _ h), List.filter_filter]
  apply List.filter_congr
  intro x _
  rw [Bool.eq_iff_iff]
  simp; omega
theorem sub_drop {f n k lo hi : Nat} {l : List Nat} (h : Rise lo hi l) (hk : k ≤ n) : (sub f n l).drop (belowN (f + k) (sub f n l)) = sub (f + k) (n - k) l := by
  unfold sub
  rw [drop_filter (f + k) (rise_filter _ h), List.filter_filter]
  apply List.filter_congr
  intro x _
  rw [Bool.eq_iff_iff]
  simp; omega
theorem sub_all {n : Nat} {l : List Nat} (h : Rise 0 n l) : sub 0 n l = l := by
  unfold sub
  rw [List.filter_eq_self]
  intro x hx
  have := h.mem x hx
  simp; omega
theorem sub_nil {f n : Nat} {l : List Nat} : sub f n l = [] ↔ l.any (fun x => decide (f ≤ x) && decide (x < f + n)) = false := by
  unfold sub
  rw [List.filter_eq_nil_iff, List.any_eq_false]
theorem rise_sub {f n lo hi : Nat} {l : List Nat} (h : Rise lo hi l) : Rise f (f + n) (sub f n l) := by
  have h1 : Rise lo hi (sub f n l) := rise_filter _ h
  have h2 : ∀ x ∈ sub f n l, f ≤ x ∧ x < f + n := fun x hx => by
    have := (List.mem_filter.1 hx).2
    simpa using this
  generalize sub f n l = s at *
  clear h
  induction s generalizing lo f n with
  | nil => trivial
  | cons x xs ih =>
    refine ⟨(h2 x (by simp)).1, (h2 x (by simp)).2, ?_⟩
    have h3 := h1.2.2
    have := ih (f := x + 1) (n := f + n - (x + 1)) h3 (fun y hy => by
      have e1 := h3.mem y hy
      have e2 := h2 y (by simp [hy])
      omega)
    have hx := (h2 x (by simp)).2
    rwa [show x + 1 + (f + n - (x + 1)) = f + n by omega] at this
/-- How at is cut by a part: what is ahead of it, in it, behind it. -/
theorem sub_cut {f n lo hi : Nat} {l : List Nat} (h : Rise lo hi l) : l = sub 0 f l ++ sub f n l ++ l.filter (fun x => decide (f + n ≤ x)) := by
  have e1 : l.take (belowN (f + n) l) = l.filter (fun x => decide (x < f + n)) := take_filter _ h
  have e2 : l.drop (belowN (f + n) l) = l.filter (fun x => decide (f + n ≤ x)) := drop_filter _ h
  have h3 : Rise lo hi (l.filter (fun x => decide (x < f + n))) := rise_filter _ h
  have e3 := take_filter f h3
  have e4 := drop_filter f h3
  have e5 : sub 0 f l = (l.filter (fun x => decide (x < f + n))).filter (fun x => decide (x < f)) := by
    unfold sub; rw [List.filter_filter]; apply List.filter_congr; intro x _; rw [Bool.eq_iff_iff]; simp; omega
  have e6 : sub f n l = (l.filter (fun x => decide (x < f + n))).filter (fun x => decide (f ≤ x)) := by
    unfold sub; rw [List.filter_filter]
  rw [e5, e6, ← e3, ← e4, List.take_append_drop, ← e1, ← e2, List.take_append_drop]
/-- Where a part stands among all parts. -/
structure Stands (ps A B : List (Nat × Nat)) (f n : Nat) (l : List Nat) : Prop where
  is : ps = A ++ parts f n (sub f n l) ++ B
  a : ∀ x ∈ A, x.1 + x.2 ≤ f
  b : ∀ x ∈ B, f + n ≤ x.1
theorem Stands.left {ps A B : List (Nat × Nat)} {f n lo hi : Nat} {l : List Nat} (h : Stands ps A B f n l) (hr : Rise lo hi l) (h0 : sub f n l ≠ []) (hn : ¬ n < 2) : Stands ps A (parts (f + Tree.half n) (n - Tree.half n) (sub (f + Tree.half n) (n - Tree.half n) l) ++ B) f (Tree.half n) l := by
  have hh := Tree.half_lt (n := n) (by omega)
  refine ⟨?_, h.a, fun x hx => ?_⟩
  · rw [h.is, parts_more h0 hn, sub_take hr (by omega), sub_drop hr (by omega)]; simp
  · rcases List.mem_append.1 hx with hx | hx
    · exact (parts_in _ _ _ x hx).1
    · have := h.b x hx; omega
theorem Stands.right {ps A B : List (Nat × Nat)} {f n lo hi : Nat} {l : List Nat} (h : Stands ps A B f n l) (hr : Rise lo hi l) (h0 : sub f n l ≠ []) (hn : ¬ n < 2) : Stands ps (A ++ parts f (Tree.half n) (sub f (Tree.half n) l)) B (f + Tree.half n) (n - Tree.half n) l := by
  have hh := Tree.half_lt (n := n) (by omega)
  refine ⟨?_, fun x hx => ?_, fun x hx => ?_⟩
  · rw [h.is, parts_more h0 hn, sub_take hr (by omega), sub_drop hr (by omega)]; simp
  · rcases List.mem_append.1 hx with hx | hx
    · have := h.a x hx; omega
    · exact (parts_in _ _ _ x hx).2
  · have := h.b x hx; omega
theorem Stands.none {ps A B : List (Nat × Nat)} {f n : Nat} {l : List Nat} (h : Stands ps A B f n l) (h0 : sub f n l ≠ []) (h1 : 1 ≤ n) : (f, n) ∉ ps := by
  intro hm
  rw [h.is] at hm
  simp only [List.mem_append] at hm
  rcases hm with (hm | hm) | hm
  · have := h.a _ hm; simp at this; omega
  · by_cases hn : n < 2
    · rw [parts_small h0 hn] at hm; simp at hm
    · have hh := Tree.half_lt (n := n) (by omega)
      have hp := Tree.half_pos n
      rw [parts_more h0 hn, List.mem_append] at hm
      rcases hm with hm | hm
      · have := (parts_in _ _ _ _ hm).2; simp at this; omega
      · have := (parts_in _ _ _ _ hm).1; simp at this; omega
  · have := h.b _ hm; simp at this; omega
theorem Stands.here {ps A B : List (Nat × Nat)} {f n : Nat} {l : List Nat} (h : Stands ps A B f n l) (h0 : sub f n l = []) (h1 : 1 ≤ n ∨ A = []) : A.length < ps.length ∧ ps[A.length]? = some (f, n) ∧ ∀ i, i < A.length → ps[i]? ≠ some (f, n) := by
  have e := h.is
  rw [h0, parts_nil] at e
  refine ⟨by rw [e]; simp, by rw [e]; simp, fun i hi he => ?_⟩
  rw [e, List.append_assoc, List.getElem?_append_left hi] at he
  rcases h1 with h1 | h1
  · have := h.a _ (List.mem_of_getElem? he)
    simp at this; omega
  · subst h1; simp at hi
theorem sub_len_le {f n : Nat} (l : List Nat) : (sub f n l).length ≤ l.length := List.length_filter_le _ _
end Many
/- Layer 4: the document's own Rises, in, Half, Tops, Size, Prove; the law's pick. Conditions: leaves of at most 900 bytes. -/
namespace Go.Proofs.YtdemoidmhmdgkaaDoor
open Go.RowKit Many
set_option maxRecDepth 100000

theorem goes25 : Goes Tryd.prog 25 := goes_of Tryd.func25 (by kernel_rfl) rfl
theorem goes28 : Goes Tryd.prog 28 := goes_of Tryd.func28 (by kernel_rfl) rfl
theorem goes30 : Goes Tryd.prog 30 := goes_of Tryd.func30 (by kernel_rfl) rfl
theorem goes59 : Goes Tryd.prog 59 := goes_of Tryd.func59 (by kernel_rfl) rfl
set_option maxHeartbeats 1000000 in
theorem refRises_any (n : Int) (xs : List Int) (v : Value) (w : World) (hs : Ints w v xs) : Calls Tryd.prog 21 #[.int .i64 n, v] w fun e w' => e = .returned (.bool (risesB n (-1) xs)) ∧ w' = w := by
  obtain ⟨A, c, rfl, h1, h2, hA⟩ := hs
  refine calls_qx (args := [.int .i64 n, .slice A xs.length c]) 31 Tryd.func21 rfl (by kernel_rfl) (by simp) (fun a hS => ?_)
  unfold maxLen at h2
  refine qx_seq (reg_seq ?_)
  refine seq_is hS (by decide) (runs_assign rfl) (fun a1 hS => ?_)
  refine nil_ok (qx_seq (reg_seq ?_))
  refine seq_is hS (by decide) (runs_assign rfl) (fun a1 hS => ?_)
  refine nil_ok (qx_seq (qx_seq (reg_seq ?_)))
  refine seq_is hS (by decide) (runs_assign rfl) (fun a1 hS => ?_)
  refine nil_ok (qx_for (fun m a w' => ∃ i last, i ≤ xs.length ∧ m = xs.length - i ∧ w' = w ∧ risesB n (-1) xs = risesB n last (xs.drop i) ∧ Sees 31 [(6, .int .i64 (i : Int)), (5, .int .i64 last), (1, .slice A xs.length c), (0, .int .i64 n)] a) xs.length ⟨0, -1, by omega, by omega, rfl, by rw [List.drop_zero], hS.only _ ⟨rfl, rfl, rfl, rfl, trivial⟩⟩ ?_)
  rintro m a w' ⟨i, last, hi, rfl, rfl, he, hS⟩
  refine reg_seq ?_
  refine seq_is hS (by decide) (runs_move rfl) (fun a1 hS => ?_)
  refine seq_is hS (by decide) (runs_move rfl) (fun a1 hS => ?_)
  refine seq_is hS (by decide) (runs_len rfl undInts) (fun a1 hS => ?_)
  by_cases hlt : i < xs.length
  · obtain ⟨b, o, rfl, hb, hcell⟩ := hA (by omega)
    have hc := hcell i hlt
    rw [rises_step hlt] at he
    generalize xs.getD i 0 = x at *
    refine seq_is hS (by decide) (runs_lss (r := true) rfl rfl (by rw [decide_eq_true_eq]; omega)) (fun a1 hS => ?_)
    refine nil_ok ⟨_, hS.eval rfl, fun h => by simp at h, fun _ => ?_⟩
    refine qx_seq (qx_block (qx_seq (qx_seq (reg_seq ?_))))
    refine seq_is hS (by decide) (runs_move rfl) (fun a1 hS => ?_)
    refine seq_is hS (by decide) (runs_move rfl) (fun a1 hS => ?_)
    refine seq_is hS (by decide) (runs_indexAddr (j := i) rfl rfl undInts infInt1 rfl hlt) (fun a1 hS => ?_)
    refine seq_is hS (by decide) (runs_load rfl (by kernel_rfl) hc) (fun a1 hS => ?_)
    refine seq_is hS (by decide) (runs_move rfl) (fun a1 hS => ?_)
    by_cases hle : x ≤ last
    · have hf : risesB n (-1) xs = false := by rw [he, show decide (last < x) = false by rw [decide_eq_false_iff_not]; omega]; simp
      refine seq_is hS (by decide) (runs_leq (r := true) rfl rfl (by rw [decide_eq_true_eq]; omega)) (fun a1 hS => ?_)
      refine seq_is hS (by decide) (runs_move rfl) (fun a1 hS => ?_)
      refine seq_no hS (by decide) rfl (by decide) rfl rfl (fun a1 hS => ?_)
      refine seq_no hS (by decide) rfl (by decide) rfl rfl (fun a1 hS => ?_)
      refine seq_no hS (by decide) rfl (by decide) rfl rfl (fun a1 hS => ?_)
      refine seq_no hS (by decide) rfl (by decide) rfl rfl (fun a1 hS => ?_)
      refine seq_no hS (by decide) rfl (by decide) rfl rfl (fun a1 hS => ?_)
      refine seq_no hS (by decide) rfl (by decide) rfl rfl (fun a1 hS => ?_)
      refine seq_is hS (by decide) (runs_pick rfl rfl) (fun a1 hS => ?_)
      refine nil_ok (wp_cond_true (hS.eval rfl) (qx_seq (reg_seq ?_)))
      refine seq_is hS (by decide) (runs_assign rfl) (fun a1 hS => ?_)
      exact nil_ok (qx_ret (ret1 (t := 4) (by kernel_rfl) hS rfl ⟨by rw [hf], rfl⟩))
    · refine seq_is hS (by decide) (runs_leq (r := false) rfl rfl (by rw [decide_eq_false_iff_not]; omega)) (fun a1 hS => ?_)
      refine seq_is hS (by decide) (runs_move rfl) (fun a1 hS => ?_)
      refine seq_yis hS (by decide) rfl (by decide) rfl (runs_move rfl) (fun a1 hS => ?_)
      refine seq_yis hS (by decide) rfl (by decide) rfl (runs_move rfl) (fun a1 hS => ?_)
      refine seq_yis hS (by decide) rfl (by decide) rfl (runs_indexAddr (j := i) rfl rfl undInts infInt1 rfl hlt) (fun a1 hS => ?_)
      refine seq_yis hS (by decide) rfl (by decide) rfl (runs_load rfl (by kernel_rfl) hc) (fun a1 hS => ?_)
      refine seq_yis hS (by decide) rfl (by decide) rfl (runs_move rfl) (fun a1 hS => ?_)
      by_cases hge : x ≥ n
      · have hf : risesB n (-1) xs = false := by rw [he, show decide (x < n) = false by rw [decide_eq_false_iff_not]; omega]; simp
        refine seq_yis hS (by decide) rfl (by decide) rfl (runs_geq (r := true) rfl rfl (by rw [decide_eq_true_eq]; omega)) (fun a1 hS => ?_)
        refine seq_is hS (by decide) (runs_pick rfl rfl) (fun a1 hS => ?_)
        refine nil_ok (wp_cond_true (hS.eval rfl) (qx_seq (reg_seq ?_)))
        refine seq_is hS (by decide) (runs_assign rfl) (fun a1 hS => ?_)
        exact nil_ok (qx_ret (ret1 (t := 4) (by kernel_rfl) hS rfl ⟨by rw [hf], rfl⟩))
      · have hf : risesB n (-1) xs = risesB n x (xs.drop (i + 1)) := by rw [he, show decide (x < n) = true by rw [decide_eq_true_eq]; omega, show decide (last < x) = true by rw [decide_eq_true_eq]; omega]; simp
        refine seq_yis hS (by decide) rfl (by decide) rfl (runs_geq (r := false) rfl rfl (by rw [decide_eq_false_iff_not]; omega)) (fun a1 hS => ?_)
        refine seq_is hS (by decide) (runs_pick rfl rfl) (fun a1 hS => ?_)
        refine nil_ok (wp_cond_false (hS.eval rfl) (wp_skip (reg_seq ?_)))
        refine seq_is hS (by decide) (runs_move rfl) (fun a1 hS => ?_)
        refine seq_is hS (by decide) (runs_move rfl) (fun a1 hS => ?_)
        refine seq_is hS (by decide) (runs_indexAddr (j := i) rfl rfl undInts infInt1 rfl hlt) (fun a1 hS => ?_)
        refine seq_is hS (by decide) (runs_load rfl (by kernel_rfl) hc) (fun a1 hS => ?_)
        refine seq_is hS (by decide) (runs_assign rfl) (fun a1 hS => ?_)
        refine nil_ok (reg_seq ?_)
        refine seq_is hS (by decide) (runs_move rfl) (fun a1 hS => ?_)
        refine seq_is hS (by decide) (runs_add rfl rfl ((IntWalk.i64_in _ (by omega)).trans (show (i : Int) + 1 = ((i + 1 : Nat) : Int) by omega))) (fun a1 hS => ?_)
        refine seq_is hS (by decide) (runs_assign rfl) (fun a1 hS => ?_)
        exact nil_ok ⟨xs.length - (i + 1), by omega, i + 1, x, by omega, rfl, rfl, hf, hS.only _ ⟨rfl, rfl, rfl, rfl, trivial⟩⟩
  · refine seq_is hS (by decide) (runs_lss (r := false) rfl rfl (by rw [decide_eq_false_iff_not]; omega)) (fun a1 hS => ?_)
    refine nil_ok ⟨_, hS.eval rfl, fun _ => ?_, fun h => by simp at h⟩
    have hf : risesB n (-1) xs = true := by rw [he, List.drop_eq_nil_of_le (by omega)]; rfl
    refine qx_seq (reg_seq ?_)
    refine seq_is hS (by decide) (runs_assign rfl) (fun a1 hS => ?_)
    exact nil_ok (qx_ret (ret1 (t := 4) (by kernel_rfl) hS rfl ⟨by rw [hf], rfl⟩))
theorem refRises_call (n : Int) (xs : List Int) (v : Value) (w : World) (hs : Ints w v xs) : Calls Tryd.prog 21 [Value.int .i64 n, v].toArray w fun e w' => ∃ u, e = .returned u ∧ Is (.bool (risesB n (-1) xs)) w u w' := (refRises_any n xs v w hs).mono (by rintro e w' ⟨rfl, rfl⟩; exact ⟨_, rfl, rfl, rfl⟩)
def inB (lo hi : Int) (xs : List Int) : Bool := xs.any (fun x => decide (lo ≤ x) && decide (x < hi))
set_option maxHeartbeats 1000000 in
theorem in_any (lo hi : Int) (xs : List Int) (v : Value) (w : World) (hs : Ints w v xs) : Calls Tryd.prog 85 #[v, .int .i64 lo, .int .i64 hi] w fun e w' => e = .returned (.bool (inB lo hi xs)) ∧ w' = w := by
  obtain ⟨A, c, rfl, h1, h2, hA⟩ := hs
  refine calls_qx (args := [.slice A xs.length c, .int .i64 lo, .int .i64 hi]) 28 Tryd.func85 rfl (by kernel_rfl) (by simp) (fun a hS => ?_)
  unfold maxLen at h2
  refine qx_seq (reg_seq ?_)
  refine seq_is hS (by decide) (runs_assign rfl) (fun a1 hS => ?_)
  refine nil_ok (qx_seq (qx_seq (reg_seq ?_)))
  refine seq_is hS (by decide) (runs_assign rfl) (fun a1 hS => ?_)
  refine nil_ok (qx_for (fun m a w' => ∃ i, i ≤ xs.length ∧ m = xs.length - i ∧ w' = w ∧ inB lo hi xs = inB lo hi (xs.drop i) ∧ Sees 28 [(7, .int .i64 (i : Int)), (0, .slice A xs.length c), (1, .int .i64 lo), (2, .int .i64 hi)] a) xs.length ⟨0, by omega, by omega, rfl, by rw [List.drop_zero], hS.only _ ⟨rfl, rfl, rfl, rfl, trivial⟩⟩ ?_)
  rintro m a w' ⟨i, hi', rfl, rfl, he, hS⟩
  refine reg_seq ?_
  refine seq_is hS (by decide) (runs_move rfl) (fun a1 hS => ?_)
  refine seq_is hS (by decide) (runs_move rfl) (fun a1 hS => ?_)
  refine seq_is hS (by decide) (runs_len rfl undInts) (fun a1 hS => ?_)
  by_cases hlt : i < xs.length
  · obtain ⟨b, o, rfl, hb, hcell⟩ := hA (by omega)
    have hc := hcell i hlt
    rw [List.drop_eq_getElem_cons hlt] at he
    unfold inB at he
    rw [List.any_cons] at he
    rw [show xs.getD i 0 = xs[i] by simp [hlt]] at hc
    generalize xs[i] = x at *
    refine seq_is hS (by decide) (runs_lss (r := true) rfl rfl (by rw [decide_eq_true_eq]; omega)) (fun a1 hS => ?_)
    refine nil_ok ⟨_, hS.eval rfl, fun h => by simp at h, fun _ => ?_⟩
    refine qx_seq (qx_block (qx_seq (reg_seq ?_)))
    refine seq_is hS (by decide) (runs_move rfl) (fun a1 hS => ?_)
    refine seq_is hS (by decide) (runs_move rfl) (fun a1 hS => ?_)
    refine seq_is hS (by decide) (runs_indexAddr (j := i) rfl rfl undInts infInt1 rfl hlt) (fun a1 hS => ?_)
    refine seq_is hS (by decide) (runs_load rfl (by kernel_rfl) hc) (fun a1 hS => ?_)
    refine seq_is hS (by decide) (runs_move rfl) (fun a1 hS => ?_)
    have next : ∀ (L : List (Nat × Value)) (a9 : Act), inB lo hi xs = inB lo hi (xs.drop (i + 1)) → Sees 28 L a9 → look L 7 = some (.int .i64 (i : Int)) → look L 0 = some (.slice (some ⟨b, o, none⟩) xs.length c) → look L 1 = some (.int .i64 lo) → look L 2 = some (.int .i64 hi) → ∀ (X : Nat → Act → World → Prop) (R : Act → World → Prop), ((Tryd.f85.body.bind (regionIn 3)).getD .skip).wp Tryd.prog (Qx (fun a2 w2 => ∃ m', m' < xs.length - i ∧ ∃ i, i ≤ xs.length ∧ m' = xs.length - i ∧ w2 = w' ∧ inB lo hi xs = inB lo hi (xs.drop i) ∧ Sees 28 [(7, .int .i64 (i : Int)), (0, .slice (some ⟨b, o, none⟩) xs.length c), (1, .int .i64 lo), (2, .int .i64 hi)] a2) X R) a9 w' := fun L a9 he' hS h7 h0 h1' h2' X R => by
      refine reg_seq ?_
      refine seq_is hS (by decide) (runs_move h7) (fun a1 hS => ?_)
      refine seq_is hS (by decide) (runs_add rfl rfl ((IntWalk.i64_in _ (by omega)).trans (show (i : Int) + 1 = ((i + 1 : Nat) : Int) by omega))) (fun a1 hS => ?_)
      refine seq_is hS (by decide) (runs_assign rfl) (fun a1 hS => ?_)
      exact nil_ok ⟨xs.length - (i + 1), by omega, i + 1, by omega, rfl, rfl, he', hS.only _ ⟨rfl, h0, h1', h2', trivial⟩⟩
    by_cases hge : x ≥ lo
    · refine seq_is hS (by decide) (runs_geq (r := true) rfl rfl (by rw [decide_eq_true_eq]; omega)) (fun a1 hS => ?_)
      refine seq_is hS (by decide) (runs_move rfl) (fun a1 hS => ?_)
      refine seq_yis hS (by decide) rfl (by decide) rfl (runs_move rfl) (fun a1 hS => ?_)
      refine seq_yis hS (by decide) rfl (by decide) rfl (runs_move rfl) (fun a1 hS => ?_)
      refine seq_yis hS (by decide) rfl (by decide) rfl (runs_indexAddr (j := i) rfl rfl undInts infInt1 rfl hlt) (fun a1 hS => ?_)
      refine seq_yis hS (by decide) rfl (by decide) rfl (runs_load rfl (by kernel_rfl) hc) (fun a1 hS => ?_)
      refine seq_yis hS (by decide) rfl (by decide) rfl (runs_move rfl) (fun a1 hS => ?_)
      by_cases hl2 : x < hi
      · have hf : inB lo hi xs = true := by unfold inB; rw [he, show decide (lo ≤ x) = true by rw [decide_eq_true_eq]; omega, show decide (x < hi) = true by rw [decide_eq_true_eq]; omega]; rfl
        refine seq_yis hS (by decide) rfl (by decide) rfl (runs_lss (r := true) rfl rfl (by rw [decide_eq_true_eq]; omega)) (fun a1 hS => ?_)
        refine seq_is hS (by decide) (runs_pick rfl rfl) (fun a1 hS => ?_)
        refine nil_ok (wp_cond_true (hS.eval rfl) (qx_seq (reg_seq ?_)))
        refine seq_is hS (by decide) (runs_assign rfl) (fun a1 hS => ?_)
        exact nil_ok (qx_ret (ret1 (t := 6) (by kernel_rfl) hS rfl ⟨by rw [hf], rfl⟩))
      · have hf : inB lo hi xs = inB lo hi (xs.drop (i + 1)) := by unfold inB; rw [he, show decide (x < hi) = false by rw [decide_eq_false_iff_not]; omega]; simp
        refine seq_yis hS (by decide) rfl (by decide) rfl (runs_lss (r := false) rfl rfl (by rw [decide_eq_false_iff_not]; omega)) (fun a1 hS => ?_)
        refine seq_is hS (by decide) (runs_pick rfl rfl) (fun a1 hS => ?_)
        exact nil_ok (wp_cond_false (hS.eval rfl) (wp_skip (next _ _ hf hS rfl rfl rfl rfl _ _)))
    · have hf : inB lo hi xs = inB lo hi (xs.drop (i + 1)) := by unfold inB; rw [he, show decide (lo ≤ x) = false by rw [decide_eq_false_iff_not]; omega]; simp
      refine seq_is hS (by decide) (runs_geq (r := false) rfl rfl (by rw [decide_eq_false_iff_not]; omega)) (fun a1 hS => ?_)
      refine seq_is hS (by decide) (runs_move rfl) (fun a1 hS => ?_)
      refine seq_no hS (by decide) rfl (by decide) rfl rfl (fun a1 hS => ?_)
      refine seq_no hS (by decide) rfl (by decide) rfl rfl (fun a1 hS => ?_)
      refine seq_no hS (by decide) rfl (by decide) rfl rfl (fun a1 hS => ?_)
      refine seq_no hS (by decide) rfl (by decide) rfl rfl (fun a1 hS => ?_)
      refine seq_no hS (by decide) rfl (by decide) rfl rfl (fun a1 hS => ?_)
      refine seq_no hS (by decide) rfl (by decide) rfl rfl (fun a1 hS => ?_)
      refine seq_is hS (by decide) (runs_pick rfl rfl) (fun a1 hS => ?_)
      exact nil_ok (wp_cond_false (hS.eval rfl) (wp_skip (next _ _ hf hS rfl rfl rfl rfl _ _)))
  · refine seq_is hS (by decide) (runs_lss (r := false) rfl rfl (by rw [decide_eq_false_iff_not]; omega)) (fun a1 hS => ?_)
    refine nil_ok ⟨_, hS.eval rfl, fun _ => ?_, fun h => by simp at h⟩
    have hf : inB lo hi xs = false := by rw [he, List.drop_eq_nil_of_le (by omega)]; rfl
    refine qx_seq (reg_seq ?_)
    refine seq_is hS (by decide) (runs_assign rfl) (fun a1 hS => ?_)
    exact nil_ok (qx_ret (ret1 (t := 6) (by kernel_rfl) hS rfl ⟨by rw [hf], rfl⟩))
theorem in_nat (f n : Nat) (l : List Nat) : inB (f : Int) ((f + n : Nat) : Int) (ofN l) = !(sub f n l).isEmpty := by
  have : inB (f : Int) ((f + n : Nat) : Int) (ofN l) = l.any (fun x => decide (f ≤ x) && decide (x < f + n)) := by
    unfold inB ofN
    rw [List.any_map]
    congr 1
    funext x
    simp only [Function.comp]
    rw [Bool.eq_iff_iff]
    simp
    omega
  rw [this]
  cases h : l.any (fun x => decide (f ≤ x) && decide (x < f + n)) with
  | false => rw [sub_nil.2 h]; rfl
  | true =>
    cases hs : sub f n l with
    | nil => rw [sub_nil.1 hs] at h; cases h
    | cons x xs => rfl
theorem refHalfH_any (n : Nat) (w : World) (hn : 2 ≤ n) (hn2 : n ≤ 4294967296) : Calls Tryd.prog 86 [Value.int .i64 (n : Int)].toArray w fun e w' => ∃ v, e = .returned v ∧ Is (.int .i64 ((Tree.half n : Nat) : Int)) w v w' := by
  refine calls_qx (args := [.int .i64 (n : Int)]) 7 Tryd.func86 rfl (by kernel_rfl) (by simp) (fun a hS => ?_)
  refine qx_seq (reg_seq ?_)
  refine seq_is hS (by decide) (runs_assign rfl) (fun a1 hS => ?_)
  refine nil_ok (qx_seq (qx_seq (reg_seq ?_)))
  refine seq_is hS (by decide) (runs_move rfl) (fun a1 hS => ?_)
  refine seq_is hS (by decide) (runs_lss (r := false) rfl rfl (by rw [decide_eq_false_iff_not]; omega)) (fun a1 hS => ?_)
  refine nil_ok (wp_cond_false (hS.eval rfl) (wp_skip (qx_seq (reg_seq ?_))))
  refine seq_is hS (by decide) (runs_move rfl) (fun a1 hS => ?_)
  refine seq_is hS (by decide) (runs_call (args := [.int .i64 (n : Int)]) goes75 rfl (refHalf_any n w hn hn2)) (fun a1 hS => ?_)
  refine seq_is hS (by decide) (runs_assign rfl) (fun a1 hS => ?_)
  exact nil_ok (qx_ret (ret1 (t := 2) (by kernel_rfl) hS rfl ⟨_, rfl, rfl, rfl⟩))
set_option maxHeartbeats 1000000 in
/-- The document's own parts. -/
theorem tops_any (l : List Nat) (hi : Nat) (hr : Rise 0 hi l) : ∀ (n f : Nat) (v : Value) (w : World), f + n ≤ 1000000 → Ints w v (ofN l) →
    Calls Tryd.prog 59 #[.int .i64 (f : Int), .int .i64 (n : Int), v] w fun e w' => ∃ u, e = .returned u ∧ w'.ownsRow w.heap.size 78 2 u (parts f n (sub f n l)).length (P2 (parts f n (sub f n l))) ∧ Below w.heap.size w w' := by
  intro n
  induction n using Nat.strongRecOn with
  | _ n ih =>
    intro f v w hfn hs
    refine calls_qx (args := [.int .i64 (f : Int), .int .i64 (n : Int), v]) 36 Tryd.func59 rfl (by kernel_rfl) (by simp) (fun a hS => ?_)
    obtain ⟨i2, hi2, hz2, hs2, hb2⟩ := info_parts infPairb
    refine qx_seq (reg_seq ?_)
    refine seq_is hS (by decide) (runs_assign rfl) (fun a1 hS => ?_)
    refine nil_ok (qx_seq (qx_seq (reg_seq ?_)))
    refine seq_is hS (by decide) (runs_move rfl) (fun a1 hS => ?_)
    refine seq_is hS (by decide) (runs_move rfl) (fun a1 hS => ?_)
    refine seq_is hS (by decide) (runs_move rfl) (fun a1 hS => ?_)
    refine seq_is hS (by decide) (runs_move rfl) (fun a1 hS => ?_)
    refine seq_is hS (by decide) (runs_add rfl rfl ((IntWalk.i64_in _ (by omega)).trans (show _ = ((f + n : Nat) : Int) by omega))) (fun a1 hS => ?_)
    refine seq_is hS (by decide) (runs_call (args := [v, .int .i64 (f : Int), .int .i64 ((f + n : Nat) : Int)]) (Post := Is (.bool (!(sub f n l).isEmpty)) w) (goes_of Tryd.func85 (by kernel_rfl) rfl) rfl ((in_any _ _ _ v w hs).mono (by rintro e w' ⟨rfl, rfl⟩; exact ⟨_, rfl, by rw [in_nat], rfl⟩))) (fun a1 hS => ?_)
    by_cases h0 : sub f n l = []
    · rw [h0] at hS ⊢
      rw [parts_nil]
      refine seq_is hS (by decide) (runs_not (b := false) rfl) (fun a1 hS => ?_)
      refine nil_ok (wp_cond_true (hS.eval rfl) (qx_seq (reg_seq ?_)))
      refine seq_is hS (by decide) (runs_move rfl) (fun a1 hS => ?_)
      refine seq_is hS (by decide) (runs_move rfl) (fun a1 hS => ?_)
      refine seq_is hS (by decide) (runs_build2 rfl rfl) (fun a1 hS => ?_)
      refine seq_op hS (by decide) (runs_buildRow (cs := [.int .i64 (f : Int), .int .i64 (n : Int)]) rfl undPairs hi2 hz2 hs2 (by simp) (by simp)) (fun v1 w1 a1 hp1 hS => ?_)
      obtain ⟨rfl, rfl⟩ := hp1
      refine seq_is hS (by decide) (runs_assign rfl) (fun a1 hS => ?_)
      refine nil_ok (qx_ret (ret1 (t := 6) (by kernel_rfl) hS rfl ⟨_, rfl, ?_, (Below.refl _ _).alloc (Nat.le_refl _) _⟩))
      have := World.ownsRow_lit (e := 78) (size := 2) (base := w.heap.size) w #[.int .i64 (f : Int), .int .i64 (n : Int)] 1 (Nat.le_refl _) (by unfold maxLen; omega) (by simp)
      simpa [P2] using this
    · have hem : (sub f n l).isEmpty = false := by cases hh : sub f n l with | nil => exact absurd hh h0 | cons _ _ => rfl
      rw [hem] at hS
      refine seq_is hS (by decide) (runs_not (b := true) rfl) (fun a1 hS => ?_)
      refine nil_ok (wp_cond_false (hS.eval rfl) (wp_skip ?_))
      have hn1 : 1 ≤ n := by
        cases hh : sub f n l with
        | nil => exact absurd hh h0
        | cons x xs =>
          have hx : x ∈ sub f n l := by rw [hh]; simp
          have := (rise_sub (f := f) (n := n) hr).mem x hx
          omega
      refine qx_seq (qx_seq (reg_seq ?_))
      refine seq_is hS (by decide) (runs_move rfl) (fun a1 hS => ?_)
      by_cases h1 : n = 1
      · subst h1
        rw [parts_small h0 (by omega)]
        refine seq_is hS (by decide) (runs_eql (r := true) rfl rfl rfl) (fun a1 hS => ?_)
        refine nil_ok (wp_cond_true (hS.eval rfl) (qx_seq (reg_seq ?_)))
        refine seq_is hS (by decide) (runs_assign rfl) (fun a1 hS => ?_)
        exact nil_ok (qx_ret (ret1 (t := 6) (by kernel_rfl) hS rfl ⟨_, rfl, World.ownsRow_nil _ _ _ _, Below.refl _ _⟩))
      · refine seq_is hS (by decide) (runs_eql (r := false) rfl rfl (by rw [beq_eq_false_iff_ne]; omega)) (fun a1 hS => ?_)
        refine nil_ok (wp_cond_false (hS.eval rfl) (wp_skip ?_))
        have hhl := Tree.half_lt (n := n) (by omega)
        have hhp := Tree.half_pos n
        have hpm := parts_more (first := f) h0 (show ¬ n < 2 by omega)
        rw [sub_take hr (by omega), sub_drop hr (by omega)] at hpm
        have hhalf := refHalfH_any n w (by omega) (by omega)
        obtain ⟨k, hk⟩ : ∃ k, k = Tree.half n := ⟨_, rfl⟩
        rw [← hk] at hhalf hhl hhp hpm
        have pl1 := parts_le' k f (sub f k l)
        have pl2 := parts_le' (n - k) (f + k) (sub (f + k) (n - k) l)
        rw [hpm, List.length_append, P2_append]
        refine qx_seq (reg_seq ?_)
        refine seq_is hS (by decide) (runs_move rfl) (fun a1 hS => ?_)
        refine seq_is hS (by decide) (runs_call (args := [.int .i64 (n : Int)]) goes86 rfl hhalf) (fun a1 hS => ?_)
        refine seq_is hS (by decide) (runs_assign rfl) (fun a1 hS => ?_)
        refine nil_ok (qx_seq (reg_seq ?_))
        refine seq_is hS (by decide) (runs_move rfl) (fun a1 hS => ?_)
        refine seq_is hS (by decide) (runs_move rfl) (fun a1 hS => ?_)
        refine seq_is hS (by decide) (runs_move rfl) (fun a1 hS => ?_)
        refine seq_op hS (by decide) (runs_call (args := [.int .i64 (f : Int), .int .i64 (k : Int), v]) goes59 rfl (ih k hhl f v w (by omega) hs)) (fun v2 w2 a2 hp2 hS => ?_)
        obtain ⟨ho2, hB2⟩ := hp2
        refine seq_is hS (by decide) (runs_move rfl) (fun a1 hS => ?_)
        refine seq_is hS (by decide) (runs_move rfl) (fun a1 hS => ?_)
        refine seq_is hS (by decide) (runs_add rfl rfl ((IntWalk.i64_in _ (by omega)).trans (show _ = ((f + k : Nat) : Int) by omega))) (fun a1 hS => ?_)
        refine seq_is hS (by decide) (runs_move rfl) (fun a1 hS => ?_)
        refine seq_is hS (by decide) (runs_move rfl) (fun a1 hS => ?_)
        refine seq_is hS (by decide) (runs_sub rfl rfl ((IntWalk.i64_in _ (by omega)).trans (show _ = ((n - k : Nat) : Int) by omega))) (fun a1 hS => ?_)
        refine seq_is hS (by decide) (runs_move rfl) (fun a1 hS => ?_)
        refine seq_op hS (by decide) (runs_call (args := [.int .i64 ((f + k : Nat) : Int), .int .i64 ((n - k : Nat) : Int), v]) goes59 rfl (ih (n - k) (by omega) (f + k) v w2 (by omega) (hs.kept hB2))) (fun v3 w3 a3 hp3 hS => ?_)
        obtain ⟨ho3, hB3⟩ := hp3
        have hB13 : Below w.heap.size w w3 := hB2.trans (hB3.mono hB2.size)
        have ho23 := owns_kept ho2 hB3
        refine seq_op hS (by decide) (runs_appendOwns undPairs hi2 hz2 hs2 hb2 rfl (by omega) rfl rfl ho23 ho3 (P2_one _) (by unfold maxLen; omega) (by omega) hB13.size) (fun v4 w4 a4 hp4 hS => ?_)
        obtain ⟨ho4, hg4⟩ := hp4
        refine seq_is hS (by decide) (runs_assign rfl) (fun a1 hS => ?_)
        exact nil_ok (qx_ret (ret1 (t := 6) (by kernel_rfl) hS rfl ⟨_, rfl, ho4, below_grown hB13 hg4 (fun g hg => (ho23.lt g hg).1) hB13.size⟩))
theorem refSizeM_any (n : Int) (xs : List Int) (v : Value) (w : World) (hs : Ints w v xs) : Calls Tryd.prog 30 #[.int .i64 n, v] w fun e w' => e = .returned (.int .i64 ((sizeZ n xs : Nat) : Int)) ∧ Below w.heap.size w w' := by
  obtain ⟨A, c, rfl, hc1, hc2, hA⟩ := id hs
  refine calls_qx (args := [.int .i64 n, .slice A xs.length c]) 21 Tryd.func30 rfl (by kernel_rfl) (by simp) (fun a hS => ?_)
  have none : ∀ (L : List (Nat × Value)) (a9 : Act) (N : Act → World → Prop) (X : Nat → Act → World → Prop), askB n xs = false → Sees 21 L a9 → ((Tryd.f30.body.bind (regionIn 2)).getD .skip).wp Tryd.prog (Qx (fun a' w' => Code.ret.wp Tryd.prog (Qx N X (Rets Tryd.prog Tryd.f30 (fun e w' => e = .returned (.int .i64 ((sizeZ n xs : Nat) : Int)) ∧ Below w.heap.size w w'))) a' w') X (Rets Tryd.prog Tryd.f30 (fun e w' => e = .returned (.int .i64 ((sizeZ n xs : Nat) : Int)) ∧ Below w.heap.size w w'))) a9 w := fun L a9 N X ha hS => by
    refine reg_seq ?_
    refine seq_is hS (by decide) (runs_assign rfl) (fun a1 hS => ?_)
    exact nil_ok (qx_ret (ret1 (t := 4) (by kernel_rfl) hS rfl ⟨by rw [show sizeZ n xs = 0 by unfold sizeZ; rw [ha]; simp]; rfl, Below.refl _ _⟩))
  refine qx_seq (reg_seq ?_)
  refine seq_is hS (by decide) (runs_assign rfl) (fun a1 hS => ?_)
  refine nil_ok (qx_seq (qx_seq (reg_seq ?_)))
  refine seq_is hS (by decide) (runs_move rfl) (fun a1 hS => ?_)
  by_cases h3 : n < 0
  · refine seq_is hS (by decide) (runs_lss (r := true) rfl rfl (by rw [decide_eq_true_eq]; omega)) (fun a1 hS => ?_)
    refine seq_is hS (by decide) (runs_move rfl) (fun a1 hS => ?_)
    refine seq_no hS (by decide) rfl (by decide) rfl rfl (fun a1 hS => ?_)
    refine seq_no hS (by decide) rfl (by decide) rfl rfl (fun a1 hS => ?_)
    refine seq_is hS (by decide) (runs_pick rfl rfl) (fun a1 hS => ?_)
    refine seq_is hS (by decide) (runs_move rfl) (fun a1 hS => ?_)
    refine seq_no hS (by decide) rfl (by decide) rfl rfl (fun a1 hS => ?_)
    refine seq_no hS (by decide) rfl (by decide) rfl rfl (fun a1 hS => ?_)
    refine seq_no hS (by decide) rfl (by decide) rfl rfl (fun a1 hS => ?_)
    refine seq_no hS (by decide) rfl (by decide) rfl rfl (fun a1 hS => ?_)
    refine seq_is hS (by decide) (runs_pick rfl rfl) (fun a1 hS => ?_)
    exact nil_ok (wp_cond_true (hS.eval rfl) (qx_seq (none _ _ _ _ (by unfold askB; rw [show decide (0 ≤ n) = false by rw [decide_eq_false_iff_not]; omega]; simp) hS)))
  refine seq_is hS (by decide) (runs_lss (r := false) rfl rfl (by rw [decide_eq_false_iff_not]; omega)) (fun a1 hS => ?_)
  refine seq_is hS (by decide) (runs_move rfl) (fun a1 hS => ?_)
  refine seq_yis hS (by decide) rfl (by decide) rfl (runs_move rfl) (fun a1 hS => ?_)
  by_cases h4 : n > 65536
  · refine seq_yis hS (by decide) rfl (by decide) rfl (runs_gtr (r := true) rfl rfl (by rw [decide_eq_true_eq]; omega)) (fun a1 hS => ?_)
    refine seq_is hS (by decide) (runs_pick rfl rfl) (fun a1 hS => ?_)
    refine seq_is hS (by decide) (runs_move rfl) (fun a1 hS => ?_)
    refine seq_no hS (by decide) rfl (by decide) rfl rfl (fun a1 hS => ?_)
    refine seq_no hS (by decide) rfl (by decide) rfl rfl (fun a1 hS => ?_)
    refine seq_no hS (by decide) rfl (by decide) rfl rfl (fun a1 hS => ?_)
    refine seq_no hS (by decide) rfl (by decide) rfl rfl (fun a1 hS => ?_)
    refine seq_is hS (by decide) (runs_pick rfl rfl) (fun a1 hS => ?_)
    exact nil_ok (wp_cond_true (hS.eval rfl) (qx_seq (none _ _ _ _ (by unfold askB; rw [show decide (n ≤ 65536) = false by rw [decide_eq_false_iff_not]; omega]; simp) hS)))
  refine seq_yis hS (by decide) rfl (by decide) rfl (runs_gtr (r := false) rfl rfl (by rw [decide_eq_false_iff_not]; omega)) (fun a1 hS => ?_)
  refine seq_is hS (by decide) (runs_pick rfl rfl) (fun a1 hS => ?_)
  refine seq_is hS (by decide) (runs_move rfl) (fun a1 hS => ?_)
  refine seq_yis hS (by decide) rfl (by decide) rfl (runs_move rfl) (fun a1 hS => ?_)
  refine seq_yis hS (by decide) rfl (by decide) rfl (runs_move rfl) (fun a1 hS => ?_)
  refine seq_yis hS (by decide) rfl (by decide) rfl (runs_call (args := [.int .i64 n, .slice A xs.length c]) goes21 rfl (refRises_call n xs _ w hs)) (fun a1 hS => ?_)
  cases hr : risesB n (-1) xs with
  | false =>
    rw [hr] at hS
    refine seq_yis hS (by decide) rfl (by decide) rfl (runs_not (b := false) rfl) (fun a1 hS => ?_)
    refine seq_is hS (by decide) (runs_pick rfl rfl) (fun a1 hS => ?_)
    exact nil_ok (wp_cond_true (hS.eval rfl) (qx_seq (none _ _ _ _ (by unfold askB; rw [hr]; simp) hS)))
  | true =>
    rw [hr] at hS
    refine seq_yis hS (by decide) rfl (by decide) rfl (runs_not (b := true) rfl) (fun a1 hS => ?_)
    refine seq_is hS (by decide) (runs_pick rfl rfl) (fun a1 hS => ?_)
    refine nil_ok (wp_cond_false (hS.eval rfl) (wp_skip (qx_seq (reg_seq ?_))))
    have ha : askB n xs = true := by unfold askB; rw [hr, show decide (0 ≤ n) = true by rw [decide_eq_true_eq]; omega, show decide (n ≤ 65536) = true by rw [decide_eq_true_eq]; omega]; rfl
    obtain ⟨hex, hrn⟩ := of_toN hr
    obtain ⟨m, rfl⟩ := Int.eq_ofNat_of_zero_le (show 0 ≤ n by omega)
    have hz : sizeZ (m : Int) xs = (parts 0 m (toN xs)).length := by unfold sizeZ; rw [if_pos ha]; simp
    rw [Int.toNat_natCast] at hrn
    have htop := tops_any (toN xs) m hrn m 0 (.slice A xs.length c) w (by omega) (by rwa [← hex])
    rw [sub_all hrn] at htop
    refine seq_is hS (by decide) (runs_move rfl) (fun a1 hS => ?_)
    refine seq_is hS (by decide) (runs_move rfl) (fun a1 hS => ?_)
    refine seq_op hS (by decide) (runs_call (args := [.int .i64 0, .int .i64 (m : Int), .slice A xs.length c]) goes59 rfl htop) (fun v2 w2 a2 hp2 hS => ?_)
    obtain ⟨ho2, hB2⟩ := hp2
    obtain ⟨A2, c2, rfl, _⟩ := pairs_own ho2
    refine seq_is hS (by decide) (runs_len rfl undPairs) (fun a1 hS => ?_)
    refine seq_is hS (by decide) (runs_assign rfl) (fun a1 hS => ?_)
    exact nil_ok (qx_ret (ret1 (t := 4) (by kernel_rfl) hS rfl ⟨by rw [hz], hB2⟩))
set_option maxHeartbeats 1000000 in
/-- pick: the leaves at places that are there. -/
theorem pick_any (ss : List ByteArray) (l : List Nat) (lv av : Value) (w : World) (hs : Strs w lv ss) (ha : Ints w av (ofN l)) (hl : ∀ x ∈ l, x < ss.length) (hlen : l.length ≤ 1000) :
    Calls Tryd.prog 28 #[lv, av] w fun e w' => ∃ v, e = .returned v ∧ w'.ownsRow w.heap.size 9 1 v l.length ((l.map (fun x => ss.getD x ByteArray.empty)).map Value.string) ∧ Below w.heap.size w w' ∧ v ≠ .slice none 0 0 := by
  obtain ⟨A, c, rfl, hc1, hc2, hA⟩ := id hs
  obtain ⟨A2, c2, rfl, hd1, hd2, hA2⟩ := id ha
  have hll : (ofN l).length = l.length := by simp [ofN]
  obtain ⟨i9, hi9, hz9, hzs9, hzb9⟩ := info_parts infStr
  refine calls_qx (args := [.slice A ss.length c, .slice A2 (ofN l).length c2]) 25 Tryd.func28 rfl (by kernel_rfl) (by simp) (fun a hS => ?_)
  refine qx_seq (reg_seq ?_)
  refine seq_is hS (by decide) (runs_assign rfl) (fun a1 hS => ?_)
  refine nil_ok (qx_seq (reg_seq ?_))
  refine seq_op hS (by decide) (runs_buildNone undStrs hi9) (fun v1 w1 a1 hp1 hS => ?_)
  obtain ⟨rfl, rfl⟩ := hp1
  have hO1 : (w.alloc (.cells #[] 9)).ownsRow w.heap.size 9 1 (.slice (some ⟨w.heap.size, 0, none⟩) 0 0) 0 [] := World.ownsRow_made w #[] 0 (Nat.le_refl _) (by unfold maxLen; omega) (by simp)
  have hB1 : Below w.heap.size w (w.alloc (.cells #[] 9)) := (Below.refl _ _).alloc (Nat.le_refl _) _
  generalize w.alloc (.cells #[] 9) = w1 at *
  refine seq_is hS (by decide) (runs_assign rfl) (fun a1 hS => ?_)
  refine nil_ok (qx_seq (qx_seq (reg_seq ?_)))
  refine seq_is hS (by decide) (runs_assign rfl) (fun a1 hS => ?_)
  refine nil_ok (qx_for (fun k a w' => ∃ i v5, i ≤ l.length ∧ k = l.length - i ∧ Below w.heap.size w w' ∧ w'.ownsRow w.heap.size 9 1 v5 i (((l.take i).map (fun x => ss.getD x ByteArray.empty)).map Value.string) ∧ v5 ≠ .slice none 0 0 ∧ Sees 25 [(6, .int .i64 (i : Int)), (5, v5), (0, .slice A ss.length c), (1, .slice A2 (ofN l).length c2)] a) l.length ⟨0, _, by omega, by omega, hB1, by simpa using hO1, by simp, hS.only _ ⟨rfl, rfl, rfl, rfl, trivial⟩⟩ ?_)
  rintro k a w' ⟨i, v5, hi, rfl, hBi, hOi, hne, hS⟩
  refine reg_seq ?_
  refine seq_is hS (by decide) (runs_move rfl) (fun a1 hS => ?_)
  refine seq_is hS (by decide) (runs_move rfl) (fun a1 hS => ?_)
  refine seq_is hS (by decide) (runs_len rfl undInts) (fun a1 hS => ?_)
  by_cases hlt : i < l.length
  · have hx := hl l[i] (List.getElem_mem hlt)
    obtain ⟨b2, o2, rfl, hb2, hcell2⟩ := hA2 (by omega)
    obtain ⟨b, o, rfl, hb, hcell⟩ := hA (by omega)
    have hci := hcell2 i (by omega)
    rw [show (ofN l).getD i 0 = ((l[i] : Nat) : Int) by simp [ofN, hlt]] at hci
    have hcx := hcell l[i] hx
    have htk : l.take (i + 1) = l.take i ++ [l[i]] := by rw [List.take_add_one, List.getElem?_eq_getElem hlt]; rfl
    have hnew : ((l.take (i + 1)).map (fun x => ss.getD x ByteArray.empty)).map Value.string = ((l.take i).map (fun x => ss.getD x ByteArray.empty)).map Value.string ++ [.string (ss.getD l[i] ByteArray.empty)] := by rw [htk, List.map_append, List.map_append]; rfl
    generalize ss.getD l[i] ByteArray.empty = sx at *
    generalize l[i] = x at *
    refine seq_is hS (by decide) (runs_lss (r := true) rfl rfl (by rw [decide_eq_true_eq]; omega)) (fun a1 hS => ?_)
    refine nil_ok ⟨_, hS.eval rfl, fun h => by simp at h, fun _ => ?_⟩
    refine qx_seq (qx_block (reg_seq ?_))
    refine seq_is hS (by decide) (runs_move rfl) (fun a1 hS => ?_)
    refine seq_is hS (by decide) (runs_move rfl) (fun a1 hS => ?_)
    refine seq_is hS (by decide) (runs_move rfl) (fun a1 hS => ?_)
    refine seq_is hS (by decide) (runs_move rfl) (fun a1 hS => ?_)
    refine seq_is hS (by decide) (runs_indexAddr (j := i) rfl rfl undInts infInt1 rfl (by omega)) (fun a1 hS => ?_)
    refine seq_is hS (by decide) (runs_load rfl (by kernel_rfl) (by rw [hBi.cell (p := ⟨b2, o2 + i, none⟩) hb2]; exact hci)) (fun a1 hS => ?_)
    refine seq_is hS (by decide) (runs_indexAddr (j := x) rfl rfl undStrs infStr1 rfl hx) (fun a1 hS => ?_)
    refine seq_is hS (by decide) (runs_load rfl (by kernel_rfl) (by rw [hBi.cell (p := ⟨b, o + x, none⟩) hb]; exact hcx)) (fun a1 hS => ?_)
    refine seq_op hS (by decide) (runs_buildSlice (pv := [(0, .string sx)]) rfl undStrs hi9 hz9 hzs9 (by omega) (by omega) (cells := #[.string sx]) (by kernel_rfl)) (fun v4 w4 a4 hp4 hS => ?_)
    obtain ⟨rfl, rfl⟩ := hp4
    have hN4 : Has (w'.alloc (.cells #[.string sx] 9)) w'.heap.size 9 [.string sx] := Has.new w' 9 [.string sx]
    have hB4 : Below w'.heap.size w' (w'.alloc (.cells #[.string sx] 9)) := (Below.refl _ _).alloc (Nat.le_refl _) _
    generalize w'.alloc (.cells #[.string sx] 9) = w4 at *
    have hO4 := owns_kept hOi hB4
    have hB14 : Below w.heap.size w w4 := hBi.trans (hB4.mono hBi.size)
    refine seq_op hS (by decide) (runs_append undStrs hi9 hz9 hzs9 hzb9 rfl rfl hO4 rfl rfl (news := [.string sx]) (fun j u hj => by rw [add_zero_addr, Nat.zero_add, hN4.cell]; exact hj) (by simp [Value.oneCell']) (by unfold maxLen; omega) (by omega) hB14.size (by omega)) (fun v6 w6 a6 hp6 hS => ?_)
    obtain ⟨hO6, hgr6, hne6⟩ := hp6
    have hB16 : Below w.heap.size w w6 := below_grown hB14 hgr6 (fun g hg => (hO4.lt g hg).1) hB14.size
    refine seq_is hS (by decide) (runs_assign rfl) (fun a1 hS => ?_)
    refine nil_ok (reg_seq ?_)
    refine seq_is hS (by decide) (runs_move rfl) (fun a1 hS => ?_)
    refine seq_is hS (by decide) (runs_add rfl rfl ((IntWalk.i64_in _ (by omega)).trans (show (i : Int) + 1 = ((i + 1 : Nat) : Int) by omega))) (fun a1 hS => ?_)
    refine seq_is hS (by decide) (runs_assign rfl) (fun a1 hS => ?_)
    exact nil_ok ⟨l.length - (i + 1), by omega, i + 1, v6, by omega, rfl, hB16, by rw [hnew]; exact hO6, hne6, hS.only _ ⟨rfl, rfl, rfl, rfl, trivial⟩⟩
  · refine seq_is hS (by decide) (runs_lss (r := false) rfl rfl (by rw [decide_eq_false_iff_not]; omega)) (fun a1 hS => ?_)
    refine nil_ok ⟨_, hS.eval rfl, fun _ => ?_, fun h => by simp at h⟩
    obtain rfl : i = l.length := by omega
    rw [List.take_length] at hOi
    refine qx_seq (reg_seq ?_)
    refine seq_is hS (by decide) (runs_move rfl) (fun a1 hS => ?_)
    refine seq_is hS (by decide) (runs_assign rfl) (fun a1 hS => ?_)
    exact nil_ok (qx_ret (ret1 (t := 4) (by kernel_rfl) hS rfl ⟨_, rfl, hOi, hBi, hne⟩))
theorem own_ne2 {w : World} {B B' e e' sz sz' n n' : Nat} {v v' : Value} {xs xs' : List Value} (h : w.ownsRow B e sz v n xs) (h' : w.ownsRow B' e' sz' v' n' xs') (hne : e ≠ e') {g : Nat} (hg : v.ownBlock = some g) : v.ownBlock ≠ v'.ownBlock := by
  intro he
  rcases h.2 with ⟨rfl, _⟩ | ⟨g1, c1, cur1, rfl, _, hg1, _⟩
  · simp [Value.ownBlock] at hg
  · rcases h'.2 with ⟨rfl, _⟩ | ⟨g2, c2, cur2, rfl, _, hg2, _⟩
    · simp [Value.ownBlock] at he
    · simp [Value.ownBlock] at he
      subst he
      rw [hg1] at hg2
      simp only [Option.some.injEq, Obj.cells.injEq] at hg2
      exact hne hg2.2.1
set_option maxHeartbeats 2000000 in
theorem refProveM_any (ss : List ByteArray) (l : List Nat) (lv av : Value) (w : World) (hs : Strs w lv ss) (ha : Ints w av (ofN l)) (hr : Rise 0 ss.length l) (hsz : ∀ s ∈ ss, s.size ≤ 900) (hn : ss.length ≤ 1000) :
    Calls Tryd.prog 25 #[lv, av] w fun e w' => ∃ v, e = .returned v ∧ Hashes w' v (provesL (ss.map bl) l) ∧ Below w.heap.size w w' := by
  obtain ⟨A, c, rfl, hc1, hc2, hA⟩ := id hs
  obtain ⟨ih, hih, hzh, hszh, hbh⟩ := info_parts infHashb
  refine calls_qx (args := [.slice A ss.length c, av]) 42 Tryd.func25 rfl (by kernel_rfl) (by simp) (fun a hS => ?_)
  refine qx_seq (reg_seq ?_)
  refine seq_is hS (by decide) (runs_assign rfl) (fun a1 hS => ?_)
  refine nil_ok (qx_seq (reg_seq ?_))
  refine seq_op hS (by decide) (runs_buildNone undHashes hih) (fun v1 w1 a1 hp1 hS => ?_)
  obtain ⟨rfl, rfl⟩ := hp1
  have hO1 : (w.alloc (.cells #[] 26)).ownsRow w.heap.size 26 32 (.slice (some ⟨w.heap.size, 0, none⟩) 0 0) 0 [] := World.ownsRow_made w #[] 0 (Nat.le_refl _) (by unfold maxLen; omega) (by simp)
  have hB1 : Below w.heap.size w (w.alloc (.cells #[] 26)) := (Below.refl _ _).alloc (Nat.le_refl _) _
  generalize w.alloc (.cells #[] 26) = w1 at *
  refine seq_is hS (by decide) (runs_assign rfl) (fun a1 hS => ?_)
  have htop := tops_any l ss.length hr ss.length 0 av w1 (by omega) (ha.kept hB1)
  rw [sub_all hr] at htop
  refine nil_ok (qx_seq (reg_seq ?_))
  refine seq_is hS (by decide) (runs_move rfl) (fun a1 hS => ?_)
  refine seq_is hS (by decide) (runs_len rfl undStrs) (fun a1 hS => ?_)
  refine seq_is hS (by decide) (runs_move rfl) (fun a1 hS => ?_)
  refine seq_op hS (by decide) (runs_call (args := [.int .i64 0, .int .i64 ((ss.length : Nat) : Int), av]) goes59 rfl htop) (fun v2 w2 a2 hp2 hS => ?_)
  obtain ⟨ho2, hB2⟩ := hp2
  have hP2 := pairs_own ho2
  have hO2 := owns_kept hO1 hB2
  have hB12 : Below w.heap.size w w2 := hB1.trans (hB2.mono hB1.size)
  have hin := parts_in ss.length 0 l
  have hple := parts_le' ss.length 0 l
  refine seq_is hS (by decide) (runs_assign rfl) (fun a1 hS => ?_)
  unfold provesL
  rw [List.length_map]
  generalize parts 0 ss.length l = ps at *
  obtain ⟨A2, c2, rfl, hd1, hd2, hA2⟩ := id hP2
  refine nil_ok (qx_seq (qx_seq (reg_seq ?_)))
  refine seq_is hS (by decide) (runs_assign rfl) (fun a1 hS => ?_)
  refine nil_ok (qx_for (fun k a w' => ∃ i v5, i ≤ ps.length ∧ k = ps.length - i ∧ Below w.heap.size w w' ∧ w'.ownsRow w.heap.size 26 32 v5 i (U8 ((ps.take i).map (topP (ss.map bl))).flatten) ∧ v5 ≠ .slice none 0 0 ∧ w'.ownsRow w1.heap.size 78 2 (.slice A2 ps.length c2) ps.length (P2 ps) ∧ Sees 42 [(7, .int .i64 (i : Int)), (5, v5), (6, .slice A2 ps.length c2), (0, .slice A ss.length c)] a) ps.length ⟨0, _, by omega, by omega, hB12, hO2, by simp, ho2, hS.only _ ⟨rfl, rfl, rfl, rfl, trivial⟩⟩ ?_)
  rintro k a w' ⟨i, v5, hi, rfl, hBi, hOi, hne, hPi, hS⟩
  refine reg_seq ?_
  refine seq_is hS (by decide) (runs_move rfl) (fun a1 hS => ?_)
  refine seq_is hS (by decide) (runs_move rfl) (fun a1 hS => ?_)
  refine seq_is hS (by decide) (runs_len rfl undPairs) (fun a1 hS => ?_)
  by_cases hlt : i < ps.length
  · refine seq_is hS (by decide) (runs_lss (r := true) rfl rfl (by rw [decide_eq_true_eq]; omega)) (fun a1 hS => ?_)
    refine nil_ok ⟨_, hS.eval rfl, fun h => by simp at h, fun _ => ?_⟩
    have hxy := hin ps[i] (List.getElem_mem hlt)
    obtain ⟨hg1, hg2⟩ := P2_get ps i hlt
    have hsh : ∃ g, A2 = some ⟨g, 0, none⟩ := by
      rcases hPi.2 with ⟨_, h0⟩ | ⟨g, cap, _, e, _⟩
      · omega
      · simp only [Value.slice.injEq] at e; exact ⟨g, e.1⟩
    obtain ⟨g, rfl⟩ := hsh
    have hgl := (hPi.lt g rfl).2
    have hcx := hPi.cells (g := g) rfl _ _ hg1
    have hcy := hPi.cells (g := g) rfl _ _ hg2
    rw [add_lit', Nat.zero_add] at hcx hcy
    have htk : ps.take (i + 1) = ps.take i ++ [ps[i]] := by rw [List.take_add_one, List.getElem?_eq_getElem hlt]; rfl
    have hnew : U8 ((ps.take (i + 1)).map (topP (ss.map bl))).flatten = U8 ((ps.take i).map (topP (ss.map bl))).flatten ++ U8 (topP (ss.map bl) ps[i]) := by rw [htk, List.map_append, U8_cat]; simp
    obtain ⟨x, hx⟩ : ∃ x, x = ps[i].1 := ⟨_, rfl⟩
    obtain ⟨y, hy⟩ : ∃ y, y = ps[i].2 := ⟨_, rfl⟩
    obtain ⟨t, ht⟩ : ∃ t, t = topP (ss.map bl) ps[i] := ⟨_, rfl⟩
    have htl : t.length = 32 := by rw [ht]; exact top_len _
    rw [← hx, ← hy, Nat.zero_add] at hxy
    rw [← hx] at hcx
    rw [← hy] at hcy
    rw [← ht] at hnew
    have hs' := hs.kept hBi
    have hsub := fun w2 (h : Below w'.heap.size w' w2) => strs_sub (hs'.kept h) x y hxy.2
    have htop2 := fun w2 (h : Below w'.heap.size w' w2) => refTopH_any ((ss.drop x).take y) _ w2 (hsub w2 h) (fun s hh => hsz s (List.mem_of_mem_drop (List.mem_of_mem_take hh))) (by simp; omega)
    have hte : Tree.top (((ss.drop x).take y).map bl) = t := by rw [map_take_drop, ht, hx, hy]; rfl
    rw [hte] at htop2
    refine qx_seq (qx_block ?_)
    have hS := hS.only [(7, .int .i64 (i : Int)), (5, v5), (6, .slice (some ⟨g, 0, none⟩) ps.length c2), (0, .slice A ss.length c)] ⟨rfl, rfl, rfl, rfl, trivial⟩
    refine reg_guard (fun w2 => Below w'.heap.size w' w2) [.inl (v5), .inl (.slice A ss.length c), .inl (.slice (some ⟨g, 0, none⟩) ps.length c2), .inl (.int .i64 (i : Int)), .inl (.pointer (some ⟨g, 0 + i * 2, none⟩)), .inl (.pointer (some ⟨g, 0 + i * 2 + 0, none⟩)), .inl (.int .i64 (x : Int)), .inl (.slice (some ⟨g, 0, none⟩) ps.length c2), .inl (.int .i64 (i : Int)), .inl (.pointer (some ⟨g, 0 + i * 2, none⟩)), .inl (.pointer (some ⟨g, 0 + i * 2 + 0, none⟩)), .inl (.int .i64 (x : Int)), .inl (.slice (some ⟨g, 0, none⟩) ps.length c2), .inl (.int .i64 (i : Int)), .inl (.pointer (some ⟨g, 0 + i * 2, none⟩)), .inl (.pointer (some ⟨g, 0 + i * 2 + 1, none⟩)), .inl (.int .i64 (y : Int)), .inl (.int .i64 ((x + y : Nat) : Int)), .inl (.slice (if c = x then A else A.map (·.add (x * 1))) y (c - x)), .inl (.agg (U8 t).toArray), .inr (fun v w2 => ∃ g', v = .slice (some ⟨g', 0, none⟩) 1 1 ∧ Has w2 g' 26 (U8 t))] 21 2 mixed rfl (by kernel_rfl) hS (Below.refl _ _) (fun _ h => h.drew) ?_
    refine hs_is rfl (fun w' hw => runs_move rfl) ?_
    refine hs_is rfl (fun w' hw => runs_move rfl) ?_
    refine hs_is rfl (fun w' hw => runs_move rfl) ?_
    refine hs_is rfl (fun w' hw => runs_move rfl) ?_
    refine hs_is rfl (fun w' hw => runs_indexAddrN (j := i) rfl rfl undPairs infPair rfl hlt) ?_
    refine hs_is rfl (fun w' hw => runs_indexArrO (j := 0) rfl rfl undPair infInt1 rfl (by omega)) ?_
    refine hs_is rfl (fun w' hw => runs_load rfl (by kernel_rfl) (by rw [show 0 + i * 2 + 0 = i * 2 by omega, hw.cell (p := ⟨g, i * 2, none⟩) hgl]; exact hcx)) ?_
    refine hs_is rfl (fun w' hw => runs_move rfl) ?_
    refine hs_is rfl (fun w' hw => runs_move rfl) ?_
    refine hs_is rfl (fun w' hw => runs_indexAddrN (j := i) rfl rfl undPairs infPair rfl hlt) ?_
    refine hs_is rfl (fun w' hw => runs_indexArrO (j := 0) rfl rfl undPair infInt1 rfl (by omega)) ?_
    refine hs_is rfl (fun w' hw => runs_load rfl (by kernel_rfl) (by rw [show 0 + i * 2 + 0 = i * 2 by omega, hw.cell (p := ⟨g, i * 2, none⟩) hgl]; exact hcx)) ?_
    refine hs_is rfl (fun w' hw => runs_move rfl) ?_
    refine hs_is rfl (fun w' hw => runs_move rfl) ?_
    refine hs_is rfl (fun w' hw => runs_indexAddrN (j := i) rfl rfl undPairs infPair rfl hlt) ?_
    refine hs_is rfl (fun w' hw => runs_indexArrO (j := 1) rfl rfl undPair infInt1 rfl (by omega)) ?_
    refine hs_is rfl (fun w' hw => runs_load rfl (by kernel_rfl) (by rw [show 0 + i * 2 + 1 = i * 2 + 1 by omega, hw.cell (p := ⟨g, i * 2 + 1, none⟩) hgl]; exact hcy)) ?_
    refine hs_is rfl (fun w' hw => runs_add rfl rfl ((IntWalk.i64_in _ (by omega)).trans (show _ = ((x + y : Nat) : Int) by omega))) ?_
    refine hs_is rfl (fun w' hw => (runs_sliceG (l := x) (h := x + y) rfl rfl rfl rfl rfl undStrs infStr1 (by omega) (by omega)).mono (by rintro v w3 ⟨rfl, rfl⟩; exact ⟨by rw [show x + y - x = y by omega], rfl⟩)) ?_
    refine hs_val rfl (fun w' hw hq => runs_call (args := [.slice (if c = x then A else A.map (·.add (x * 1))) y (c - x)]) goes60 rfl (hash_post _ (htop2 w' hw) (fun _ h => ⟨hw.trans (h.mono hw.size), h⟩))) ?_
    refine hs_pr rfl (fun v w1 w2 ⟨g', h1, h2⟩ hb => ⟨g', h1, h2.below hb h2.lt⟩) (fun w' hw hq => (runs_buildRow rfl undHashes hih hzh (by rw [hszh, U8_length]; exact htl.symm) (by rw [U8_length, htl]; omega) (by rw [U8_length, htl]; omega)).mono (by rintro v w2 ⟨rfl, rfl⟩; exact ⟨⟨_, rfl, Has.new w' 26 _⟩, hw.alloc hw.size _, (Below.refl _ _).alloc (Nat.le_refl _) _⟩)) (fun v39 => ?_)
    refine (fun a5 w5 hS5 hB5 hps => ?_)
    obtain ⟨g5, rfl, hG5⟩ := hps _ List.mem_cons_self
    have hown5 := owns_kept hOi hB5
    have hPi5 := owns_kept hPi hB5
    have hBw5 : Below w.heap.size w w5 := hBi.trans (hB5.mono hBi.size)
    refine tail_op 21 (by kernel_rfl) rfl hS5 (by decide) (runs_appendN undHashes hih hzh hszh hbh (by simp [Value.cells]) (by omega) rfl hown5 rfl (news := U8 t) (by rw [U8_length, htl]) (fun j u hj => by rw [add_zero_addr, Nat.zero_add, hG5.cell]; exact hj) (U8_one _) (by unfold maxLen; omega) (by omega) hBw5.size (by omega)) (fun v6 w6 a6 hp6 hS6 => ⟨trivial, ?_⟩)
    obtain ⟨hown6, hgr6, hne6⟩ := hp6
    refine tail_op 22 (by kernel_rfl) rfl hS6 (by decide) (runs_assign rfl) (fun v7 w7 a7 hp7 hS7 => ⟨trivial, ?_⟩)
    obtain ⟨rfl, rfl⟩ := hp7
    refine wpAnyH_done (by kernel_rfl) ?_ _
    have hPi6 := hPi5.kept hgr6 (.inr (own_ne2 hPi5 hown5 (by decide) rfl))
    have hBw6 : Below w.heap.size w w7 := below_grown hBw5 hgr6 (fun g hg => (hown5.lt g hg).1) hBw5.size
    have hS := hS7
    refine reg_seq ?_
    refine seq_is hS (by decide) (runs_move rfl) (fun a1 hS => ?_)
    refine seq_is hS (by decide) (runs_add rfl rfl ((IntWalk.i64_in _ (by omega)).trans (show (i : Int) + 1 = ((i + 1 : Nat) : Int) by omega))) (fun a1 hS => ?_)
    refine seq_is hS (by decide) (runs_assign rfl) (fun a1 hS => ?_)
    exact nil_ok ⟨ps.length - (i + 1), by omega, i + 1, _, by omega, rfl, hBw6, by rw [hnew]; exact hown6, hne6, hPi6, hS.only _ ⟨rfl, rfl, rfl, rfl, trivial⟩⟩
  · refine seq_is hS (by decide) (runs_lss (r := false) rfl rfl (by rw [decide_eq_false_iff_not]; omega)) (fun a1 hS => ?_)
    refine nil_ok ⟨_, hS.eval rfl, fun _ => ?_, fun h => by simp at h⟩
    obtain rfl : i = ps.length := by omega
    rw [List.take_length] at hOi
    refine qx_seq (reg_seq ?_)
    refine seq_is hS (by decide) (runs_move rfl) (fun a1 hS => ?_)
    refine seq_is hS (by decide) (runs_assign rfl) (fun a1 hS => ?_)
    refine nil_ok (qx_ret (ret1 (t := 4) (by kernel_rfl) hS rfl ⟨_, rfl, hashes_own (base := w.heap.size) (by rw [List.length_map]; exact hOi) (fun h hh => ?_), hBi⟩))
    obtain ⟨x, _, rfl⟩ := List.mem_map.1 hh
    exact ⟨top_len _, top_bytes _⟩
end Go.Proofs.YtdemoidmhmdgkaaDoor
/- Layer 4: the document's own top and Check. Conditions: leaves of at most 900 bytes; at most 1000 of them. -/
namespace Go.Proofs.YtdemoidmhmdgkaaDoor
open Go.RowKit Many
set_option maxRecDepth 100000

theorem goes29 : Goes Tryd.prog 29 := goes_of Tryd.func29 (by kernel_rfl) rfl
theorem goes66 : Goes Tryd.prog 66 := goes_of Tryd.func66 (by kernel_rfl) rfl
set_option maxHeartbeats 2000000 in
theorem reftop_any (l : List Nat) (hi : Nat) (hr : Rise 0 hi l) (ps : List (Nat × Nat)) (hs : List (List Nat)) (ss : List ByteArray) (hpl : ps.length = hs.length) (hsl : ss.length = l.length) (hsz : ∀ s ∈ ss, s.size ≤ 900) (hlm : l.length ≤ 1000) (hpm : ps.length ≤ 100000) :
    ∀ (n f : Nat) (A B : List (Nat × Nat)) (av lv pp hv : Value) (w : World), Stands ps A B f n l → (1 ≤ n ∨ A = []) → f + n ≤ 1000000 → Ints w av (ofN l) → Strs w lv ss → Pairs w pp ps → Hashes w hv hs →
      Calls Tryd.prog 66 #[.int .i64 (f : Int), .int .i64 (n : Int), av, lv, pp, hv] w fun e w' => e = .returned (.agg (U8 (chk f n (sub f n l) (hs.drop A.length) ((ss.map bl).drop (sub 0 f l).length))).toArray) ∧ Below w.heap.size w w' := by
  intro n
  induction n using Nat.strongRecOn with
  | _ n ih =>
    intro f A B av lv pp hv w hst hn0 hfn hav hlv hpp hhv
    obtain ⟨A1, c1, rfl, hc1, hd1, hA1⟩ := id hav
    obtain ⟨A2, c2, rfl, hc2, hd2, hA2⟩ := id hlv
    obtain ⟨A3, c3, rfl, hc3, hd3, hA3⟩ := id hpp
    obtain ⟨A4, c4, rfl, hc4, hd4, hok, hA4⟩ := id hhv
    have hll : (ofN l).length = l.length := by simp [ofN]
    have hcut := sub_cut (f := f) (n := n) hr
    have hlen1 : (sub 0 f l).length + (sub f n l).length ≤ l.length := by
      have := congrArg List.length hcut
      simp only [List.length_append] at this
      omega
    have hpsl : A.length + (parts f n (sub f n l)).length ≤ ps.length := by
      have := congrArg List.length hst.is
      simp only [List.length_append] at this
      omega
    obtain ⟨hcl, hcb⟩ := chk_ok [] n f (sub f n l) (hs.drop A.length) ((ss.map bl).drop (sub 0 f l).length) (fun h hh => hok h (List.mem_of_mem_drop hh)) (by simp; omega)
    obtain ⟨res, hres⟩ : ∃ x, x = chk f n (sub f n l) (hs.drop A.length) ((ss.map bl).drop (sub 0 f l).length) := ⟨_, rfl⟩
    rw [← hres] at hcl hcb ⊢
    refine calls_qx (args := [.int .i64 (f : Int), .int .i64 (n : Int), .slice A1 (ofN l).length c1, .slice A2 ss.length c2, .slice A3 ps.length c3, .slice A4 hs.length c4]) 74 Tryd.func66 rfl (by kernel_rfl) (by simp) (fun a hS => ?_)
    refine qx_seq (reg_seq ?_)
    refine seq_op hS (by decide) alloc_hash (fun v2 w1 a1 hp1 hS => ?_)
    obtain ⟨rfl, rfl⟩ := hp1
    have hX1 := Has.new w 26 (U8 (List.replicate 32 0))
    have hB1 : Below w.heap.size w (w.alloc (.cells (U8 (List.replicate 32 0)).toArray 26)) := (Below.refl _ _).alloc (Nat.le_refl _) _
    generalize w.alloc (.cells (U8 (List.replicate 32 0)).toArray 26) = w1 at *
    have fin : ∀ (L : List (Nat × Value)) (a9 : Act) (w9 : World) (x : List Nat), Below w1.heap.size w1 w9 → Sees 74 L a9 → look L 12 = some (.pointer (some ⟨w.heap.size, 0, none⟩)) → x = res → Rets Tryd.prog Tryd.f66 (fun e w' => e = .returned (.agg (U8 res).toArray) ∧ Below w.heap.size w w') a9 (w9.setRow w.heap.size (U8 x).toArray) := fun L a9 w9 x hb hS9 h12 hx => by
      subst hx
      have hX9 := hX1.below hb hX1.lt
      exact retRow (t := 0) (p := 12) (by kernel_rfl) hS9 h12 (has_setRow (cs := U8 x) hX9) rfl undHash rfl (by rw [infHash, U8_length, hcl]) ⟨rfl, below_row (hB1.trans (hb.mono hB1.size)) (Nat.le_refl _) _⟩
    refine nil_ok (qx_seq (qx_seq (reg_seq ?_)))
    refine seq_is hS (by decide) (runs_assign rfl) (fun a1 hS => ?_)
    refine nil_ok (qx_for (fun k a w' => ∃ i, i ≤ ps.length ∧ k = ps.length - i ∧ w' = w1 ∧ (∀ j, j < i → ps[j]? ≠ some (f, n)) ∧ Sees 74 [(13, .int .i64 (i : Int)), (12, .pointer (some ⟨w.heap.size, 0, none⟩)), (0, .int .i64 (f : Int)), (1, .int .i64 (n : Int)), (2, .slice A1 (ofN l).length c1), (3, .slice A2 ss.length c2), (4, .slice A3 ps.length c3), (5, .slice A4 hs.length c4)] a) ps.length ⟨0, by omega, by omega, rfl, fun j hj => by omega, hS.only _ ⟨rfl, rfl, rfl, rfl, rfl, rfl, rfl, rfl, trivial⟩⟩ ?_)
    rintro k a w' ⟨i, hi', rfl, rfl, hno, hS⟩
    refine reg_seq ?_
    refine seq_is hS (by decide) (runs_move rfl) (fun a1 hS => ?_)
    refine seq_is hS (by decide) (runs_move rfl) (fun a1 hS => ?_)
    refine seq_is hS (by decide) (runs_len rfl undPairs) (fun a1 hS => ?_)
    by_cases hlt : i < ps.length
    · obtain ⟨b3, o3, rfl, hb3, hr3⟩ := hA3 (by omega)
      obtain ⟨hg1, hg2⟩ := P2_get ps i hlt
      have hpi : ps[i]? = some ps[i] := List.getElem?_eq_getElem hlt
      have hmid : w'.rangeAt b3 (o3 + i * 2) [.int .i64 ((ps[i].1 : Nat) : Int), .int .i64 ((ps[i].2 : Nat) : Int)] := fun j u hj => by
        have hcell : ∀ q u, (P2 ps)[q]? = some u → w'.cell? ⟨b3, o3 + q, none⟩ = some u := fun q u hq => by rw [hB1.cell (p := ⟨b3, o3 + q, none⟩) hb3]; exact hr3 q u hq
        match j, hj with
        | 0, hj => simp at hj; subst hj; have := hcell _ _ hg1; rwa [show o3 + i * 2 + 0 = o3 + i * 2 by omega]
        | 1, hj => simp at hj; subst hj; have := hcell _ _ hg2; rwa [show o3 + i * 2 + 1 = o3 + (i * 2 + 1) by omega]
        | j + 2, hj => simp at hj
      obtain ⟨x, hx⟩ : ∃ x, x = ps[i].1 := ⟨_, rfl⟩
      obtain ⟨y, hy⟩ : ∃ y, y = ps[i].2 := ⟨_, rfl⟩
      rw [← hx, ← hy] at hmid
      have hpe : ps[i]? = some (x, y) := by rw [hpi, hx, hy]
      refine seq_is hS (by decide) (runs_lss (r := true) rfl rfl (by rw [decide_eq_true_eq]; omega)) (fun a1 hS => ?_)
      refine nil_ok ⟨_, hS.eval rfl, fun h => by simp at h, fun _ => ?_⟩
      refine qx_seq (qx_block (qx_seq (reg_seq ?_)))
      refine seq_is hS (by decide) (runs_move rfl) (fun a1 hS => ?_)
      refine seq_is hS (by decide) (runs_move rfl) (fun a1 hS => ?_)
      refine seq_is hS (by decide) (runs_indexAddrN (j := i) rfl rfl undPairs infPair rfl hlt) (fun a1 hS => ?_)
      refine seq_is hS (by decide) (runs_loadMid rfl hmid undPair rfl (by rw [infPair]; rfl)) (fun a1 hS => ?_)
      refine seq_is hS (by decide) (runs_move rfl) (fun a1 hS => ?_)
      refine seq_is hS (by decide) (runs_move rfl) (fun a1 hS => ?_)
      refine seq_is hS (by decide) (runs_build2 rfl rfl) (fun a1 hS => ?_)
      by_cases heq : x = f ∧ y = n
      · obtain ⟨rfl, rfl⟩ := heq
        refine seq_is hS (by decide) (runs_eqPair (r := true) rfl rfl (by simp)) (fun a1 hS => ?_)
        refine nil_ok (wp_cond_true (hS.eval rfl) (qx_seq (reg_seq ?_)))
        have hsub : sub x y l = [] := Classical.byContradiction fun hne => by
          have h1 : 1 ≤ y := by
            cases hh : sub x y l with
            | nil => exact absurd hh hne
            | cons z zs =>
              have hz : z ∈ sub x y l := by rw [hh]; simp
              have := (rise_sub (f := x) (n := y) hr).mem z hz
              omega
          exact hst.none hne h1 (List.mem_of_getElem? hpe)
        obtain ⟨ha1, ha2, ha3⟩ := hst.here hsub hn0
        have hiA : i = A.length := by
          rcases Nat.lt_trichotomy i A.length with h | h | h
          · exact absurd hpe (ha3 i h)
          · exact h
          · exact absurd ha2 (hno A.length h)
        have hhl : i < hs.length := by omega
        obtain ⟨b4, o4, rfl, hb4, hr4⟩ := hA4 (by omega)
        have hrx := hash_mid (range_below hr4 hB1 hb4) hok i hhl
        have hxe : hs.getD i [] = res := by
          rw [hres, hsub, chk_nil, List.headD_eq_head?_getD, List.head?_drop, List.getD_eq_getElem?_getD, hiA]
        rw [hxe] at hrx
        refine seq_is hS (by decide) (runs_move rfl) (fun a1 hS => ?_)
        refine seq_is hS (by decide) (runs_move rfl) (fun a1 hS => ?_)
        refine seq_is hS (by decide) (runs_indexAddrN (j := i) rfl rfl undHashes infHash rfl hhl) (fun a1 hS => ?_)
        refine seq_is hS (by decide) (runs_loadMid rfl hrx undHash rfl (by rw [infHash, U8_length, hcl])) (fun a1 hS => ?_)
        refine seq_none hS (runs_storeRow rfl rfl hX1 (by simp [hcl]) (agg_all _) (by rw [infHash]; simp [hcl])) (fun v3 w3 a3 hp3 hS => ?_)
        obtain ⟨rfl, rfl⟩ := hp3
        exact nil_ok (qx_ret (fin _ _ w' res (Below.refl _ _) hS rfl rfl))
      · refine seq_is hS (by decide) (runs_eqPair (r := false) rfl rfl (by
          rw [Bool.and_eq_false_iff, beq_eq_false_iff_ne, beq_eq_false_iff_ne]
          by_cases h : x = f
          · right; intro h2; exact heq ⟨h, by omega⟩
          · left; omega)) (fun a1 hS => ?_)
        refine nil_ok (wp_cond_false (hS.eval rfl) (wp_skip (reg_seq ?_)))
        refine seq_is hS (by decide) (runs_move rfl) (fun a1 hS => ?_)
        refine seq_is hS (by decide) (runs_add rfl rfl ((IntWalk.i64_in _ (by omega)).trans (show (i : Int) + 1 = ((i + 1 : Nat) : Int) by omega))) (fun a1 hS => ?_)
        refine seq_is hS (by decide) (runs_assign rfl) (fun a1 hS => ?_)
        refine nil_ok ⟨ps.length - (i + 1), by omega, i + 1, by omega, rfl, rfl, fun j hj => ?_, hS.only _ ⟨rfl, rfl, rfl, rfl, rfl, rfl, rfl, rfl, trivial⟩⟩
        by_cases hji : j = i
        · subst hji
          rw [hpe]
          intro h
          injection h with h
          injection h with h1 h2
          exact heq ⟨h1, h2⟩
        · exact hno j (by omega)
    · refine seq_is hS (by decide) (runs_lss (r := false) rfl rfl (by rw [decide_eq_false_iff_not]; omega)) (fun a1 hS => ?_)
      refine nil_ok ⟨_, hS.eval rfl, fun _ => ?_, fun h => by simp at h⟩
      have hsub : sub f n l ≠ [] := fun h => by
        obtain ⟨ha1, ha2, _⟩ := hst.here h hn0
        exact hno A.length (by omega) ha2
      have hn1 : 1 ≤ n := by
        cases hh : sub f n l with
        | nil => exact absurd hh hsub
        | cons z zs =>
          have hz : z ∈ sub f n l := by rw [hh]; simp
          have := (rise_sub (f := f) (n := n) hr).mem z hz
          omega
      refine qx_seq (qx_seq (reg_seq ?_))
      refine seq_is hS (by decide) (runs_move rfl) (fun a1 hS => ?_)
      by_cases h1 : n = 1
      · subst h1
        -- one leaf: it is looked up
        have hrs := rise_sub (f := f) (n := 1) hr
        have hone : sub f 1 l = [f] := by
          cases hh : sub f 1 l with
          | nil => exact absurd hh hsub
          | cons z zs =>
            rw [hh] at hrs
            obtain ⟨e1, e2, e3⟩ := hrs
            obtain rfl : z = f := by omega
            cases zs with
            | nil => rfl
            | cons y ys => obtain ⟨e4, e5, _⟩ := e3; omega
        rw [hone] at hcut hlen1
        have hat : l[(sub 0 f l).length]? = some f := by
          have hh : (sub 0 f l ++ [f] ++ l.filter (fun x => decide (f + 1 ≤ x)))[(sub 0 f l).length]? = some f := by simp
          rwa [← hcut] at hh
        have hah : ∀ j, j < (sub 0 f l).length → ∀ x, l[j]? = some x → x ≠ f := fun j hj x hx => by
          have hh : (sub 0 f l ++ [f] ++ l.filter (fun x => decide (f + 1 ≤ x)))[j]? = some x := by rw [← hcut]; exact hx
          rw [List.append_assoc, List.getElem?_append_left hj] at hh
          have := (rise_sub (f := 0) (n := f) hr).mem x (List.mem_of_getElem? hh)
          omega
        simp only [List.length_cons, List.length_nil] at hlen1
        refine seq_is hS (by decide) (runs_eql (r := true) rfl rfl rfl) (fun a1 hS => ?_)
        refine nil_ok (wp_cond_true (hS.eval rfl) (qx_seq (reg_seq ?_)))
        refine seq_is hS (by decide) (runs_assign rfl) (fun a1 hS => ?_)
        refine nil_ok (qx_for (fun k a w2 => ∃ i, i ≤ (sub 0 f l).length ∧ k = (sub 0 f l).length - i ∧ w2 = w' ∧ Sees 74 [(14, .int .i64 (i : Int)), (12, .pointer (some ⟨w.heap.size, 0, none⟩)), (0, .int .i64 (f : Int)), (2, .slice A1 (ofN l).length c1), (3, .slice A2 ss.length c2)] a) (sub 0 f l).length ⟨0, by omega, by omega, rfl, hS.only _ ⟨rfl, rfl, rfl, rfl, rfl, trivial⟩⟩ ?_)
        rintro k2 a2 w2 ⟨i2, hi2, rfl, rfl, hS⟩
        obtain ⟨b1, o1, rfl, hb1, hcell1⟩ := hA1 (by omega)
        obtain ⟨b2, o2, rfl, hb2, hcell2⟩ := hA2 (by omega)
        have hli : i2 < l.length := by omega
        have hc1' := hcell1 i2 (by omega)
        rw [show (ofN l).getD i2 0 = ((l[i2] : Nat) : Int) by simp [ofN, hli]] at hc1'
        have hgl : l[i2]? = some l[i2] := List.getElem?_eq_getElem hli
        refine reg_seq ?_
        refine seq_is hS (by decide) (runs_move rfl) (fun a1 hS => ?_)
        refine seq_is hS (by decide) (runs_move rfl) (fun a1 hS => ?_)
        refine seq_is hS (by decide) (runs_len rfl undInts) (fun a1 hS => ?_)
        refine seq_is hS (by decide) (runs_lss (r := true) rfl rfl (by rw [decide_eq_true_eq]; omega)) (fun a1 hS => ?_)
        refine nil_ok ⟨_, hS.eval rfl, fun h => by simp at h, fun _ => ?_⟩
        generalize hxi : l[i2] = xi at *
        refine qx_seq (qx_block (qx_seq (reg_seq ?_)))
        refine seq_is hS (by decide) (runs_move rfl) (fun a1 hS => ?_)
        refine seq_is hS (by decide) (runs_move rfl) (fun a1 hS => ?_)
        refine seq_is hS (by decide) (runs_indexAddr (j := i2) rfl rfl undInts infInt1 rfl (by omega)) (fun a1 hS => ?_)
        refine seq_is hS (by decide) (runs_load rfl (by kernel_rfl) (by rw [hB1.cell (p := ⟨b1, o1 + i2, none⟩) hb1]; exact hc1')) (fun a1 hS => ?_)
        refine seq_is hS (by decide) (runs_move rfl) (fun a1 hS => ?_)
        by_cases hfd : i2 = (sub 0 f l).length
        · subst hfd
          obtain rfl : xi = f := by rw [hat] at hgl; exact (Option.some.inj hgl).symm
          have hcs := hcell2 (sub 0 xi l).length (by omega)
          have hss : (ss.getD (sub 0 xi l).length ByteArray.empty).size ≤ 900 := by
            rw [List.getD_eq_getElem?_getD, List.getElem?_eq_getElem (by omega)]; exact hsz _ (List.getElem_mem _)
          have hxe : Tree.leaf (bl (ss.getD (sub 0 xi l).length ByteArray.empty)) = res := by
            rw [hres, hone, chk_small _ _ (by simp) (by omega), List.headD_eq_head?_getD, List.head?_drop, List.getElem?_map, List.getD_eq_getElem?_getD, List.getElem?_eq_getElem (by omega)]; rfl
          generalize ss.getD (sub 0 xi l).length ByteArray.empty = sx at *
          refine seq_is hS (by decide) (runs_eql (r := true) rfl rfl (beq_iff_eq.2 rfl)) (fun a1 hS => ?_)
          refine nil_ok (wp_cond_true (hS.eval rfl) (qx_seq (reg_seq ?_)))
          refine seq_is hS (by decide) (runs_move rfl) (fun a1 hS => ?_)
          refine seq_is hS (by decide) (runs_move rfl) (fun a1 hS => ?_)
          refine seq_is hS (by decide) (runs_indexAddr (j := (sub 0 xi l).length) rfl rfl undStrs infStr1 rfl (by omega)) (fun a1 hS => ?_)
          refine seq_is hS (by decide) (runs_load rfl (by kernel_rfl) (by rw [hB1.cell (p := ⟨b2, o2 + (sub 0 xi l).length, none⟩) hb2]; exact hcs)) (fun a1 hS => ?_)
          refine seq_op hS (by decide) (runs_call (args := [.string sx]) goes49 rfl (hash_post (fun w3 => Below w2.heap.size w2 w3) (refLeafH_any sx w2 hss) (fun _ h => h))) (fun v4 w4 a4 hp4 hS => ?_)
          obtain ⟨rfl, hB4⟩ := hp4
          refine seq_none hS (runs_storeRow rfl rfl (hX1.below hB4 hX1.lt) (by simp [Tree.leaf_len]) (agg_all _) (by rw [infHash]; simp [Tree.leaf_len])) (fun v3 w3 a3 hp3 hS => ?_)
          obtain ⟨rfl, rfl⟩ := hp3
          exact nil_ok (qx_ret (fin _ _ w4 _ hB4 hS rfl hxe))
        · have hne := hah i2 (by omega) xi hgl
          refine seq_is hS (by decide) (runs_eql (r := false) rfl rfl (by rw [beq_eq_false_iff_ne]; omega)) (fun a1 hS => ?_)
          refine nil_ok (wp_cond_false (hS.eval rfl) (wp_skip (reg_seq ?_)))
          refine seq_is hS (by decide) (runs_move rfl) (fun a1 hS => ?_)
          refine seq_is hS (by decide) (runs_add rfl rfl ((IntWalk.i64_in _ (by omega)).trans (show (i2 : Int) + 1 = ((i2 + 1 : Nat) : Int) by omega))) (fun a1 hS => ?_)
          refine seq_is hS (by decide) (runs_assign rfl) (fun a1 hS => ?_)
          exact nil_ok ⟨(sub 0 f l).length - (i2 + 1), by omega, i2 + 1, by omega, rfl, rfl, hS.only _ ⟨rfl, rfl, rfl, rfl, rfl, trivial⟩⟩
      · refine seq_is hS (by decide) (runs_eql (r := false) rfl rfl (by rw [beq_eq_false_iff_ne]; omega)) (fun a1 hS => ?_)
        refine nil_ok (wp_cond_false (hS.eval rfl) (wp_skip ?_))
        have hn2 : ¬ n < 2 := by omega
        have hhl := Tree.half_lt (n := n) (by omega)
        have hhp := Tree.half_pos n
        have hL := hst.left hr hsub hn2
        have hR := hst.right hr hsub hn2
        have hcm := chk_more (first := f) (hs.drop A.length) ((ss.map bl).drop (sub 0 f l).length) hsub hn2
        rw [sub_take hr (by omega), sub_drop hr (by omega), List.drop_drop, List.drop_drop] at hcm
        have hask := asks_len (Tree.half n) f (sub f (Tree.half n) l) (rise_sub hr)
        have hsl2 : (sub 0 f l).length + (sub f (Tree.half n) l).length = (sub 0 (f + Tree.half n) l).length := by
          have h3 := sub_take (f := 0) (n := f + Tree.half n) (k := f) hr (by omega)
          have h4 := sub_drop (f := 0) (n := f + Tree.half n) (k := f) hr (by omega)
          rw [Nat.zero_add, show f + Tree.half n - f = Tree.half n by omega] at h4
          rw [← List.length_append, ← h3, ← h4, Nat.zero_add, List.take_append_drop]
        rw [hask, hsl2] at hcm
        have hhalf := refHalfH_any n w' (by omega) (by omega)
        obtain ⟨k, hk⟩ : ∃ k, k = Tree.half n := ⟨_, rfl⟩
        rw [← hk] at hhalf hhl hhp hL hR hcm
        refine qx_seq (reg_seq ?_)
        refine seq_is hS (by decide) (runs_move rfl) (fun a1 hS => ?_)
        refine seq_is hS (by decide) (runs_call (args := [.int .i64 (n : Int)]) goes86 rfl hhalf) (fun a1 hS => ?_)
        refine seq_is hS (by decide) (runs_assign rfl) (fun a1 hS => ?_)
        have hil := ih k hhl f A _ _ _ _ _ w' hL (.inl hhp) (by omega) (hav.kept hB1) (hlv.kept hB1) (hpp.kept hB1) (hhv.kept hB1)
        have pA := congrArg List.length hL.is
        have pB := congrArg List.length hR.is
        simp only [List.length_append] at pA pB
        obtain ⟨hxl, hxb⟩ := chk_ok [] k f (sub f k l) (hs.drop A.length) ((ss.map bl).drop (sub 0 f l).length) (fun h hh => hok h (List.mem_of_mem_drop hh)) (by simp; omega)
        obtain ⟨hyl, hyb⟩ := chk_ok [] (n - k) (f + k) (sub (f + k) (n - k) l) (hs.drop (A.length + (parts f k (sub f k l)).length)) ((ss.map bl).drop (sub 0 (f + k) l).length) (fun h hh => hok h (List.mem_of_mem_drop hh)) (by simp; omega)
        have hir := fun w2 (hB : Below w'.heap.size w' w2) => ih (n - k) (by omega) (f + k) _ _ _ _ _ _ w2 hR (.inl (by omega)) (by omega) ((hav.kept hB1).kept hB) ((hlv.kept hB1).kept hB) ((hpp.kept hB1).kept hB) ((hhv.kept hB1).kept hB)
        rw [List.length_append] at hir
        obtain ⟨x, hx⟩ : ∃ x, x = chk f k (sub f k l) (hs.drop A.length) ((ss.map bl).drop (sub 0 f l).length) := ⟨_, rfl⟩
        obtain ⟨y, hy⟩ : ∃ y, y = chk (f + k) (n - k) (sub (f + k) (n - k) l) (hs.drop (A.length + (parts f k (sub f k l)).length)) ((ss.map bl).drop (sub 0 (f + k) l).length) := ⟨_, rfl⟩
        rw [← hx] at hil hcm hxl hxb
        rw [← hy] at hcm hyl hyb
        simp only [← hy] at hir
        refine nil_ok (qx_seq (reg_seq ?_))
        refine seq_is hS (by decide) (runs_move rfl) (fun a1 hS => ?_)
        refine seq_is hS (by decide) (runs_move rfl) (fun a1 hS => ?_)
        refine seq_is hS (by decide) (runs_move rfl) (fun a1 hS => ?_)
        refine seq_is hS (by decide) (runs_move rfl) (fun a1 hS => ?_)
        refine seq_is hS (by decide) (runs_move rfl) (fun a1 hS => ?_)
        refine seq_is hS (by decide) (runs_move rfl) (fun a1 hS => ?_)
        refine seq_op hS (by decide) (runs_call (args := [.int .i64 (f : Int), .int .i64 (k : Int), .slice A1 (ofN l).length c1, .slice A2 ss.length c2, .slice A3 ps.length c3, .slice A4 hs.length c4]) goes66 rfl (hash_post (fun w3 => Below w'.heap.size w' w3) hil (fun _ h => h))) (fun v4 w4 a4 hp4 hS => ?_)
        obtain ⟨rfl, hB4⟩ := hp4
        refine seq_is hS (by decide) (runs_move rfl) (fun a1 hS => ?_)
        refine seq_is hS (by decide) (runs_move rfl) (fun a1 hS => ?_)
        refine seq_is hS (by decide) (runs_add rfl rfl ((IntWalk.i64_in _ (by omega)).trans (show _ = ((f + k : Nat) : Int) by omega))) (fun a1 hS => ?_)
        refine seq_is hS (by decide) (runs_move rfl) (fun a1 hS => ?_)
        refine seq_is hS (by decide) (runs_move rfl) (fun a1 hS => ?_)
        refine seq_is hS (by decide) (runs_sub rfl rfl ((IntWalk.i64_in _ (by omega)).trans (show _ = ((n - k : Nat) : Int) by omega))) (fun a1 hS => ?_)
        refine seq_is hS (by decide) (runs_move rfl) (fun a1 hS => ?_)
        refine seq_is hS (by decide) (runs_move rfl) (fun a1 hS => ?_)
        refine seq_is hS (by decide) (runs_move rfl) (fun a1 hS => ?_)
        refine seq_is hS (by decide) (runs_move rfl) (fun a1 hS => ?_)
        refine seq_op hS (by decide) (runs_call (args := [.int .i64 ((f + k : Nat) : Int), .int .i64 ((n - k : Nat) : Int), .slice A1 (ofN l).length c1, .slice A2 ss.length c2, .slice A3 ps.length c3, .slice A4 hs.length c4]) goes66 rfl (hash_post (fun w3 => Below w4.heap.size w4 w3) (hir w4 hB4) (fun _ h => h))) (fun v5 w5 a5 hp5 hS => ?_)
        obtain ⟨rfl, hB5⟩ := hp5
        refine seq_op hS (by decide) (runs_call (args := [.agg (U8 x).toArray, .agg (U8 y).toArray]) goes87 rfl (hash_post (fun w3 => Below w5.heap.size w5 w3) (refNodeH_any x y w5 hxl hyl hxb hyb) (fun _ h => h))) (fun v6 w6 a6 hp6 hS => ?_)
        obtain ⟨rfl, hB6⟩ := hp6
        have hB16 : Below w'.heap.size w' w6 := (hB4.trans (hB5.mono hB4.size)).trans (hB6.mono (Nat.le_trans hB4.size hB5.size))
        refine seq_none hS (runs_storeRow rfl rfl (hX1.below hB16 hX1.lt) (by simp [Tree.node_len]) (agg_all _) (by rw [infHash]; simp [Tree.node_len])) (fun v3 w3 a3 hp3 hS => ?_)
        obtain ⟨rfl, rfl⟩ := hp3
        exact nil_ok (qx_ret (fin _ _ w6 _ hB16 hS rfl (hcm.symm.trans hres.symm)))
set_option maxHeartbeats 2000000 in
theorem refCheckM_any (root : List Nat) (n : Int) (xs : List Int) (ss : List ByteArray) (hs : List (List Nat)) (atv lv pv : Value) (w : World) (hrl : root.length = 32) (hrb : Sha.Bytes root) (hx : Ints w atv xs) (hL : Strs w lv ss) (hH : Hashes w pv hs) (hsz : ∀ s ∈ ss, s.size ≤ 900) (hxl : xs.length ≤ 1000) :
    Calls Tryd.prog 29 #[.agg (U8 root).toArray, .int .i64 n, atv, lv, pv] w fun e w' => e = .returned (.bool (checkM root n xs (ss.map bl) hs)) ∧ Below w.heap.size w w' := by
  obtain ⟨A1, c1, rfl, hc1, hd1, hA1⟩ := id hx
  obtain ⟨A2, c2, rfl, _⟩ := id hL
  obtain ⟨A4, c4, rfl, _, _, hok, _⟩ := id hH
  refine calls_qx (args := [.agg (U8 root).toArray, .int .i64 n, .slice A1 xs.length c1, .slice A2 ss.length c2, .slice A4 hs.length c4]) 59 Tryd.func29 rfl (by kernel_rfl) (by simp) (fun a hS => ?_)
  refine qx_seq (reg_seq ?_)
  refine seq_op hS (by decide) (runs_box rfl) (fun v1 w1 a1 hp1 hS => ?_)
  obtain ⟨rfl, rfl⟩ := hp1
  have hR1 : Has (w.alloc (.cells (Value.agg (U8 root).toArray).cells 26)) w.heap.size 26 (U8 root) := Has.new w 26 (U8 root)
  have hB1 : Below w.heap.size w (w.alloc (.cells (Value.agg (U8 root).toArray).cells 26)) := (Below.refl _ _).alloc (Nat.le_refl _) _
  generalize w.alloc (.cells (Value.agg (U8 root).toArray).cells 26) = w1 at *
  have hx1 := hx.kept hB1
  refine seq_is hS (by decide) (runs_assign rfl) (fun a1 hS => ?_)
  have nope : ∀ (L : List (Nat × Value)) (a9 : Act) (w9 : World) (N : Act → World → Prop) (X : Nat → Act → World → Prop) (id : Nat), id = 2 ∨ id = 5 → Below w.heap.size w w9 → checkM root n xs (ss.map bl) hs = false → Sees 59 L a9 → ((Tryd.f29.body.bind (regionIn id)).getD .skip).wp Tryd.prog (Qx (fun a' w' => Code.ret.wp Tryd.prog (Qx N X (Rets Tryd.prog Tryd.f29 (fun e w' => e = .returned (.bool (checkM root n xs (ss.map bl) hs)) ∧ Below w.heap.size w w'))) a' w') X (Rets Tryd.prog Tryd.f29 (fun e w' => e = .returned (.bool (checkM root n xs (ss.map bl) hs)) ∧ Below w.heap.size w w'))) a9 w9 := fun L a9 w9 N X id hid hB9 hf hS => by
    rcases hid with rfl | rfl
    · refine reg_seq ?_
      refine seq_is hS (by decide) (runs_assign rfl) (fun a1 hS => ?_)
      exact nil_ok (qx_ret (ret1 (t := 10) (by kernel_rfl) hS rfl ⟨by rw [hf], hB9⟩))
    · refine reg_seq ?_
      refine seq_is hS (by decide) (runs_assign rfl) (fun a1 hS => ?_)
      exact nil_ok (qx_ret (ret1 (t := 10) (by kernel_rfl) hS rfl ⟨by rw [hf], hB9⟩))
  refine nil_ok (qx_seq (qx_seq (reg_seq ?_)))
  refine seq_is hS (by decide) (runs_move rfl) (fun a1 hS => ?_)
  by_cases h3 : n < 0
  · refine seq_is hS (by decide) (runs_lss (r := true) rfl rfl (by rw [decide_eq_true_eq]; omega)) (fun a1 hS => ?_)
    refine seq_is hS (by decide) (runs_move rfl) (fun a1 hS => ?_)
    refine seq_no hS (by decide) rfl (by decide) rfl rfl (fun a1 hS => ?_)
    refine seq_no hS (by decide) rfl (by decide) rfl rfl (fun a1 hS => ?_)
    refine seq_is hS (by decide) (runs_pick rfl rfl) (fun a1 hS => ?_)
    refine seq_is hS (by decide) (runs_move rfl) (fun a1 hS => ?_)
    refine seq_no hS (by decide) rfl (by decide) rfl rfl (fun a1 hS => ?_)
    refine seq_no hS (by decide) rfl (by decide) rfl rfl (fun a1 hS => ?_)
    refine seq_no hS (by decide) rfl (by decide) rfl rfl (fun a1 hS => ?_)
    refine seq_no hS (by decide) rfl (by decide) rfl rfl (fun a1 hS => ?_)
    refine seq_is hS (by decide) (runs_pick rfl rfl) (fun a1 hS => ?_)
    refine seq_is hS (by decide) (runs_move rfl) (fun a1 hS => ?_)
    refine seq_no hS (by decide) rfl (by decide) rfl rfl (fun a1 hS => ?_)
    refine seq_no hS (by decide) rfl (by decide) rfl rfl (fun a1 hS => ?_)
    refine seq_no hS (by decide) rfl (by decide) rfl rfl (fun a1 hS => ?_)
    refine seq_no hS (by decide) rfl (by decide) rfl rfl (fun a1 hS => ?_)
    refine seq_no hS (by decide) rfl (by decide) rfl rfl (fun a1 hS => ?_)
    refine seq_is hS (by decide) (runs_pick rfl rfl) (fun a1 hS => ?_)
    exact nil_ok (wp_cond_true (hS.eval rfl) (qx_seq (nope _ _ _ _ _ 2 (.inl rfl) hB1 (by unfold checkM; rw [if_neg (fun h => by have := h.1; unfold askB at this; rw [show decide (0 ≤ n) = false by rw [decide_eq_false_iff_not]; omega] at this; simp at this)]) hS)))
  refine seq_is hS (by decide) (runs_lss (r := false) rfl rfl (by rw [decide_eq_false_iff_not]; omega)) (fun a1 hS => ?_)
  refine seq_is hS (by decide) (runs_move rfl) (fun a1 hS => ?_)
  refine seq_yis hS (by decide) rfl (by decide) rfl (runs_move rfl) (fun a1 hS => ?_)
  by_cases h4 : n > 65536
  · refine seq_yis hS (by decide) rfl (by decide) rfl (runs_gtr (r := true) rfl rfl (by rw [decide_eq_true_eq]; omega)) (fun a1 hS => ?_)
    refine seq_is hS (by decide) (runs_pick rfl rfl) (fun a1 hS => ?_)
    refine seq_is hS (by decide) (runs_move rfl) (fun a1 hS => ?_)
    refine seq_no hS (by decide) rfl (by decide) rfl rfl (fun a1 hS => ?_)
    refine seq_no hS (by decide) rfl (by decide) rfl rfl (fun a1 hS => ?_)
    refine seq_no hS (by decide) rfl (by decide) rfl rfl (fun a1 hS => ?_)
    refine seq_no hS (by decide) rfl (by decide) rfl rfl (fun a1 hS => ?_)
    refine seq_is hS (by decide) (runs_pick rfl rfl) (fun a1 hS => ?_)
    refine seq_is hS (by decide) (runs_move rfl) (fun a1 hS => ?_)
    refine seq_no hS (by decide) rfl (by decide) rfl rfl (fun a1 hS => ?_)
    refine seq_no hS (by decide) rfl (by decide) rfl rfl (fun a1 hS => ?_)
    refine seq_no hS (by decide) rfl (by decide) rfl rfl (fun a1 hS => ?_)
    refine seq_no hS (by decide) rfl (by decide) rfl rfl (fun a1 hS => ?_)
    refine seq_no hS (by decide) rfl (by decide) rfl rfl (fun a1 hS => ?_)
    refine seq_is hS (by decide) (runs_pick rfl rfl) (fun a1 hS => ?_)
    exact nil_ok (wp_cond_true (hS.eval rfl) (qx_seq (nope _ _ _ _ _ 2 (.inl rfl) hB1 (by unfold checkM; rw [if_neg (fun h => by have := h.1; unfold askB at this; rw [show decide (n ≤ 65536) = false by rw [decide_eq_false_iff_not]; omega] at this; simp at this)]) hS)))
  refine seq_yis hS (by decide) rfl (by decide) rfl (runs_gtr (r := false) rfl rfl (by rw [decide_eq_false_iff_not]; omega)) (fun a1 hS => ?_)
  refine seq_is hS (by decide) (runs_pick rfl rfl) (fun a1 hS => ?_)
  refine seq_is hS (by decide) (runs_move rfl) (fun a1 hS => ?_)
  refine seq_yis hS (by decide) rfl (by decide) rfl (runs_move rfl) (fun a1 hS => ?_)
  refine seq_yis hS (by decide) rfl (by decide) rfl (runs_move rfl) (fun a1 hS => ?_)
  refine seq_yis hS (by decide) rfl (by decide) rfl (runs_call (args := [.int .i64 n, .slice A1 xs.length c1]) goes21 rfl (refRises_call n xs _ w1 hx1)) (fun a1 hS => ?_)
  cases hr : risesB n (-1) xs with
  | false =>
    rw [hr] at hS
    refine seq_yis hS (by decide) rfl (by decide) rfl (runs_not (b := false) rfl) (fun a1 hS => ?_)
    refine seq_is hS (by decide) (runs_pick rfl rfl) (fun a1 hS => ?_)
    refine seq_is hS (by decide) (runs_move rfl) (fun a1 hS => ?_)
    refine seq_no hS (by decide) rfl (by decide) rfl rfl (fun a1 hS => ?_)
    refine seq_no hS (by decide) rfl (by decide) rfl rfl (fun a1 hS => ?_)
    refine seq_no hS (by decide) rfl (by decide) rfl rfl (fun a1 hS => ?_)
    refine seq_no hS (by decide) rfl (by decide) rfl rfl (fun a1 hS => ?_)
    refine seq_no hS (by decide) rfl (by decide) rfl rfl (fun a1 hS => ?_)
    refine seq_is hS (by decide) (runs_pick rfl rfl) (fun a1 hS => ?_)
    exact nil_ok (wp_cond_true (hS.eval rfl) (qx_seq (nope _ _ _ _ _ 2 (.inl rfl) hB1 (by unfold checkM; rw [if_neg (fun h => by have := h.1; unfold askB at this; rw [hr] at this; simp at this)]) hS)))
  | true =>
    rw [hr] at hS
    refine seq_yis hS (by decide) rfl (by decide) rfl (runs_not (b := true) rfl) (fun a1 hS => ?_)
    refine seq_is hS (by decide) (runs_pick rfl rfl) (fun a1 hS => ?_)
    refine seq_is hS (by decide) (runs_move rfl) (fun a1 hS => ?_)
    refine seq_yis hS (by decide) rfl (by decide) rfl (runs_move rfl) (fun a1 hS => ?_)
    refine seq_yis hS (by decide) rfl (by decide) rfl (runs_len rfl undStrs) (fun a1 hS => ?_)
    refine seq_yis hS (by decide) rfl (by decide) rfl (runs_move rfl) (fun a1 hS => ?_)
    refine seq_yis hS (by decide) rfl (by decide) rfl (runs_len rfl undInts) (fun a1 hS => ?_)
    by_cases hl : ss.length = xs.length
    rotate_left
    · refine seq_yis hS (by decide) rfl (by decide) rfl (runs_neq (r := true) rfl rfl (by rw [bne_iff_ne]; omega)) (fun a1 hS => ?_)
      refine seq_is hS (by decide) (runs_pick rfl rfl) (fun a1 hS => ?_)
      exact nil_ok (wp_cond_true (hS.eval rfl) (qx_seq (nope _ _ _ _ _ 2 (.inl rfl) hB1 (by unfold checkM; rw [if_neg (fun h => by have := h.2.1; rw [List.length_map] at this; exact hl this)]) hS)))
    refine seq_yis hS (by decide) rfl (by decide) rfl (runs_neq (r := false) rfl rfl (by rw [hl]; simp)) (fun a1 hS => ?_)
    refine seq_is hS (by decide) (runs_pick rfl rfl) (fun a1 hS => ?_)
    have ha : askB n xs = true := by unfold askB; rw [hr, show decide (0 ≤ n) = true by rw [decide_eq_true_eq]; omega, show decide (n ≤ 65536) = true by rw [decide_eq_true_eq]; omega]; rfl
    obtain ⟨hex, hrn⟩ := of_toN hr
    obtain ⟨m, rfl⟩ := Int.eq_ofNat_of_zero_le (show 0 ≤ n by omega)
    have hz : sizeZ (m : Int) xs = (parts 0 m (toN xs)).length := by unfold sizeZ; rw [if_pos ha]; simp
    rw [Int.toNat_natCast] at hrn
    have hxN : Ints w1 (.slice A1 xs.length c1) (ofN (toN xs)) := by rwa [← hex]
    have htl : (toN xs).length = xs.length := by simp [toN]
    have htop := tops_any (toN xs) m hrn m 0 (.slice A1 xs.length c1) w1 (by omega) hxN
    have hpl' := parts_le' m 0 (toN xs)
    rw [sub_all hrn] at htop
    refine nil_ok (wp_cond_false (hS.eval rfl) (wp_skip (qx_seq (reg_seq ?_))))
    refine seq_is hS (by decide) (runs_move rfl) (fun a1 hS => ?_)
    refine seq_is hS (by decide) (runs_move rfl) (fun a1 hS => ?_)
    refine seq_op hS (by decide) (runs_call (args := [.int .i64 0, .int .i64 (m : Int), .slice A1 xs.length c1]) goes59 rfl htop) (fun v2 w2 a2 hp2 hS => ?_)
    obtain ⟨ho2, hB2⟩ := hp2
    have hP2 := pairs_own ho2
    have hB12 : Below w.heap.size w w2 := hB1.trans (hB2.mono hB1.size)
    obtain ⟨A3, c3, rfl, _⟩ := id hP2
    refine seq_is hS (by decide) (runs_assign rfl) (fun a1 hS => ?_)
    refine nil_ok (qx_seq (qx_seq (reg_seq ?_)))
    refine seq_is hS (by decide) (runs_move rfl) (fun a1 hS => ?_)
    refine seq_is hS (by decide) (runs_len rfl undPairs) (fun a1 hS => ?_)
    refine seq_is hS (by decide) (runs_move rfl) (fun a1 hS => ?_)
    refine seq_is hS (by decide) (runs_len rfl undHashes) (fun a1 hS => ?_)
    by_cases hpe : (parts 0 m (toN xs)).length = hs.length
    rotate_left
    · refine seq_is hS (by decide) (runs_neq (r := true) rfl rfl (by rw [bne_iff_ne]; omega)) (fun a1 hS => ?_)
      exact nil_ok (wp_cond_true (hS.eval rfl) (qx_seq (nope _ _ _ _ _ 5 (.inr rfl) hB12 (by unfold checkM; rw [if_neg (fun h => hpe (by rw [← hz]; exact h.2.2.symm))]) hS)))
    refine seq_is hS (by decide) (runs_neq (r := false) rfl rfl (by rw [hpe]; simp)) (fun a1 hS => ?_)
    refine nil_ok (wp_cond_false (hS.eval rfl) (wp_skip ?_))
    have hck : checkM root m xs (ss.map bl) hs = (Tree.root m (chk 0 m (toN xs) hs (ss.map bl)) == root) := by
      unfold checkM
      rw [if_pos ⟨ha, by rw [List.length_map]; exact hl, by rw [hz]; exact hpe.symm⟩]; simp
    rw [hck]
    have hst : Stands (parts 0 m (toN xs)) [] [] 0 m (toN xs) := ⟨by rw [sub_all hrn]; simp, by simp, by simp⟩
    have hrt := reftop_any (toN xs) m hrn (parts 0 m (toN xs)) hs ss hpe (by omega) hsz (by omega) (by omega) m 0 [] [] _ _ _ _ w2 hst (.inr rfl) (by omega) (hxN.kept hB2) (hL.kept hB12) hP2 (hH.kept hB12)
    rw [sub_all hrn, List.length_nil, List.drop_zero, show (sub 0 0 (toN xs)).length = 0 by rw [show sub 0 0 (toN xs) = [] from by unfold sub; rw [List.filter_eq_nil_iff]; intro x _; simp]; rfl, List.drop_zero] at hrt
    obtain ⟨hcl, hcb⟩ := chk_ok [] m 0 (toN xs) hs (ss.map bl) hok (by omega)
    obtain ⟨t, ht⟩ : ∃ t, t = chk 0 m (toN xs) hs (ss.map bl) := ⟨_, rfl⟩
    rw [← ht] at hrt hcl hcb
    rw [← ht]
    refine qx_seq (reg_seq ?_)
    refine seq_is hS (by decide) (runs_move rfl) (fun a1 hS => ?_)
    refine seq_is hS (by decide) (runs_move rfl) (fun a1 hS => ?_)
    refine seq_is hS (by decide) (runs_move rfl) (fun a1 hS => ?_)
    refine seq_is hS (by decide) (runs_move rfl) (fun a1 hS => ?_)
    refine seq_is hS (by decide) (runs_move rfl) (fun a1 hS => ?_)
    refine seq_op hS (by decide) (runs_call (args := [.int .i64 0, .int .i64 (m : Int), .slice A1 xs.length c1, .slice A2 ss.length c2, .slice A3 (parts 0 m (toN xs)).length c3, .slice A4 hs.length c4]) goes66 rfl (hash_post (fun w3 => Below w2.heap.size w2 w3) hrt (fun _ h => h))) (fun v4 w4 a4 hp4 hS => ?_)
    obtain ⟨rfl, hB4⟩ := hp4
    have hB14 : Below w.heap.size w w4 := hB12.trans (hB4.mono hB12.size)
    refine seq_op hS (by decide) (alloc_hash) (fun v5 w5 a5 hp5 hS => ?_)
    obtain ⟨rfl, rfl⟩ := hp5
    have hT5 := Has.new w4 26 (U8 (List.replicate 32 0))
    have hB5 : Below w4.heap.size w4 (w4.alloc (.cells (U8 (List.replicate 32 0)).toArray 26)) := (Below.refl _ _).alloc (Nat.le_refl _) _
    generalize w4.alloc (.cells (U8 (List.replicate 32 0)).toArray 26) = w5 at *
    refine seq_none hS (runs_storeRow rfl rfl hT5 (by simp [hcl]) (agg_all _) (by rw [infHash]; simp [hcl])) (fun v6 w6 a6 hp6 hS => ?_)
    obtain ⟨rfl, rfl⟩ := hp6
    have hT6 := has_setRow (cs := U8 t) hT5
    have hB6 : Below w4.heap.size w4 (w5.setRow w4.heap.size (U8 t).toArray) := below_row hB5 (Nat.le_refl _) _
    generalize w5.setRow w4.heap.size (U8 t).toArray = w6 at *
    have hB16 : Below w.heap.size w w6 := hB14.trans (hB6.mono hB14.size)
    have hR6 := hR1.below (hB2.trans ((hB4.trans (hB6.mono hB4.size)).mono hB2.size)) hR1.lt
    have hl10 := Wire.num_len10 m (by omega)
    have hst32 : (S t).size = 32 := by rw [S_size, hcl]
    have hsn : (S (Wire.num m)).size ≤ 10 := by rw [S_size]; exact hl10
    obtain ⟨z, hz1⟩ : ∃ z : ByteArray, ⟨#[3]⟩ ++ S (Wire.num m) = z := ⟨_, rfl⟩
    obtain ⟨u, hu⟩ : ∃ u : ByteArray, z ++ S t = u := ⟨_, rfl⟩
    have hzz : z.size = 1 + (S (Wire.num m)).size := by rw [← hz1, ByteArray.size_append, one3]
    have huz : u.size ≤ 1000 := by rw [← hu, ByteArray.size_append, hzz]; omega
    have hbl : bl u = 3 :: (Wire.num m ++ t) := by rw [← hu, ← hz1, bl_append, bl_append, bl3, bl_S (Wire.num_bytes m), bl_S hcb]; rfl
    refine nil_ok (qx_seq ?_)
    have hS := hS.only [(1, .int .i64 (m : Int)), (5, .pointer (some ⟨w.heap.size, 0, none⟩)), (12, .pointer (some ⟨w4.heap.size, 0, none⟩))] ⟨rfl, rfl, rfl, trivial⟩
    refine reg_guard (fun w' => Below w6.heap.size w6 w') [.inl (.int .i64 (m : Int)), .inl (.int .u64 (m : Int)), .inl (.string (S (Wire.num m))), .inl (.string z), .inl (.slice (some ⟨w4.heap.size, 0, none⟩) 32 32), .inl (.string (S t)), .inl (.string u), .inl (.string (S (Tree.root m t))), .inl (.string (S (Tree.root m t)))] 9 0 mixed rfl (by kernel_rfl) hS (Below.refl _ _) (fun _ h => h.drew) ?_
    refine hs_is rfl (fun w' hw => runs_move rfl) ?_
    refine hs_is rfl (fun w' hw => runs_convInt rfl rfl undU64 (IntWalk.u64_in _ (by omega))) ?_
    refine hs_val rfl (fun w' hw hq => runs_call (args := [.int .u64 (m : Int)]) goes44 rfl (str_post _ (refNum_any m w' (by omega)) (fun _ h => ⟨hw.trans (h.mono hw.size), h⟩))) ?_
    refine hs_is rfl (fun w' hw => runs_cat rfl rfl hz1 (by rw [one3]; omega)) ?_
    refine hs_is rfl (fun w' hw => runs_sliceArr rfl undHash infByte1) ?_
    refine hs_is rfl (fun w' hw => runs_conv rfl (conv_range (hT6.below hw hT6.lt).all 32 32 hcl)) ?_
    refine hs_is rfl (fun w' hw => runs_cat rfl rfl hu (by omega)) ?_
    refine hs_val rfl (fun w' hw hq => runs_call (args := [.string u]) goes45 rfl (str_post _ (by have := refof_any u w' huz; rwa [hbl] at this) (fun _ h => ⟨hw.trans (h.mono hw.size), h⟩))) ?_
    refine hs_is rfl (fun w' hw => runs_assign rfl) ?_
    refine (fun a7 w7 hS hB7 _ => ?_)
    refine wpAnyH_done (by kernel_rfl) ?_ _
    have hR7 := hR6.below hB7 hR6.lt
    refine qx_seq (reg_seq ?_)
    refine seq_is hS (by decide) (runs_sliceArr rfl undHash infByte1) (fun a1 hS => ?_)
    refine seq_is hS (by decide) (runs_conv rfl (conv_range hR7.all 32 32 hrl)) (fun a1 hS => ?_)
    refine seq_is hS (by decide) (runs_move rfl) (fun a1 hS => ?_)
    refine seq_is hS (by decide) (runs_eqStr (r := (Tree.root m t == root)) rfl rfl (by rw [bl_S hrb, bl_S (l := Tree.root m t) (sha_bytes _), Bool.eq_iff_iff, beq_iff_eq, beq_iff_eq]; exact eq_comm)) (fun a1 hS => ?_)
    refine seq_is hS (by decide) (runs_assign rfl) (fun a1 hS => ?_)
    exact nil_ok (qx_ret (ret1 (t := 10) (by kernel_rfl) hS rfl ⟨rfl, hB16.trans (hB7.mono hB16.size)⟩))
end Go.Proofs.YtdemoidmhmdgkaaDoor
