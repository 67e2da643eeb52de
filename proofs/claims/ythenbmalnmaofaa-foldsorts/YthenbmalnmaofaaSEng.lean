/- Layer 8: the kinds of struct, rows of messages, comparing. No condition. -/
import Derived.Test.YthenbmalnmaofaaEngS
import Derived.Test.YthenbmalnmaofaaSMath
import Derived.Test.YthenbmalnmaofaaGApp
namespace Go.Proofs.Ythenbmalnmaofaa
open Go.RowKit
set_option maxRecDepth 100000

theorem fo30_0 : fieldOff Try.prog 30 0 = some 0 := by kernel_rfl
theorem fo30_1 : fieldOff Try.prog 30 1 = some 1 := by kernel_rfl
theorem sz30 : (Try.prog.info? 30).map (·.size) = some 2 := by kernel_rfl
theorem fo41_0 : fieldOff Try.prog 41 0 = some 0 := by kernel_rfl
theorem fo41_1 : fieldOff Try.prog 41 1 = some 1 := by kernel_rfl
theorem fo41_2 : fieldOff Try.prog 41 2 = some 2 := by kernel_rfl
theorem sz41 : (Try.prog.info? 41).map (·.size) = some 3 := by kernel_rfl
theorem fo54_0 : fieldOff Try.prog 54 0 = some 0 := by kernel_rfl
theorem fo54_1 : fieldOff Try.prog 54 1 = some 1 := by kernel_rfl
theorem fo54_2 : fieldOff Try.prog 54 2 = some 2 := by kernel_rfl
theorem sz54 : (Try.prog.info? 54).map (·.size) = some 3 := by kernel_rfl
theorem zo30 : zeroOf Try.prog 30 = some (.agg [.int .i64 0, .slice none 0 0].toArray) := by kernel_rfl
theorem zo41 : zeroOf Try.prog 41 = some (.agg [.int .i64 0, .int .i64 0, .int .i64 0].toArray) := by kernel_rfl
theorem zo54 : zeroOf Try.prog 54 = some (.agg [.int .i64 0, .int .i64 0, .int .i64 0].toArray) := by kernel_rfl
theorem zo2 : zeroOf Try.prog 2 = some (.int .i64 0) := by kernel_rfl
theorem zo3 : zeroOf Try.prog 3 = some (.int .i64 0) := by kernel_rfl
theorem zo4 : zeroOf Try.prog 4 = some (.bool false) := by kernel_rfl
theorem zo9 : zeroOf Try.prog 9 = some (.string ByteArray.empty) := by kernel_rfl
theorem zo22 : zeroOf Try.prog 22 = some (.slice none 0 0) := by kernel_rfl
theorem zo28 : zeroOf Try.prog 28 = some (.slice none 0 0) := by kernel_rfl
theorem zo34 : zeroOf Try.prog 34 = some (.slice none 0 0) := by kernel_rfl
theorem pl2 : (match Try.prog.underlying 2 with | some (.struct _) => true | some (.array _ _) => true | none => true | _ => false) = false := by kernel_rfl
theorem s1_2 : (Try.prog.info? 2).map (·.size) = some 1 := by kernel_rfl
theorem pl3 : (match Try.prog.underlying 3 with | some (.struct _) => true | some (.array _ _) => true | none => true | _ => false) = false := by kernel_rfl
theorem s1_3 : (Try.prog.info? 3).map (·.size) = some 1 := by kernel_rfl
theorem pl4 : (match Try.prog.underlying 4 with | some (.struct _) => true | some (.array _ _) => true | none => true | _ => false) = false := by kernel_rfl
theorem s1_4 : (Try.prog.info? 4).map (·.size) = some 1 := by kernel_rfl
theorem pl9 : (match Try.prog.underlying 9 with | some (.struct _) => true | some (.array _ _) => true | none => true | _ => false) = false := by kernel_rfl
theorem s1_9 : (Try.prog.info? 9).map (·.size) = some 1 := by kernel_rfl
theorem pl22 : (match Try.prog.underlying 22 with | some (.struct _) => true | some (.array _ _) => true | none => true | _ => false) = false := by kernel_rfl
theorem s1_22 : (Try.prog.info? 22).map (·.size) = some 1 := by kernel_rfl
theorem pl28 : (match Try.prog.underlying 28 with | some (.struct _) => true | some (.array _ _) => true | none => true | _ => false) = false := by kernel_rfl
theorem s1_28 : (Try.prog.info? 28).map (·.size) = some 1 := by kernel_rfl
theorem pl34 : (match Try.prog.underlying 34 with | some (.struct _) => true | some (.array _ _) => true | none => true | _ => false) = false := by kernel_rfl
theorem s1_34 : (Try.prog.info? 34).map (·.size) = some 1 := by kernel_rfl
theorem undMM : Try.prog.underlying 34 = some (.slice 22) := by kernel_rfl
theorem infM : (Try.prog.info? 22).map (fun i => (i.zero, i.size, i.bytes)) = some (some (.slice none 0 0), 1, 24) := by kernel_rfl
theorem und32 : Try.prog.underlying 22 = some (.slice 41) := by kernel_rfl
theorem inf48 : (Try.prog.info? 41).map (fun i => (i.zero, i.size, i.bytes)) = some (some (.agg #[.int .i64 0, .int .i64 0, .int .i64 0]), 3, 24) := by kernel_rfl
/-- A cell of an object. -/
theorem Has.at {w : World} {g i : Nat} {t : TypeId} {cs : List Value} {v : Value} (h : Has w g t cs) (hv : cs[i]? = some v) : w.cell? ⟨g, i, none⟩ = some v := by rw [h.cell, hv]
theorem edges_ownE {w : World} {base n e : Nat} {v : Value} {es : List E} (h : w.ownsRow base e 3 v n (cellsE es)) (hn : es.length = n) : Edges w v es := by
  subst hn
  rcases h.2 with ⟨rfl, h0⟩ | ⟨g, cap, cur, rfl, hb, hg, h1, h2, h3, h4⟩
  · exact ⟨none, 0, by rw [h0], by omega, by unfold maxLen; omega, fun h => by omega⟩
  · refine ⟨_, cap, rfl, h1, h2, fun _ => ⟨g, 0, rfl, (Array.getElem?_eq_some_iff.1 hg).1, fun j v hv => ?_⟩⟩
    rw [← h4, List.getElem?_take] at hv
    split at hv
    · simp only [World.cell?, hg, Nat.zero_add]; simpa using hv
    · cases hv
theorem edgesB_ownE {w : World} {B n e : Nat} {v : Value} {es : List E} (h : w.ownsRow B e 3 v n (cellsE es)) (hn : es.length = n) : EdgesB B w v es := by
  subst hn
  rcases h.2 with ⟨rfl, h0⟩ | ⟨g, cap, cur, rfl, hb, hg, h1, h2, h3, h4⟩
  · exact ⟨none, 0, by rw [h0], by omega, by unfold maxLen; omega, fun h => by omega⟩
  · obtain ⟨A, c, e, k1, k2, k3⟩ := edges_ownE (es := es) ⟨h.1, .inr ⟨g, cap, cur, rfl, hb, hg, h1, h2, h3, h4⟩⟩ rfl
    refine ⟨A, c, e, k1, k2, fun hp => ?_⟩
    obtain ⟨b, o, rfl, k4, k5⟩ := k3 hp
    simp only [Value.slice.injEq, Option.some.injEq, Addr.mk.injEq] at e
    exact ⟨b, o, rfl, by omega, k4, k5⟩
/-- An edge's row isn't an object of another kind. -/
theorem edges_but {S : Nat → Prop} {w w' : World} {v : Value} {es : List E} (h : Edges w v es) (k : But S w w') (hS : ∀ i, S i → ∃ t cs, Has w i t cs ∧ ∀ u ∈ cs, ∀ x, u ≠ .int .i64 x) : Edges w' v es := by
  obtain ⟨A, c, rfl, h1, h2, h3⟩ := h
  refine ⟨A, c, rfl, h1, h2, fun hp => ?_⟩
  obtain ⟨b, o, rfl, hb, hr⟩ := h3 hp
  refine ⟨b, o, rfl, Nat.lt_of_lt_of_le hb k.size, fun j u hj => ?_⟩
  have h5 := hr j u hj
  have hn : ¬ S b := fun hs => by
    obtain ⟨t, cs, hcs, hno⟩ := hS b hs
    obtain ⟨e, es', rfl⟩ : ∃ e es', es = e :: es' := by cases es with | nil => simp at hp | cons e es' => exact ⟨e, es', rfl⟩
    have h6 := hr 0 (.int .i64 e.1) (by simp [cellsE, encE])
    rw [hcs.cell] at h6
    exact hno _ (List.mem_of_getElem? h6) _ rfl
  simp only [World.cell?] at h5 ⊢
  rw [k.block b hb hn]; exact h5
section
variable {ty : TypeId} {L : List (Nat × Value)} {w : World}
theorem eqS1 {t' : TypeId} {x y : Operand} {tg : ByteArray} {k : Nat} (hx : vals L x = some (.string tg)) (hy : vals L y = some (.string ⟨#[109, 97, 120]⟩)) (hk : kindL tg.data.toList = k) : Runs Try.prog (.binOp .eql 9 x y t') ty L w (Is (.bool (k == 1)) w) := runs_eqStr hx hy ((is1 _).trans (by rw [hk]))
theorem eqS2 {t' : TypeId} {x y : Operand} {tg : ByteArray} {k : Nat} (hx : vals L x = some (.string tg)) (hy : vals L y = some (.string ⟨#[108, 97, 98, 101, 108]⟩)) (hk : kindL tg.data.toList = k) : Runs Try.prog (.binOp .eql 9 x y t') ty L w (Is (.bool (k == 2)) w) := runs_eqStr hx hy ((is2 _).trans (by rw [hk]))
theorem eqS3 {t' : TypeId} {x y : Operand} {tg : ByteArray} {k : Nat} (hx : vals L x = some (.string tg)) (hy : vals L y = some (.string ⟨#[115, 115, 115, 112]⟩)) (hk : kindL tg.data.toList = k) : Runs Try.prog (.binOp .eql 9 x y t') ty L w (Is (.bool (k == 3)) w) := runs_eqStr hx hy ((is3 _).trans (by rw [hk]))
theorem eqS4 {t' : TypeId} {x y : Operand} {tg : ByteArray} {k : Nat} (hx : vals L x = some (.string tg)) (hy : vals L y = some (.string ⟨#[98, 102, 115]⟩)) (hk : kindL tg.data.toList = k) : Runs Try.prog (.binOp .eql 9 x y t') ty L w (Is (.bool (k == 4)) w) := runs_eqStr hx hy ((is4 _).trans (by rw [hk]))
theorem eqS5 {t' : TypeId} {x y : Operand} {tg : ByteArray} {k : Nat} (hx : vals L x = some (.string tg)) (hy : vals L y = some (.string ⟨#[100, 101, 103, 114, 101, 101]⟩)) (hk : kindL tg.data.toList = k) : Runs Try.prog (.binOp .eql 9 x y t') ty L w (Is (.bool (k == 5)) w) := runs_eqStr hx hy ((is5 _).trans (by rw [hk]))
theorem eqS6 {t' : TypeId} {x y : Operand} {tg : ByteArray} {k : Nat} (hx : vals L x = some (.string tg)) (hy : vals L y = some (.string ⟨#[114, 97, 110, 107]⟩)) (hk : kindL tg.data.toList = k) : Runs Try.prog (.binOp .eql 9 x y t') ty L w (Is (.bool (k == 6)) w) := runs_eqStr hx hy ((is6 _).trans (by rw [hk]))
theorem eqS7 {t' : TypeId} {x y : Operand} {tg : ByteArray} {k : Nat} (hx : vals L x = some (.string tg)) (hy : vals L y = some (.string ⟨#[119, 97, 108, 107, 115]⟩)) (hk : kindL tg.data.toList = k) : Runs Try.prog (.binOp .eql 9 x y t') ty L w (Is (.bool (k == 7)) w) := runs_eqStr hx hy ((is7 _).trans (by rw [hk]))
/-- One more message. -/
theorem push_ownM {B g2 : Nat} {s x : Operand} {sv : Value} {acc : List E} {e : E} (hs : vals L s = some sv) (hown : w.ownsRow B 41 3 sv acc.length (cellsE acc)) (hx : vals L x = some (.slice (some ⟨g2, 0, none⟩) 1 1)) (hX : Has w g2 41 (encE e)) (hn : acc.length ≤ 10000000) (hB : B ≤ w.heap.size) :
    Runs Try.prog (.call { callee := .builtin .append, args := #[s, x], argTypes := #[22, 22] }) ty L w (fun v w' => (∃ g3 c3, v = .slice (some ⟨g3, 0, none⟩) (acc.length + 1) c3) ∧ w'.ownsRow B 41 3 v (acc.length + 1) (cellsE (acc ++ [e])) ∧ (∀ i t cs, t ≠ 41 → Has w i t cs → Has w' i t cs) ∧ Below B w w') := by
  obtain ⟨i48, hi48, hz48, hs48, hb48⟩ := info_parts inf48
  refine (runs_appendN (news := encE e) und32 hi48 hz48 hs48 hb48 rfl (by omega) hs hown hx rfl (fun j u hj => by rw [add_zero_addr, Nat.zero_add, hX.cell]; exact hj) (by simp [encE, Value.oneCell']) (by unfold maxLen; omega) (by omega) hB (by omega)).mono ?_
  rintro v w' ⟨hown3, hgr3, hne3⟩
  refine ⟨?_, by rw [cellsE_append, cellsE_one]; exact hown3, fun i t cs ht hi => ?_, ?_⟩
  · rcases hown3.2 with ⟨rfl, h0⟩ | ⟨g3, c3, _, rfl, _⟩
    · omega
    · exact ⟨g3, c3, rfl⟩
  · have hne : some i ≠ sv.ownBlock := fun hsv => by
      rcases hown.2 with ⟨rfl, _⟩ | ⟨g0, cap, cur, rfl, _, hh, _⟩
      · simp [Value.ownBlock] at hsv
      · simp only [Value.ownBlock, Option.some.injEq] at hsv
        subst hsv
        unfold Has at hi
        rw [hi] at hh
        simp only [Option.some.injEq, Obj.cells.injEq] at hh
        exact ht hh.2.1
    unfold Has
    rw [hgr3.block i hi.lt hne]
    exact hi
  · exact below_grown (Below.refl _ _) hgr3 (fun g hg => by rcases hown.2 with ⟨rfl, _⟩ | ⟨g0, cap, _, rfl, hg0, _⟩ <;> simp [Value.ownBlock] at hg; omega) hB
/-- A slice of one message. -/
theorem runs_oneM {x : Operand} {e : E} (hx : vals L x = some (.agg (encE e).toArray)) : Runs Try.prog (.buildSlice 22 1 #[(0, x)]) ty L w (fun v w' => ∃ g2, v = .slice (some ⟨g2, 0, none⟩) 1 1 ∧ Has w' g2 41 (encE e) ∧ Below w.heap.size w w') := by
  obtain ⟨i48, hi48, hz48, hs48, hb48⟩ := info_parts inf48
  exact (runs_buildSliceG (sz := 3) (pv := [(0, .agg (encE e).toArray)]) (by simp [hx]) und32 hi48 hz48 hs48 (by omega) (by omega) (cells := (encE e).toArray) (by kernel_rfl)).mono (by rintro v w5 ⟨rfl, rfl⟩; exact ⟨_, rfl, Has.new w 41 (encE e), (Below.refl _ _).alloc (Nat.le_refl _) _⟩)
/-- A message of a slice, loaded. -/
theorem runs_loadM {x : Operand} {g o' : Nat} {e : E} (hx : vals L x = some (.pointer (some ⟨g, o', none⟩))) (hg : w.rangeAt g o' (encE e)) : Runs Try.prog (.load 41 x) ty L w (Is (.agg (encE e).toArray) w) :=
  runs_loadMid hx hg Try.underlying41 rfl (by rw [sz41]; rfl)
theorem run_eqM (a b : E) (w : World) : (binOp .eql 41 (.agg (encE a).toArray) (.agg (encE b).toArray)).run Try.prog w = .ok (.bool (a.1 == b.1 && a.2.1 == b.2.1 && a.2.2 == b.2.2)) w := by
  have u3 := Try.underlying3
  have a3 := Try.isAgg3
  have z3 := Try.sizeOf3
  have u2 := Try.underlying2
  have a2 := Try.isAgg2
  have z2 := Try.sizeOf2
  have hS : Try.prog.underlying 41 = some (.struct (Try.prog.fieldsOf 41)) := by kernel_rfl
  have hp : Try.prog.stoodInHeld 41 = false := by kernel_rfl
  simp only [encE]
  rw [run_eql_struct, show (10000 : Nat) = 9999 + 1 from rfl, run_equalIn_agg w 9999 41 _ _ hS hp]
  simp only [Program.fieldsOf, Try.underlying41]
  go_simp
  by_cases h1 : a.1 = b.1 <;> by_cases h2 : a.2.1 = b.2.1 <;> by_cases h3 : a.2.2 = b.2.2 <;> simp [h1, h2, h3]
theorem run_neM (a b : E) (w : World) : (binOp .neq 41 (.agg (encE a).toArray) (.agg (encE b).toArray)).run Try.prog w = .ok (.bool (!(a.1 == b.1 && a.2.1 == b.2.1 && a.2.2 == b.2.2))) w := by
  have h := run_eqM a b w
  rw [run_eql_struct] at h
  rw [run_neq_struct]
  generalize (Op.equalIn 10000 41 (.agg (encE a).toArray) (.agg (encE b).toArray)).run Try.prog w = r at h ⊢
  cases r with
  | ok x w1 => simp only [Result.andThen_ok, Result.ok.injEq, Value.bool.injEq] at h ⊢; exact ⟨by rw [h.1], h.2⟩
  | _ => simp [Result.andThen] at h
theorem runs_neM {t' : TypeId} {X Y : Operand} {a b : E} {r : Bool} (hx : vals L X = some (.agg (encE a).toArray)) (hy : vals L Y = some (.agg (encE b).toArray)) (hr : (!decide (a = b)) = r) : Runs Try.prog (.binOp .neq 41 X Y t') ty L w (Is (.bool r) w) := fun o act K Q ho _ hL hK => by
  have ex := hL X (by simp [Op.operands]) _ hx
  have ey := hL Y (by simp [Op.operands]) _ hy
  have h := run_neM a b w
  rw [eqE_iff, hr] at h
  have hg : (eqGuard .neq 41 X Y (.agg (encE a).toArray) (.agg (encE b).toArray)).run Try.prog w = .ok () w := by
    have hp : Try.prog.eqGuardType Try.prog.depth 41 = false := by kernel_rfl
    simp [eqGuard, hp]
  unfold Oper.wp
  have : (execOp act.eval o).run Try.prog w = .ok (.value (.bool r)) w := by
    simp only [execOp, ho, ex, ey]
    simp only [Sem.run_bind, hg, Result.andThen_ok, h, Sem.run_pure]
  rw [this]
  exact hK _ w ⟨rfl, rfl⟩
end
end Go.Proofs.Ythenbmalnmaofaa
