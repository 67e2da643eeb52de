/- Layer 7: the kinds of struct, rows of messages, comparing. No condition. -/
import Derived.Test.YtapcpmalgdhakaaGreatEngS
import Derived.Test.YtapcpmalgdhakaaGreatSMath
import Derived.Test.YtapcpmalgdhakaaGreatRNorm
namespace Go.Proofs.YtapcpmalgdhakaaGreat
open Go.RowKit
set_option maxRecDepth 100000

theorem fo24_0 : fieldOff Tryz.prog 24 0 = some 0 := by kernel_rfl
theorem fo24_1 : fieldOff Tryz.prog 24 1 = some 1 := by kernel_rfl
theorem sz24 : (Tryz.prog.info? 24).map (·.size) = some 2 := by kernel_rfl
theorem fo26_0 : fieldOff Tryz.prog 26 0 = some 0 := by kernel_rfl
theorem fo26_1 : fieldOff Tryz.prog 26 1 = some 1 := by kernel_rfl
theorem fo26_2 : fieldOff Tryz.prog 26 2 = some 2 := by kernel_rfl
theorem sz26 : (Tryz.prog.info? 26).map (·.size) = some 3 := by kernel_rfl
theorem fo28_0 : fieldOff Tryz.prog 50 0 = some 0 := by kernel_rfl
theorem fo28_1 : fieldOff Tryz.prog 50 1 = some 1 := by kernel_rfl
theorem fo28_2 : fieldOff Tryz.prog 50 2 = some 2 := by kernel_rfl
theorem fo28_3 : fieldOff Tryz.prog 50 3 = some 3 := by kernel_rfl
theorem fo28_4 : fieldOff Tryz.prog 50 4 = some 4 := by kernel_rfl
theorem sz28 : (Tryz.prog.info? 50).map (·.size) = some 5 := by kernel_rfl
theorem fo46_0 : fieldOff Tryz.prog 48 0 = some 0 := by kernel_rfl
theorem fo46_1 : fieldOff Tryz.prog 48 1 = some 1 := by kernel_rfl
theorem fo46_2 : fieldOff Tryz.prog 48 2 = some 2 := by kernel_rfl
theorem sz46 : (Tryz.prog.info? 48).map (·.size) = some 3 := by kernel_rfl
theorem fo48_0 : fieldOff Tryz.prog 61 0 = some 0 := by kernel_rfl
theorem fo48_1 : fieldOff Tryz.prog 61 1 = some 1 := by kernel_rfl
theorem fo48_2 : fieldOff Tryz.prog 61 2 = some 2 := by kernel_rfl
theorem sz48 : (Tryz.prog.info? 61).map (·.size) = some 3 := by kernel_rfl
theorem fo63_0 : fieldOff Tryz.prog 89 0 = some 0 := by kernel_rfl
theorem fo63_1 : fieldOff Tryz.prog 89 1 = some 1 := by kernel_rfl
theorem fo63_2 : fieldOff Tryz.prog 89 2 = some 2 := by kernel_rfl
theorem fo63_3 : fieldOff Tryz.prog 89 3 = some 3 := by kernel_rfl
theorem fo63_4 : fieldOff Tryz.prog 89 4 = some 4 := by kernel_rfl
theorem fo63_5 : fieldOff Tryz.prog 89 5 = some 5 := by kernel_rfl
theorem fo63_6 : fieldOff Tryz.prog 89 6 = some 6 := by kernel_rfl
theorem fo63_7 : fieldOff Tryz.prog 89 7 = some 7 := by kernel_rfl
theorem fo63_8 : fieldOff Tryz.prog 89 8 = some 8 := by kernel_rfl
theorem sz63 : (Tryz.prog.info? 89).map (·.size) = some 9 := by kernel_rfl
theorem zo24 : zeroOf Tryz.prog 24 = some (.agg [.int .i64 0, .slice none 0 0].toArray) := by kernel_rfl
theorem zo26 : zeroOf Tryz.prog 26 = some (.agg [.string ByteArray.empty, .int .i64 0, .int .i64 0].toArray) := by kernel_rfl
theorem zo28 : zeroOf Tryz.prog 50 = some (.agg [.int .i64 0, .int .i64 0, .bool false, .bool false, .int .i64 0].toArray) := by kernel_rfl
theorem zo46 : zeroOf Tryz.prog 48 = some (.agg [.int .i64 0, .int .i64 0, .int .i64 0].toArray) := by kernel_rfl
theorem zo48 : zeroOf Tryz.prog 61 = some (.agg [.int .i64 0, .int .i64 0, .int .i64 0].toArray) := by kernel_rfl
theorem zo63 : zeroOf Tryz.prog 89 = some (.agg [.bool false, .bool false, .bool false, .bool false, .int .i64 0, .int .i64 0, .int .i64 0, .bool false, .nilFunc].toArray) := by kernel_rfl
theorem zo22 : zeroOf Tryz.prog 22 = some (.slice none 0 0) := by kernel_rfl
theorem zo32 : zeroOf Tryz.prog 29 = some (.slice none 0 0) := by kernel_rfl
theorem pl2 : (match Tryz.prog.underlying 2 with | some (.struct _) => true | some (.array _ _) => true | none => true | _ => false) = false := by kernel_rfl
theorem s1_2 : (Tryz.prog.info? 2).map (·.size) = some 1 := by kernel_rfl
theorem pl3 : (match Tryz.prog.underlying 3 with | some (.struct _) => true | some (.array _ _) => true | none => true | _ => false) = false := by kernel_rfl
theorem pl4 : (match Tryz.prog.underlying 4 with | some (.struct _) => true | some (.array _ _) => true | none => true | _ => false) = false := by kernel_rfl
theorem s1_4 : (Tryz.prog.info? 4).map (·.size) = some 1 := by kernel_rfl
theorem pl9 : (match Tryz.prog.underlying 9 with | some (.struct _) => true | some (.array _ _) => true | none => true | _ => false) = false := by kernel_rfl
theorem pl22 : (match Tryz.prog.underlying 22 with | some (.struct _) => true | some (.array _ _) => true | none => true | _ => false) = false := by kernel_rfl
theorem s1_22 : (Tryz.prog.info? 22).map (·.size) = some 1 := by kernel_rfl
theorem pl32 : (match Tryz.prog.underlying 29 with | some (.struct _) => true | some (.array _ _) => true | none => true | _ => false) = false := by kernel_rfl
theorem s1_32 : (Tryz.prog.info? 29).map (·.size) = some 1 := by kernel_rfl
theorem pl60 : (match Tryz.prog.underlying 86 with | some (.struct _) => true | some (.array _ _) => true | none => true | _ => false) = false := by kernel_rfl
theorem pl61 : (match Tryz.prog.underlying 87 with | some (.struct _) => true | some (.array _ _) => true | none => true | _ => false) = false := by kernel_rfl
theorem pl72 : (match Tryz.prog.underlying 105 with | some (.struct _) => true | some (.array _ _) => true | none => true | _ => false) = false := by kernel_rfl
theorem und32 : Tryz.prog.underlying 29 = some (.slice 61) := by kernel_rfl
theorem inf48 : (Tryz.prog.info? 61).map (fun i => (i.zero, i.size, i.bytes)) = some (some (.agg #[.int .i64 0, .int .i64 0, .int .i64 0]), 3, 24) := by kernel_rfl
abbrev jc (tg : ByteArray) (src steps : Int) : List Value := [.string tg, .int .i64 src, .int .i64 steps]
abbrev jv (tg : ByteArray) (src steps : Int) : Value := .agg (jc tg src steps).toArray
abbrev vc (x : Vx) : List Value := [.int .i64 x.id, .int .i64 x.val, .bool x.act, .bool x.has, .int .i64 x.inn]
abbrev vv (x : Vx) : Value := .agg (vc x).toArray
/-- A cell of an object. -/
theorem Has.at {w : World} {g i : Nat} {t : TypeId} {cs : List Value} {v : Value} (h : Has w g t cs) (hv : cs[i]? = some v) : w.cell? ⟨g, i, none⟩ = some v := by rw [h.cell, hv]
theorem edges_ownE {w : World} {base n e : Nat} {v : Value} {es : List E} (h : w.ownsRow base e 3 v n (cellsE es)) (hn : es.length = n) : Edges w v es := by
  subst hn
  rcases h.2 with ⟨rfl, h0⟩ | ⟨g, cap, cur, rfl, hb, hg, h1, h2, h3, h4⟩
  · exact ⟨none, 0, by rw [h0], by omega, by unfold maxLen; omega, fun h => by omega⟩
  · refine ⟨_, cap, rfl, h1, h2, fun _ => ⟨g, 0, rfl, (Array.getElem?_eq_some_iff.1 hg).1, fun j v hv => ?_⟩⟩
    rw [← h4, List.getElem?_take] at hv
    split at hv
    · simp only [World.cell?, hg, Nat.zero_add]; simpa using hv
    · cases hv
/-- An edge's row isn't an object of another kind. -/
theorem edges_but {S : Nat → Prop} {w w' : World} {v : Value} {es : List E} (h : Edges w v es) (k : But S w w') (hS : ∀ i, S i → ∃ t cs, Has w i t cs ∧ ∀ u ∈ cs, ∀ x, u ≠ .int .i64 x) : Edges w' v es := by
  obtain ⟨A, c, rfl, h1, h2, h3⟩ := h
  refine ⟨A, c, rfl, h1, h2, fun hp => ?_⟩
  obtain ⟨b, o, rfl, hb, hr⟩ := h3 hp
  refine ⟨b, o, rfl, Nat.lt_of_lt_of_le hb k.size, fun j u hj => ?_⟩
  have h5 := hr j u hj
  have hn : ¬ S b := fun hs => by
    obtain ⟨t, cs, hcs, hno⟩ := hS b hs
    obtain ⟨e, es', rfl⟩ : ∃ e es', es = e :: es' := by cases es with | nil => simp at hp | cons e es' => exact ⟨e, es', rfl⟩
    have h6 := hr 0 (.int .i64 e.1) (by simp [cellsE, encE])
    rw [hcs.cell] at h6
    exact hno _ (List.mem_of_getElem? h6) _ rfl
  simp only [World.cell?] at h5 ⊢
  rw [k.block b hb hn]; exact h5
section
variable {ty : TypeId} {L : List (Nat × Value)} {w : World}
theorem eqS1 {t' : TypeId} {x y : Operand} {tg : ByteArray} {k : Nat} (hx : vals L x = some (.string tg)) (hy : vals L y = some (.string ⟨#[109, 97, 120]⟩)) (hk : kindL tg.data.toList = k) : Runs Tryz.prog (.binOp .eql 9 x y t') ty L w (Is (.bool (k == 1)) w) := runs_eqStr hx hy ((is1 _).trans (by rw [hk]))
theorem eqS2 {t' : TypeId} {x y : Operand} {tg : ByteArray} {k : Nat} (hx : vals L x = some (.string tg)) (hy : vals L y = some (.string ⟨#[108, 97, 98, 101, 108]⟩)) (hk : kindL tg.data.toList = k) : Runs Tryz.prog (.binOp .eql 9 x y t') ty L w (Is (.bool (k == 2)) w) := runs_eqStr hx hy ((is2 _).trans (by rw [hk]))
theorem eqS3 {t' : TypeId} {x y : Operand} {tg : ByteArray} {k : Nat} (hx : vals L x = some (.string tg)) (hy : vals L y = some (.string ⟨#[115, 115, 115, 112]⟩)) (hk : kindL tg.data.toList = k) : Runs Tryz.prog (.binOp .eql 9 x y t') ty L w (Is (.bool (k == 3)) w) := runs_eqStr hx hy ((is3 _).trans (by rw [hk]))
theorem eqS4 {t' : TypeId} {x y : Operand} {tg : ByteArray} {k : Nat} (hx : vals L x = some (.string tg)) (hy : vals L y = some (.string ⟨#[98, 102, 115]⟩)) (hk : kindL tg.data.toList = k) : Runs Tryz.prog (.binOp .eql 9 x y t') ty L w (Is (.bool (k == 4)) w) := runs_eqStr hx hy ((is4 _).trans (by rw [hk]))
theorem eqS5 {t' : TypeId} {x y : Operand} {tg : ByteArray} {k : Nat} (hx : vals L x = some (.string tg)) (hy : vals L y = some (.string ⟨#[100, 101, 103, 114, 101, 101]⟩)) (hk : kindL tg.data.toList = k) : Runs Tryz.prog (.binOp .eql 9 x y t') ty L w (Is (.bool (k == 5)) w) := runs_eqStr hx hy ((is5 _).trans (by rw [hk]))
theorem eqS6 {t' : TypeId} {x y : Operand} {tg : ByteArray} {k : Nat} (hx : vals L x = some (.string tg)) (hy : vals L y = some (.string ⟨#[114, 97, 110, 107]⟩)) (hk : kindL tg.data.toList = k) : Runs Tryz.prog (.binOp .eql 9 x y t') ty L w (Is (.bool (k == 6)) w) := runs_eqStr hx hy ((is6 _).trans (by rw [hk]))
theorem eqS7 {t' : TypeId} {x y : Operand} {tg : ByteArray} {k : Nat} (hx : vals L x = some (.string tg)) (hy : vals L y = some (.string ⟨#[119, 97, 108, 107, 115]⟩)) (hk : kindL tg.data.toList = k) : Runs Tryz.prog (.binOp .eql 9 x y t') ty L w (Is (.bool (k == 7)) w) := runs_eqStr hx hy ((is7 _).trans (by rw [hk]))
/-- One more message. -/
theorem push_ownM {B g2 : Nat} {s x : Operand} {sv : Value} {acc : List E} {e : E} (hs : vals L s = some sv) (hown : w.ownsRow B 61 3 sv acc.length (cellsE acc)) (hx : vals L x = some (.slice (some ⟨g2, 0, none⟩) 1 1)) (hX : Has w g2 61 (encE e)) (hn : acc.length ≤ 10000000) (hB : B ≤ w.heap.size) :
    Runs Tryz.prog (.call { callee := .builtin .append, args := #[s, x], argTypes := #[29, 29] }) ty L w (fun v w' => (∃ g3 c3, v = .slice (some ⟨g3, 0, none⟩) (acc.length + 1) c3) ∧ w'.ownsRow B 61 3 v (acc.length + 1) (cellsE (acc ++ [e])) ∧ (∀ i t cs, t ≠ 61 → Has w i t cs → Has w' i t cs) ∧ Below B w w') := by
  obtain ⟨i48, hi48, hz48, hs48, hb48⟩ := info_parts inf48
  refine (runs_appendN (news := encE e) und32 hi48 hz48 hs48 hb48 rfl (by omega) hs hown hx rfl (fun j u hj => by rw [add_zero_addr, Nat.zero_add, hX.cell]; exact hj) (by simp [encE, Value.oneCell']) (by unfold maxLen; omega) (by omega) hB (by omega)).mono ?_
  rintro v w' ⟨hown3, hgr3, hne3⟩
  refine ⟨?_, by rw [cellsE_append, cellsE_one]; exact hown3, fun i t cs ht hi => ?_, ?_⟩
  · rcases hown3.2 with ⟨rfl, h0⟩ | ⟨g3, c3, _, rfl, _⟩
    · omega
    · exact ⟨g3, c3, rfl⟩
  · have hne : some i ≠ sv.ownBlock := fun hsv => by
      rcases hown.2 with ⟨rfl, _⟩ | ⟨g0, cap, cur, rfl, _, hh, _⟩
      · simp [Value.ownBlock] at hsv
      · simp only [Value.ownBlock, Option.some.injEq] at hsv
        subst hsv
        unfold Has at hi
        rw [hi] at hh
        simp only [Option.some.injEq, Obj.cells.injEq] at hh
        exact ht hh.2.1
    unfold Has
    rw [hgr3.block i hi.lt hne]
    exact hi
  · exact below_grown (Below.refl _ _) hgr3 (fun g hg => by rcases hown.2 with ⟨rfl, _⟩ | ⟨g0, cap, _, rfl, hg0, _⟩ <;> simp [Value.ownBlock] at hg; omega) hB
/-- A slice of one message. -/
theorem runs_oneM {x : Operand} {e : E} (hx : vals L x = some (.agg (encE e).toArray)) : Runs Tryz.prog (.buildSlice 29 1 #[(0, x)]) ty L w (fun v w' => ∃ g2, v = .slice (some ⟨g2, 0, none⟩) 1 1 ∧ Has w' g2 61 (encE e) ∧ Below w.heap.size w w') := by
  obtain ⟨i48, hi48, hz48, hs48, hb48⟩ := info_parts inf48
  exact (runs_buildSliceG (sz := 3) (pv := [(0, .agg (encE e).toArray)]) (by simp [hx]) und32 hi48 hz48 hs48 (by omega) (by omega) (cells := (encE e).toArray) (by kernel_rfl)).mono (by rintro v w5 ⟨rfl, rfl⟩; exact ⟨_, rfl, Has.new w 61 (encE e), (Below.refl _ _).alloc (Nat.le_refl _) _⟩)
/-- A message of a slice, loaded. -/
theorem runs_loadM {x : Operand} {g o' : Nat} {e : E} (hx : vals L x = some (.pointer (some ⟨g, o', none⟩))) (hg : w.rangeAt g o' (encE e)) : Runs Tryz.prog (.load 61 x) ty L w (Is (.agg (encE e).toArray) w) :=
  runs_loadMid hx hg Tryz.underlying61 rfl (by rw [sz48]; rfl)
theorem run_eqM (a b : E) (w : World) : (binOp .eql 61 (.agg (encE a).toArray) (.agg (encE b).toArray)).run Tryz.prog w = .ok (.bool (a.1 == b.1 && a.2.1 == b.2.1 && a.2.2 == b.2.2)) w := by
  have u3 := Tryz.underlying3
  have a3 := Tryz.isAgg3
  have z3 := Tryz.sizeOf3
  have u2 := Tryz.underlying2
  have a2 := Tryz.isAgg2
  have z2 := Tryz.sizeOf2
  have hS : Tryz.prog.underlying 61 = some (.struct (Tryz.prog.fieldsOf 61)) := by kernel_rfl
  have hp : Tryz.prog.stoodInHeld 61 = false := by kernel_rfl
  simp only [encE]
  rw [run_eql_struct, show (10000 : Nat) = 9999 + 1 from rfl, run_equalIn_agg w 9999 61 _ _ hS hp]
  simp only [Program.fieldsOf, Tryz.underlying61]
  go_simp
  by_cases h1 : a.1 = b.1 <;> by_cases h2 : a.2.1 = b.2.1 <;> by_cases h3 : a.2.2 = b.2.2 <;> simp [h1, h2, h3]
theorem run_neM (a b : E) (w : World) : (binOp .neq 61 (.agg (encE a).toArray) (.agg (encE b).toArray)).run Tryz.prog w = .ok (.bool (!(a.1 == b.1 && a.2.1 == b.2.1 && a.2.2 == b.2.2))) w := by
  have h := run_eqM a b w
  rw [run_eql_struct] at h
  rw [run_neq_struct]
  generalize (Op.equalIn 10000 61 (.agg (encE a).toArray) (.agg (encE b).toArray)).run Tryz.prog w = r at h ⊢
  cases r with
  | ok x w1 => simp only [Result.andThen_ok, Result.ok.injEq, Value.bool.injEq] at h ⊢; exact ⟨by rw [h.1], h.2⟩
  | _ => simp [Result.andThen] at h
theorem runs_neM {t' : TypeId} {X Y : Operand} {a b : E} {r : Bool} (hx : vals L X = some (.agg (encE a).toArray)) (hy : vals L Y = some (.agg (encE b).toArray)) (hr : (!decide (a = b)) = r) : Runs Tryz.prog (.binOp .neq 61 X Y t') ty L w (Is (.bool r) w) := fun o act K Q ho _ hL hK => by
  have ex := hL X (by simp [Op.operands]) _ hx
  have ey := hL Y (by simp [Op.operands]) _ hy
  have h := run_neM a b w
  rw [eqE_iff, hr] at h
  have hg : (eqGuard .neq 61 X Y (.agg (encE a).toArray) (.agg (encE b).toArray)).run Tryz.prog w = .ok () w := by
    have hp : Tryz.prog.eqGuardType Tryz.prog.depth 61 = false := by kernel_rfl
    simp [eqGuard, hp]
  unfold Oper.wp
  have : (execOp act.eval o).run Tryz.prog w = .ok (.value (.bool r)) w := by
    simp only [execOp, ho, ex, ey]
    simp only [Sem.run_bind, hg, Result.andThen_ok, h, Sem.run_pure]
  rw [this]
  exact hK _ w ⟨rfl, rfl⟩
theorem run_eqV (a b : Vx) (w : World) : (binOp .eql 50 (vv a) (vv b)).run Tryz.prog w = .ok (.bool (decide (a = b))) w := by
  have u3 := Tryz.underlying3
  have a3 := Tryz.isAgg3
  have z3 := Tryz.sizeOf3
  have u2 := Tryz.underlying2
  have a2 := Tryz.isAgg2
  have z2 := Tryz.sizeOf2
  have u4 := Tryz.underlying4
  have a4 := Tryz.isAgg4
  have z4 := Tryz.sizeOf4
  have hS : Tryz.prog.underlying 50 = some (.struct (Tryz.prog.fieldsOf 50)) := by kernel_rfl
  have hp : Tryz.prog.stoodInHeld 50 = false := by kernel_rfl
  rw [run_eql_struct, show (10000 : Nat) = 9999 + 1 from rfl, run_equalIn_agg w 9999 50 _ _ hS hp]
  simp only [Program.fieldsOf, Tryz.underlying50]
  go_simp
  obtain ⟨a1, a2, a3, a4, a5⟩ := a
  obtain ⟨b1, b2, b3, b4, b5⟩ := b
  by_cases h1 : a1 = b1 <;> by_cases h2 : a2 = b2 <;> by_cases h3 : a3 = b3 <;> by_cases h4 : a4 = b4 <;> by_cases h5 : a5 = b5 <;> simp [h1, h2, h3, h4, h5]
end
end Go.Proofs.YtapcpmalgdhakaaGreat
