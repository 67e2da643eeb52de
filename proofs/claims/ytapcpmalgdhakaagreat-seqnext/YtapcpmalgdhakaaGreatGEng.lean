/- More laws of operations: fields, rows of structs, strings. No condition. -/
import Derived.Test.YtapcpmalgdhakaaGreatEngK
import Derived.Test.YtapcpmalgdhakaaGreatGMath
import Derived.ArgAppend
import Derived.Laws.StructEq
namespace Go.Proofs.YtapcpmalgdhakaaGreat
open Go.RowKit
set_option maxRecDepth 100000

section
variable {P : Program} {ops : Array Oper} {L : List (Nat × Value)} {w : World} {n : Nat} {ty : TypeId} {N R : Act → World → Prop} {X : Nat → Act → World → Prop} {a : Act} {Q : Exit → Act → World → Prop}
theorem add_lit' (b o i : Nat) : (⟨b, o, none⟩ : Addr).add i = ⟨b, o + i, none⟩ := by unfold Addr.add; split <;> simp_all
def AppendedN (w : World) (base : Nat) (e : TypeId) (sz : Nat) (v : Value) (k : Nat) (xs : List Value) : Value → World → Prop := fun v' w' => w'.ownsRow base e sz v' k xs ∧ w.grownBy w' v.ownBlock ∧ v' ≠ .slice none 0 0
theorem runs_appendN {t e : TypeId} {s x : Operand} {i : TypeInfo} {z v : Value} {bytes base k m c sz : Nat} {xs news : List Value} {ad : Addr} (ht : P.underlying t = some (.slice e)) (hi : P.info? e = some i) (hz : i.zero = some z)
    (hsize : i.size = sz) (hby : i.bytes = bytes) (hzs : z.cells.size = sz) (hsz : 0 < sz) (hs : vals L s = some v) (hown : w.ownsRow base e sz v k xs) (hx : vals L x = some (.slice (some ad) m c)) (hl : news.length = m * sz) (hnews : ∀ j u, news[j]? = some u → w.cell? (ad.add j) = some u)
    (h1 : ∀ u ∈ news, u.oneCell' = true) (h63 : k + m ≤ maxLen) (hbytes : (k + m) * bytes ≤ 140737488355328) (hbase : base ≤ w.heap.size) (hm : 0 < m) :
    Runs P (.call { callee := .builtin .append, args := #[s, x], argTypes := #[t, t] }) ty L w (AppendedN w base e sz v (k + m) (xs ++ news)) := fun o a K Q ho _ hL hK => by
  refine wp_append_own w s x t ho base e i z sz bytes ht hi hz hsize hby hzs hsz v k xs (hL s (by simp [Op.operands, Call.operands]) v hs) hown ad m c news (hL x (by simp [Op.operands, Call.operands]) _ hx) hl hnews h1 h63 hbytes hbase ?_
  intro v' w' h2 h3 h4
  exact hK v' w' ⟨h2, h3, fun e => by have := (h4.1 e).2; omega⟩
theorem range_sub {w : World} {b o : Nat} {cs : List Value} (h : w.rangeAt b o cs) (k n : Nat) : w.rangeAt b (o + k) ((cs.drop k).take n) := fun j v hv => by
  rw [List.getElem?_take] at hv
  split at hv
  · rw [List.getElem?_drop] at hv
    rw [show o + k + j = o + (k + j) by omega]
    exact h (k + j) v hv
  · cases hv
/-- A 'for' over whole numbers. -/
theorem qx_range {b : Nat} {tst rest : Code} {c : Operand} (I : Nat → Act → World → Prop) (k : Nat) (h0 : I k a w)
    (round : ∀ m a w, I m a w → tst.wp P (Qx (fun a1 w1 => ∃ t, a1.eval c = .bool t ∧ (t = false → N a1 w1) ∧ (t = true → rest.wp P (Qx (fun a2 w2 => ∃ m', m' < m ∧ I m' a2 w2) (fun i a2 w2 => (i = b ∧ N a2 w2) ∨ (i ≠ b ∧ X i a2 w2)) R) a1 w1)) (fun _ _ _ => False) (fun _ _ => False)) a w) :
    (Code.block b (.loop (.seq tst (.seq (.cond c .skip (.exit b)) rest)))).wp P (Qx N X R) a w := by
  refine wp_block (wp_loop_ghost I k h0 fun m a w hI => ?_)
  refine wp_seq (wp_mono (round m a w hI) fun e a1 w1 hq => ?_)
  cases e with
  | normal =>
    refine wp_seq ?_
    obtain ⟨t, ht, hf, htr⟩ := hq
    cases t with
    | false => exact wp_cond_false ht (wp_exit (by simp only [Exit.then, Exit.inBlock, if_true]; exact hf rfl))
    | true =>
      refine wp_cond_true ht (wp_skip ?_)
      refine wp_mono (htr rfl) fun e a2 w2 hq => ?_
      cases e with
      | normal => exact hq
      | exit i =>
        rcases hq with ⟨rfl, hn⟩ | ⟨hne, hn⟩
        · simp only [Exit.then, Exit.inBlock, if_true]; exact hn
        · simp only [Exit.then, Exit.inBlock, hne, if_false]; exact hn
      | ret => exact hq
      | _ => exact hq.elim
  | _ => exact hq.elim
theorem owns_mono {w : World} {b b' : Nat} {e : TypeId} {s n : Nat} {v : Value} {xs : List Value} (h : w.ownsRow b e s v n xs) (hb : b' ≤ b) : w.ownsRow b' e s v n xs := by
  refine ⟨h.1, ?_⟩
  rcases h.2 with h | ⟨g, cap, cur, h1, h2, h3⟩
  · exact .inl h
  · exact .inr ⟨g, cap, cur, h1, by omega, h3⟩
theorem owns_kept {w w' : World} {b : Nat} {e : TypeId} {s n : Nat} {v : Value} {xs : List Value} (h : w.ownsRow b e s v n xs) (k : Below w.heap.size w w') : w'.ownsRow b e s v n xs := by
  refine ⟨h.1, ?_⟩
  rcases h.2 with h | ⟨g, cap, cur, h1, h2, h3, h4⟩
  · exact .inl h
  · exact .inr ⟨g, cap, cur, h1, h2, (k.block g (Array.getElem?_eq_some_iff.1 h3).1).trans h3, h4⟩
theorem ret3 {P : Program} {fn : Func} {n : Nat} {L : List (Nat × Value)} {a : Act} {w : World} {R : Ending → World → Prop} {t u r : Nat} {v v' v'' : Value} (hr : fn.results = #[.tmp t, .tmp u, .tmp r]) (hS : Sees n L a) (hv : look L t = some v) (hv' : look L u = some v') (hv'' : look L r = some v'') (hR : R (.returned (.tuple #[v, v', v''])) w) : Rets P fn R a w := by
  refine ⟨hS.2.1, _, ?_, hR⟩
  have h1 := hS.2.2 t v hv
  have h2 := hS.2.2 u v' hv'
  have h3 := hS.2.2 r v'' hv''
  rw [results_tmp3 hr, h1, h2, h3]
/-- Guarded by one that is not wanted itself. -/
theorem seq_skip2 {op : Op} {pos : String} {aft : Array Edge} {d j dj : Nat} {c : Bool} {rest : List Oper} (hS : Sees n L a) (hd : d < n) (ho : (ops[j]?).bind (·.dst) = some dj) (hdj : dj < n) (hv : look L dj = some undef)
    (h : ∀ a', Sees n ((d, undef) :: L) a' → wpList P ops Q rest a' w) : wpList P ops Q (⟨some d, op, ty, pos, aft, some (j, c)⟩ :: rest) a w := by
  have hy : yielded ops a.tmps j = none := by
    have hs := hS.2.2 dj undef hv
    have hsz : dj < a.tmps.size := by rw [hS.1]; exact hdj
    have h2 : a.tmps[dj]? = some undef := by
      rw [Array.getElem?_eq_getElem hsz]
      have : a.tmps[dj] = undef := by simpa [hsz] using hs
      rw [this]
    simp only [yielded, ho, Option.bind_some, h2, undef]
  unfold wpList
  rw [if_neg (by simp [Region.wanted, hy])]
  exact h _ (hS.put hd undef)
theorem runs_appendNil {t e : TypeId} {s x : Operand} {i : TypeInfo} {A : Option Addr} {c' : Nat} (ht : P.underlying t = some (.slice e)) (hi : P.info? e = some i) (hs : vals L s = some (.slice none 0 0)) (hx : vals L x = some (.slice A 0 c')) :
    Runs P (.call { callee := .builtin .append, args := #[s, x], argTypes := #[t, t] }) ty L w (Is (.slice none 0 0) w) := fun o a K Q ho _ hL hK => by
  have e1 := hL s (by simp [Op.operands, Call.operands]) _ hs
  have e2 := hL x (by simp [Op.operands, Call.operands]) _ hx
  unfold Oper.wp
  have : (execOp a.eval o).run P w = .ok (.value (.slice none 0 0)) w := by
    cases A <;> simp [execOp, ho, resolve, invoke, builtin, e1, e2, Builtin.append_, run_underlying ht, sizeOf, typeInfo, hi, Builtin.lenOf, Builtin.firstCells, loadCells, loadCellsFrom]
  rw [this]
  exact hK _ _ ⟨rfl, rfl⟩
/-- Nothing is appended. -/
theorem runs_appendNone {t e : TypeId} {s x : Operand} {i : TypeInfo} {b A : Option Addr} {l c c' : Nat} (ht : P.underlying t = some (.slice e)) (hi : P.info? e = some i) (hs : vals L s = some (.slice b l c)) (hlc : l ≤ c) (hb : b ≠ none) (hx : vals L x = some (.slice A 0 c')) :
    Runs P (.call { callee := .builtin .append, args := #[s, x], argTypes := #[t, t] }) ty L w (Is (.slice b l c) w) := fun o a K Q ho _ hL hK => by
  have e1 := hL s (by simp [Op.operands, Call.operands]) _ hs
  have e2 := hL x (by simp [Op.operands, Call.operands]) _ hx
  obtain ⟨b, rfl⟩ := Option.ne_none_iff_exists'.1 hb
  unfold Oper.wp
  have : (execOp a.eval o).run P w = .ok (.value (.slice (some b) l c)) w := by
    cases A <;> simp [execOp, ho, resolve, invoke, builtin, e1, e2, Builtin.append_, run_underlying ht, sizeOf, typeInfo, hi, Builtin.lenOf, hlc, Builtin.firstCells, loadCells, loadCellsFrom, storeCells]
  rw [this]
  exact hK _ _ ⟨rfl, rfl⟩
/-- x[l:], of whatever slice. -/
theorem runs_sliceFromG {t e : TypeId} {x lo : Operand} {A : Option Addr} {m c l sz : Nat} {i : Int} (hx : vals L x = some (.slice A m c)) (hlo : vals L lo = some (.int .i64 i)) (hi' : i = (l : Int)) (hu : P.underlying t = some (.slice e)) (hs : (P.info? e).map (·.size) = some sz) (hlm : l ≤ m) :
    Runs P (.slice t x (some lo) none none) ty L w (Is (.slice (if c = l then A else A.map (·.add (l * sz))) (m - l) (c - l)) w) := fun o a K Q ho _ hL hK => by
  have ex := hL x (by simp [Op.operands]) _ hx
  have el := hL lo (by simp [Op.operands]) _ hlo
  subst hi'
  obtain ⟨ie, hie⟩ : ∃ ie, P.info? e = some ie := by
    cases h : P.info? e with
    | none => rw [h] at hs; cases hs
    | some ie => exact ⟨ie, rfl⟩
  have hsz : ie.size = sz := by rw [hie] at hs; simpa using hs
  unfold Oper.wp
  have : (execOp a.eval o).run P w = .ok (.value (.slice (if c = l then A else A.map (·.add (l * sz))) (m - l) (c - l))) w := by
    simp [execOp, ho, ex, el, Instr.sliceAt, run_underlying hu, Instr.slice, Instr.sliceBounds, Instr.sliceBound, asIntOf, hlm, sizeOf, typeInfo, hie, hsz]
  rw [this]
  exact hK _ _ ⟨rfl, rfl⟩
/-- x[:k], of whatever slice. -/
theorem runs_sliceToG {t e : TypeId} {x hi : Operand} {A : Option Addr} {m c k : Nat} {i : Int} (hx : vals L x = some (.slice A m c)) (hhi : vals L hi = some (.int .i64 i)) (hi' : i = (k : Int)) (hu : P.underlying t = some (.slice e)) (hs : (P.info? e).isSome = true) (hkc : k ≤ c) :
    Runs P (.slice t x none (some hi) none) ty L w (Is (.slice A k c) w) := fun o a K Q ho _ hL hK => by
  have ex := hL x (by simp [Op.operands]) _ hx
  have eh := hL hi (by simp [Op.operands]) _ hhi
  subst hi'
  obtain ⟨ie, hie⟩ := Option.isSome_iff_exists.1 hs
  have hadd : A.map (fun a : Addr => a.add 0) = A := by
    cases A with
    | none => rfl
    | some a => obtain ⟨b, o, s⟩ := a; cases s <;> rfl
  unfold Oper.wp
  have : (execOp a.eval o).run P w = .ok (.value (.slice A k c)) w := by
    simp [execOp, ho, ex, eh, Instr.sliceAt, run_underlying hu, Instr.slice, Instr.sliceBounds, Instr.sliceBound, asIntOf, hkc, sizeOf, typeInfo, hie, hadd]
  rw [this]
  exact hK _ _ ⟨rfl, rfl⟩
theorem runs_nilCheck {x : Operand} {ad : Addr} (hx : vals L x = some (.pointer (some ad))) : Runs P (.nilCheck x) ty L w (Is (.pointer (some ad)) w) := fun o a K Q ho _ hL hK => by
  have ex := hL x (by simp [Op.operands]) _ hx
  unfold Oper.wp
  have : (execOp a.eval o).run P w = .ok (.value (.pointer (some ad))) w := by
    simp [execOp, ho, ex]
  rw [this]
  exact hK _ w ⟨rfl, rfl⟩
/-- Elements of sz cells. -/
theorem runs_indexAddrG {t e : TypeId} {x y : Operand} {g o' m c sz : Nat} {k : IntKind} {i : Int} {j : Nat} (hx : vals L x = some (.slice (some ⟨g, o', none⟩) m c)) (hy : vals L y = some (.int k i)) (hu : P.underlying t = some (.slice e))
    (hs : (P.info? e).map (·.size) = some sz) (hj : i = (j : Int)) (hl : j < m) : Runs P (.indexAddr t x y) ty L w (Is (.pointer (some ⟨g, o' + j * sz, none⟩)) w) := fun o a K Q ho _ hL hK => by
  have ex := hL x (by simp [Op.operands]) _ hx
  have ey := hL y (by simp [Op.operands]) _ hy
  subst hj
  obtain ⟨ie, hie⟩ : ∃ ie, P.info? e = some ie := by
    cases h : P.info? e with
    | none => rw [h] at hs; cases hs
    | some ie => exact ⟨ie, rfl⟩
  have hsz : ie.size = sz := by rw [hie] at hs; simpa using hs
  unfold Oper.wp
  have : (execOp a.eval o).run P w = .ok (.value (.pointer (some ⟨g, o' + j * sz, none⟩))) w := by
    simp only [execOp, ho, ex, ey]
    simp [Instr.indexAt, asIntOf, run_underlying hu, sizeOf, typeInfo, hie, hsz, hl, add_lit']
  rw [this]
  exact hK _ w ⟨rfl, rfl⟩
theorem runs_indexArrG {t e : TypeId} {x y : Operand} {g o' m sz : Nat} {k : IntKind} {i : Int} {j : Nat} (hx : vals L x = some (.pointer (some ⟨g, o', none⟩))) (hy : vals L y = some (.int k i)) (hu : P.underlying t = some (.array m e))
    (hs : (P.info? e).map (·.size) = some sz) (hj : i = (j : Int)) (hl : j < m) : Runs P (.indexAddr t x y) ty L w (Is (.pointer (some ⟨g, o' + j * sz, none⟩)) w) := fun o a K Q ho _ hL hK => by
  have ex := hL x (by simp [Op.operands]) _ hx
  have ey := hL y (by simp [Op.operands]) _ hy
  subst hj
  obtain ⟨ie, hie⟩ : ∃ ie, P.info? e = some ie := by
    cases h : P.info? e with
    | none => rw [h] at hs; cases hs
    | some ie => exact ⟨ie, rfl⟩
  have hsz : ie.size = sz := by rw [hie] at hs; simpa using hs
  unfold Oper.wp
  have : (execOp a.eval o).run P w = .ok (.value (.pointer (some ⟨g, o' + j * sz, none⟩))) w := by
    simp only [execOp, ho, ex, ey]
    simp [Instr.indexAt, Instr.sureAddr, asIntOf, run_underlying hu, sizeOf, typeInfo, hie, hsz, hl, add_lit']
  rw [this]
  exact hK _ w ⟨rfl, rfl⟩
theorem runs_buildSliceG {t e : TypeId} {len sz : Nat} {parts : Array (Nat × Operand)} {pv : List (Nat × Value)} {cells : Array Value} {ie : TypeInfo} {z : Value} (hx : parts.toList.map (fun p => (vals L p.2).map (fun v => (p.1, v))) = pv.map some)
    (hu : P.underlying t = some (.slice e)) (hie : P.info? e = some ie) (hz : ie.zero = some z) (hsz : ie.size = sz) (hsmall : len * sz ≤ 2 ^ 24) (hpos : 0 < len * sz)
    (hf : Instr.fill (fun i => some (i * sz, sz)) ((Array.range (len * sz)).map (z.cells[· % z.cells.size]!)) pv = some cells) : Runs P (.buildSlice t len parts) ty L w (Built w e len cells) := fun o a K Q ho _ hL hK => by
  refine wp_buildSlice t e len parts ho cells ie z hu hie hz (by rw [hsz]; omega) (by rw [hsz]; omega) ?_ (hK _ _ ⟨rfl, rfl⟩)
  rw [hsz, Array.toList_map, show (List.map (fun x : Nat × Operand => match x with | (i, x) => (i, a.eval x)) parts.toList) = parts.toList.map (fun p => (p.1, a.eval p.2)) from rfl, map_eval parts.toList pv (fun p hp v hv => hL p.2 ?_ v hv) hx]
  · exact hf
  · simp only [Op.operands, List.mem_toArray, List.mem_map]; exact ⟨p, hp, rfl⟩
end
section
variable {L : List (Nat × Value)} {w : World} {ty : TypeId}
theorem und22 : Tryz.prog.underlying 22 = some (.slice 48) := by kernel_rfl
theorem und60 : Tryz.prog.underlying 111 = some (.slice 3) := by kernel_rfl
theorem und9 : Tryz.prog.underlying 9 = some .string := by kernel_rfl
theorem und4 : Tryz.prog.underlying 4 = some .bool := by kernel_rfl
theorem und3 : Tryz.prog.underlying 3 = some (.int .i64) := by kernel_rfl
theorem inf45 : (Tryz.prog.info? 48).map (fun i => (i.zero, i.size, i.bytes)) = some (some (.agg #[.int .i64 0, .int .i64 0, .int .i64 0]), 3, 24) := by kernel_rfl
theorem inf24 : (Tryz.prog.info? 24).map (fun i => (i.zero, i.size, i.bytes)) = some (some (.agg #[.int .i64 0, .slice none 0 0]), 2, 32) := by kernel_rfl
theorem inf3 : (Tryz.prog.info? 3).map (fun i => (i.zero, i.size, i.bytes)) = some (some (.int .i64 0), 1, 8) := by kernel_rfl
theorem siz45 : (Tryz.prog.info? 48).map (·.size) = some 3 := by kernel_rfl
theorem siz24 : (Tryz.prog.info? 24).map (·.size) = some 2 := by kernel_rfl
theorem siz3 : (Tryz.prog.info? 3).map (·.size) = some 1 := by kernel_rfl
theorem siz2 : (Tryz.prog.info? 2).map (·.size) = some 1 := by kernel_rfl
theorem siz22 : (Tryz.prog.info? 22).map (·.size) = some 1 := by kernel_rfl
theorem siz4 : (Tryz.prog.info? 4).map (·.size) = some 1 := by kernel_rfl
theorem mixed : Tryz.prog.follows .mixedOrders = true := by kernel_rfl
/-- The field's place. -/
theorem fld24 (j : Nat) (hj : j < 2) (g o : Nat) (w : World) : (Instr.fieldAt 24 (.pointer (some ⟨g, o, none⟩)) j).run Tryz.prog w = .ok (.pointer (some ⟨g, o + j, none⟩)) w := by
  match j, hj with
  | 0, _ => simp [Instr.fieldAt, run_underlying Tryz.underlying24, Instr.sureAddr, fieldPlace, Tryz.sizeOf3, add_lit']
  | 1, _ => simp [Instr.fieldAt, run_underlying Tryz.underlying24, Instr.sureAddr, fieldPlace, Tryz.sizeOf22, add_lit']
theorem fld45 (j : Nat) (hj : j < 3) (g o : Nat) (w : World) : (Instr.fieldAt 48 (.pointer (some ⟨g, o, none⟩)) j).run Tryz.prog w = .ok (.pointer (some ⟨g, o + j, none⟩)) w := by
  match j, hj with
  | 0, _ => simp [Instr.fieldAt, run_underlying Tryz.underlying48, Instr.sureAddr, fieldPlace, Tryz.sizeOf3, add_lit']
  | 1, _ => simp [Instr.fieldAt, run_underlying Tryz.underlying48, Instr.sureAddr, fieldPlace, Tryz.sizeOf3, add_lit']
  | 2, _ => simp [Instr.fieldAt, run_underlying Tryz.underlying48, Instr.sureAddr, fieldPlace, Tryz.sizeOf2, add_lit']
theorem runs_fieldOf {t : TypeId} {x : Operand} {g o' j : Nat} (h : ∀ w, (Instr.fieldAt t (.pointer (some ⟨g, o', none⟩)) j).run Tryz.prog w = .ok (.pointer (some ⟨g, o' + j, none⟩)) w) (hx : vals L x = some (.pointer (some ⟨g, o', none⟩))) :
    Runs Tryz.prog (.fieldAddr t x j) ty L w (Is (.pointer (some ⟨g, o' + j, none⟩)) w) := fun o a K Q ho _ hL hK => by
  have ex := hL x (by simp [Op.operands]) _ hx
  unfold Oper.wp
  have : (execOp a.eval o).run Tryz.prog w = .ok (.value (.pointer (some ⟨g, o' + j, none⟩))) w := by
    simp only [execOp, ho, ex]
    simp only [Sem.run_bind, h, Result.andThen_ok, Sem.run_pure]
  rw [this]
  exact hK _ w ⟨rfl, rfl⟩
theorem runs_f24 {x : Operand} {g o' j : Nat} (hj : j < 2) (hx : vals L x = some (.pointer (some ⟨g, o', none⟩))) : Runs Tryz.prog (.fieldAddr 24 x j) ty L w (Is (.pointer (some ⟨g, o' + j, none⟩)) w) := runs_fieldOf (fun w => fld24 j hj g o' w) hx
theorem runs_f45 {x : Operand} {g o' j : Nat} (hj : j < 3) (hx : vals L x = some (.pointer (some ⟨g, o', none⟩))) : Runs Tryz.prog (.fieldAddr 48 x j) ty L w (Is (.pointer (some ⟨g, o' + j, none⟩)) w) := runs_fieldOf (fun w => fld45 j hj g o' w) hx
theorem runs_build24 {x y : Operand} {n : Int} {A : Option Addr} {m c : Nat} (hx : vals L x = some (.int .i64 n)) (hy : vals L y = some (.slice A m c)) : Runs Tryz.prog (.build 24 #[(0, x), (1, y)]) ty L w (Is (.agg #[.int .i64 n, .slice A m c]) w) := fun o act K Q ho _ hL hK => by
  have ex := hL x (by simp [Op.operands]) _ hx
  have ey := hL y (by simp [Op.operands]) _ hy
  unfold Oper.wp
  have : (execOp act.eval o).run Tryz.prog w = .ok (.value (.agg #[.int .i64 n, .slice A m c])) w := by
    simp only [execOp, ho, List.map_toArray, List.map_cons, List.map_nil, ex, ey]
    simp [Instr.build, Tryz.zeroValue24, run_underlying Tryz.underlying24, Tryz.sizeOf3, Tryz.sizeOf22, Instr.fill, Value.cells]
  rw [this]
  exact hK _ _ ⟨rfl, rfl⟩
theorem runs_build24o {x : Operand} {n : Int} (hx : vals L x = some (.int .i64 n)) : Runs Tryz.prog (.build 24 #[(0, x)]) ty L w (Is (.agg #[.int .i64 n, .slice none 0 0]) w) := fun o act K Q ho _ hL hK => by
  have ex := hL x (by simp [Op.operands]) _ hx
  unfold Oper.wp
  have : (execOp act.eval o).run Tryz.prog w = .ok (.value (.agg #[.int .i64 n, .slice none 0 0])) w := by
    simp only [execOp, ho, List.map_toArray, List.map_cons, List.map_nil, ex]
    simp [Instr.build, Tryz.zeroValue24, run_underlying Tryz.underlying24, Tryz.sizeOf3, Tryz.sizeOf22, Instr.fill, Value.cells]
  rw [this]
  exact hK _ _ ⟨rfl, rfl⟩
end
end Go.Proofs.YtapcpmalgdhakaaGreat
