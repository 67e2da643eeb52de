/- More laws for walking by facts on slots: guards, picks, boxes, rows of an array's cells, functions as values, results. No condition. -/
import Derived.Test.YtlldcicnakdjmaaDoorEngS
namespace Go.Proofs.YtlldcicnakdjmaaDoor
open Go.RowKit

section
variable {P : Program} {ops : Array Oper} {L : List (Nat × Value)} {w : World} {n : Nat} {ty : TypeId} {N R : Act → World → Prop} {X : Nat → Act → World → Prop} {a : Act} {Q : Exit → Act → World → Prop}
theorem qx_exit {i : Nat} (h : X i a w) : (Code.exit i).wp P (Qx N X R) a w := wp_exit h
theorem qx_ret (h : R a w) : Code.ret.wp P (Qx N X R) a w := wp_ret h
theorem yielded_of {j d : Nat} {b : Bool} (ho : (ops[j]?).bind (·.dst) = some d) (hS : Sees n L a) (hd : d < n) (hv : look L d = some (.bool b)) : yielded ops a.tmps j = some b := by
  have h := hS.2.2 d _ hv
  have hd' : d < a.tmps.size := by rw [hS.1]; exact hd
  have h2 : a.tmps[d]? = some (.bool b) := by
    rw [Array.getElem?_eq_getElem hd']
    have : a.tmps[d] = .bool b := by simpa [hd'] using h
    rw [this]
  simp only [yielded, ho, Option.bind_some, h2]
/-- A guarded operation that is wanted. -/
theorem seq_yes {op : Op} {pos : String} {aft : Array Edge} {d j dj : Nat} {b : Bool} {rest : List Oper} {Post : Value → World → Prop} (hS : Sees n L a) (hd : d < n) (ho : (ops[j]?).bind (·.dst) = some dj) (hdj : dj < n) (hv : look L dj = some (.bool b)) (hr : Runs P op ty L w Post)
    (h : ∀ v w' a', Post v w' → Sees n ((d, v) :: L) a' → wpList P ops Q rest a' w') : wpList P ops Q (⟨some d, op, ty, pos, aft, some (j, b)⟩ :: rest) a w := by
  unfold wpList
  rw [if_pos (by simp [Region.wanted, yielded_of ho hS hdj hv])]
  exact .inl (hr _ a _ Q rfl rfl (fun _ _ _ hv => hS.eval hv) fun v w' hp => h v w' _ hp (hS.put hd v))
theorem seq_yis {op : Op} {pos : String} {aft : Array Edge} {d j dj : Nat} {b : Bool} {rest : List Oper} {v : Value} {w' : World} (hS : Sees n L a) (hd : d < n) (ho : (ops[j]?).bind (·.dst) = some dj) (hdj : dj < n) (hv : look L dj = some (.bool b)) (hr : Runs P op ty L w (Is v w'))
    (h : ∀ a', Sees n ((d, v) :: L) a' → wpList P ops Q rest a' w') : wpList P ops Q (⟨some d, op, ty, pos, aft, some (j, b)⟩ :: rest) a w :=
  seq_yes hS hd ho hdj hv hr fun v' w1 a' hp hS' => by obtain ⟨rfl, rfl⟩ := hp; exact h a' hS'
/-- A guarded operation that is not wanted. -/
theorem seq_no {op : Op} {pos : String} {aft : Array Edge} {d j dj : Nat} {b c : Bool} {rest : List Oper} (hS : Sees n L a) (hd : d < n) (ho : (ops[j]?).bind (·.dst) = some dj) (hdj : dj < n) (hv : look L dj = some (.bool c)) (hne : (c == b) = false)
    (h : ∀ a', Sees n ((d, undef) :: L) a' → wpList P ops Q rest a' w) : wpList P ops Q (⟨some d, op, ty, pos, aft, some (j, b)⟩ :: rest) a w := by
  unfold wpList
  rw [if_neg (by
    have hy := yielded_of ho hS hdj hv
    simp only [Region.wanted, hy]
    cases c <;> cases b <;> simp at hne ⊢)]
  exact h _ (hS.put hd undef)
theorem runs_not {t : TypeId} {x : Operand} {b : Bool} (hx : vals L x = some (.bool b)) : Runs P (.unOp .not t x) ty L w (Is (.bool !b) w) := fun o a K Q ho _ hL hK => by
  have ex := hL x (by simp [Op.operands]) _ hx
  unfold Oper.wp
  simp [execOp, ho, ex, Op.unary]
  exact hK _ _ ⟨rfl, rfl⟩
theorem runs_pick {c x y : Operand} {b : Bool} {v : Value} (hc : vals L c = some (.bool b)) (hv : vals L (if b then x else y) = some v) : Runs P (.pick c x y) ty L w (Is v w) := fun o a K Q ho _ hL hK => by
  have ec := hL c (by simp [Op.operands]) _ hc
  have ev : a.eval (if b then x else y) = v := hL _ (by cases b <;> simp [Op.operands]) _ hv
  unfold Oper.wp
  simp only [execOp, ho, ec, asBool]
  cases b <;> simp_all <;> exact hK _ _ ⟨rfl, rfl⟩
theorem runs_extract {x : Operand} {vs : Array Value} {i : Nat} {v : Value} (hx : vals L x = some (.tuple vs)) (hv : vs[i]? = some v) : Runs P (.extract x i) ty L w (Is v w) := fun o a K Q ho _ hL hK => by
  have ex := hL x (by simp [Op.operands]) _ hx
  unfold Oper.wp
  simp [execOp, ho, ex, Instr.extract, hv]
  exact hK _ _ ⟨rfl, rfl⟩
def Boxed (w : World) (t : TypeId) (cs : Array Value) : Value → World → Prop := fun v w' => v = .pointer (some ⟨w.heap.size, 0, none⟩) ∧ w' = w.alloc (.cells cs t)
theorem runs_box {t : TypeId} {x : Operand} {v : Value} (hx : vals L x = some v) : Runs P (.box t x) ty L w (Boxed w t v.cells) := fun o a K Q ho _ hL hK => by
  have ex := hL x (by simp [Op.operands]) _ hx
  unfold Oper.wp
  simp [execOp, ho, ex, Instr.box, newVar, newRow]
  exact hK _ _ ⟨rfl, rfl⟩
theorem runs_alloc {t : TypeId} {ie : TypeInfo} {z : Value} (hi : P.info? t = some ie) (hz : ie.zero = some z) : Runs P (.alloc t) ty L w (Boxed w t z.cells) := fun o a K Q ho _ _ hK => by
  unfold Oper.wp
  simp [execOp, ho, Instr.alloc, zeroValue, typeInfo, hi, hz, newVar, newRow]
  exact hK _ _ ⟨rfl, rfl⟩
/-- All cells of a block, as one value. -/
theorem runs_loadRow {t te : TypeId} {x : Operand} {g : Nat} {cs : List Value} {d : TypeDesc} (hx : vals L x = some (.pointer (some ⟨g, 0, none⟩))) (hg : Has w g te cs) (hu : P.underlying t = some d) (hd : (match d with | .struct _ | .array _ _ => true | _ => false) = true) (hi : (P.info? t).map (·.size) = some cs.length) :
    Runs P (.load t x) ty L w (Is (.agg cs.toArray) w) := fun o a K Q ho _ hL hK => by
  have ex := hL x (by simp [Op.operands]) _ hx
  unfold Oper.wp
  have : (execOp a.eval o).run P w = .ok (.value (.agg cs.toArray)) w := by
    have := run_loadVar_row (P := P) w g te t cs.toArray (0, 0) d hg hu hd (by simpa using hi)
    simp [execOp, ho, ex, Instr.loadAt, Instr.sureAddr, this]
  rw [this]
  exact hK _ _ ⟨rfl, rfl⟩
/-- Some cells in the midst of a block, as one value. -/
theorem runs_loadMid {t : TypeId} {x : Operand} {g o' : Nat} {cs : List Value} {d : TypeDesc} (hx : vals L x = some (.pointer (some ⟨g, o', none⟩))) (hg : w.rangeAt g o' cs) (hu : P.underlying t = some d) (hd : d.isRow = true) (hi : (P.info? t).map (·.size) = some cs.length) :
    Runs P (.load t x) ty L w (Is (.agg cs.toArray) w) := fun o a K Q ho _ hL hK => by
  have ex := hL x (by simp [Op.operands]) _ hx
  unfold Oper.wp
  have : (execOp a.eval o).run P w = .ok (.value (.agg cs.toArray)) w := by
    have := run_loadVar_mid (P := P) w g o' t cs d hg hu hd hi
    simp [execOp, ho, ex, Instr.loadAt, Instr.sureAddr, this]
  rw [this]
  exact hK _ _ ⟨rfl, rfl⟩
theorem runs_storeRow {t te : TypeId} {x y : Operand} {g : Nat} {old : List Value} {cs : Array Value} (hx : vals L x = some (.pointer (some ⟨g, 0, none⟩))) (hy : vals L y = some (.agg cs)) (hg : Has w g te old) (hl : old.length = cs.size) (hone : cs.all (·.oneCell') = true) (hi : (P.info? t).map (·.size) = some cs.size) :
    Runs P (.store t x y) ty L w (Is undef (w.setRow g cs)) := fun o a K Q ho _ hL hK => by
  have ex := hL x (by simp [Op.operands]) _ hx
  have ey := hL y (by simp [Op.operands]) _ hy
  unfold Oper.wp
  have : (execOp a.eval o).run P w = .ok .skip (w.setRow g cs) := by
    have := run_storeVar_row (P := P) w g te t old.toArray cs hg hi (by simpa using hl) hone
    simp [execOp, ho, ex, ey, Instr.storeAt, Instr.sureAddr, this]
  rw [this]
  exact hK _ _ ⟨rfl, rfl⟩
theorem has_setRow {g : Nat} {t : TypeId} {old : List Value} {cs : List Value} (h : Has w g t old) : Has (w.setRow g cs.toArray) g t cs := setRow_heap w g _ cs.toArray t _ h
/-- An array's cells as a slice. -/
theorem runs_sliceArr {t e : TypeId} {x : Operand} {g m : Nat} (hx : vals L x = some (.pointer (some ⟨g, 0, none⟩))) (hu : P.underlying t = some (.array m e)) (hs : (P.info? e).map (·.size) = some 1) :
    Runs P (.slice t x none none none) ty L w (Is (.slice (some ⟨g, 0, none⟩) m m) w) := fun o a K Q ho _ hL hK => by
  have ex := hL x (by simp [Op.operands]) _ hx
  obtain ⟨ie, hie⟩ : ∃ ie, P.info? e = some ie := by
    cases h : P.info? e with
    | none => rw [h] at hs; cases hs
    | some ie => exact ⟨ie, rfl⟩
  unfold Oper.wp
  have : (execOp a.eval o).run P w = .ok (.value (.slice (some ⟨g, 0, none⟩) m m)) w := by
    simp [execOp, ho, ex, Instr.sliceAt, run_underlying hu, Instr.sureAddr, Instr.sliceBounds, sizeOf, typeInfo, hie]
    by_cases h0 : m = 0 <;> simp [Addr.add]
  rw [this]
  exact hK _ _ ⟨rfl, rfl⟩
theorem runs_makeFunc {f : FuncId} {xs : Array Operand} {cs : List Value} (hx : xs.toList.map (vals L) = cs.map some) : Runs P (.makeFunc (.func f) #[] xs) ty L w (Is (.func (.func f) #[] cs.toArray) w) := fun o a K Q ho _ hL hK => by
  have ea : xs.map a.eval = cs.toArray := by
    apply Array.toList_inj.1
    rw [Array.toList_map]
    have : ∀ (ys : List Operand) (us : List Value), (∀ X ∈ ys, X ∈ xs) → ys.map (vals L) = us.map some → ys.map a.eval = us := by
      intro ys
      induction ys with
      | nil => intro us _ h; cases us with | nil => rfl | cons _ _ => simp at h
      | cons y ys ih =>
        intro us hm h
        cases us with
        | nil => simp at h
        | cons v us =>
          simp only [List.map_cons, List.cons.injEq] at h ⊢
          exact ⟨hL y (by simp only [Op.operands, Array.mem_append]; right; exact hm y (by simp)) v h.1, ih us (fun X hX => hm X (by simp [hX])) h.2⟩
    exact this xs.toList cs (fun X hX => by simpa using hX) hx
  unfold Oper.wp
  simp [execOp, ho, Instr.makeFunc, ea]
  exact hK _ _ ⟨rfl, rfl⟩
/-- A call of a function value. -/
theorem runs_callv {f : FuncId} {F : Operand} {xs : Array Operand} {ts : Array TypeId} {args caps : List Value} {Post : Value → World → Prop} (hg : Goes P f) (hF : vals L F = some (.func (.func f) #[] caps.toArray)) (hx : xs.toList.map (vals L) = args.map some)
    (hc : Calls P f (args ++ caps).toArray w fun e w' => ∃ v, e = .returned v ∧ Post v w') : Runs P (.call { callee := .value F, args := xs, argTypes := ts }) ty L w Post := fun o a K Q ho _ hL hK => by
  have ea : xs.map a.eval = args.toArray := by
    apply Array.toList_inj.1
    rw [Array.toList_map]
    have : ∀ (ys : List Operand) (us : List Value), (∀ X ∈ ys, X ∈ xs) → ys.map (vals L) = us.map some → ys.map a.eval = us := by
      intro ys
      induction ys with
      | nil => intro us _ h; cases us with | nil => rfl | cons _ _ => simp at h
      | cons y ys ih =>
        intro us hm h
        cases us with
        | nil => simp at h
        | cons v us =>
          simp only [List.map_cons, List.cons.injEq] at h ⊢
          exact ⟨hL y (by simp only [Op.operands, Call.operands, Array.mem_append]; right; exact hm y (by simp)) v h.1, ih us (fun X hX => hm X (by simp [hX])) h.2⟩
    exact this xs.toList args (fun X hX => by simpa using hX) hx
  have eF := hL F (by simp [Op.operands, Call.operands]) _ hF
  unfold Oper.wp
  have : (execOp a.eval o).run P w = .ok (.enter f (args ++ caps).toArray) w := by
    simp only [execOp, ho]
    simp [resolve, Deferred.ofValue, invoke, eF, ea]
    exact hg _ _
  rw [this]
  refine hc.mono ?_
  rintro e w' ⟨v, rfl, hp⟩
  exact hK v w' hp
end
/-! ### the whole of a function -/
def argL : Nat → List Value → List (Nat × Value)
  | _, [] => []
  | i, v :: vs => (i, v) :: argL (i + 1) vs
theorem argL_look : ∀ (vs : List Value) (i k : Nat) (v : Value), look (argL i vs) k = some v → i ≤ k ∧ vs[k - i]? = some v
  | [], _, _, _, h => by cases h
  | u :: vs, i, k, v, h => by
    rw [argL, look_cons] at h
    by_cases hik : i = k
    · subst hik
      rw [if_pos rfl] at h
      exact ⟨Nat.le_refl _, by simpa using h⟩
    · rw [if_neg hik] at h
      obtain ⟨h1, h2⟩ := argL_look vs (i + 1) k v h
      refine ⟨by omega, ?_⟩
      rw [show k - i = (k - (i + 1)) + 1 by omega]
      simpa using h2
/-- What a body must come to. -/
def Rets (P : Program) (fn : Func) (R : Ending → World → Prop) (a : Act) (w : World) : Prop := a.defers = [] ∧ ∃ v, (results fn a.tmps).run P w = .ok v w ∧ R (.returned v) w
theorem calls_qx {P : Program} {f : FuncId} {fn : Func} {c : Code} {args : List Value} {w : World} {R : Ending → World → Prop} (n : Nat) (hf : P.funcs[f]? = some fn) (hb : fn.body = some c) (hn : fn.ntmps = n) (hsz : args.length ≤ n)
    (h : ∀ a, Sees n (argL 0 args) a → c.wp P (Qx (Rets P fn R) (fun _ _ _ => False) (Rets P fn R)) a w) : Calls P f args.toArray w R := by
  refine calls_of_wp hf hb (wp_mono (h _ ⟨by simp [hn]; omega, rfl, fun k v hk => ?_⟩) fun e a w hq => ?_)
  · obtain ⟨_, h2⟩ := argL_look args 0 k v hk
    rw [Nat.sub_zero] at h2
    have hk2 := (List.getElem?_eq_some_iff.1 h2).1
    simp [Array.getElem?_append, hk2]
    have := (List.getElem?_eq_some_iff.1 h2).2
    rw [this]
  · cases e <;> first | exact hq | exact hq.elim
section
variable {P : Program} {fn : Func} {R : Ending → World → Prop} {n : Nat} {L : List (Nat × Value)} {a : Act} {w : World}
theorem ret1 {t : Nat} {v : Value} (hr : fn.results = #[.tmp t]) (hS : Sees n L a) (hv : look L t = some v) (hR : R (.returned v) w) : Rets P fn R a w := by
  refine ⟨hS.2.1, v, ?_, hR⟩
  have := hS.2.2 t v hv
  simp [results, hr]
  simpa using this
theorem ret0 (hr : fn.results = #[]) (hS : Sees n L a) (hR : R (.returned (.tuple #[])) w) : Rets P fn R a w := ⟨hS.2.1, _, by simp [results, hr], hR⟩
theorem ret2 {t u : Nat} {v v' : Value} (hr : fn.results = #[.tmp t, .tmp u]) (hS : Sees n L a) (hv : look L t = some v) (hv' : look L u = some v') (hR : R (.returned (.tuple #[v, v'])) w) : Rets P fn R a w := by
  refine ⟨hS.2.1, _, ?_, hR⟩
  have h1 := hS.2.2 t v hv
  have h2 := hS.2.2 u v' hv'
  rw [results_tmp2 hr, h1, h2]
theorem retRow {t te ty : TypeId} {p g : Nat} {cs : List Value} {d : TypeDesc} (hr : fn.results = #[.cell p ty]) (hS : Sees n L a) (hp : look L p = some (.pointer (some ⟨g, 0, none⟩))) (hg : Has w g te cs) (_ht : t = t) (hu : P.underlying ty = some d) (hd : (match d with | .struct _ | .array _ _ => true | _ => false) = true) (hi : (P.info? ty).map (·.size) = some cs.length)
    (hR : R (.returned (.agg cs.toArray)) w) : Rets P fn R a w :=
  ⟨hS.2.1, _, results_cell_row hr a.tmps w g te cs.toArray (0, 0) d (hS.2.2 p _ hp) hg hu hd (by simpa using hi), hR⟩
end
end Go.Proofs.YtlldcicnakdjmaaDoor
