/- Words on a region that draws its order: what must have come up ahead of what. No condition. -/
import Derived.Test.YtooeahpkhocaeaaDoorRows
import Derived.Test.YtooeahpkhocaeaaDoorJ00
import Derived.OrdersHeld
import Derived.Deep.LoopGhost
import Derived.IntWalk
import Derived.Great.BuildSlice
namespace Go.Proofs.YtooeahpkhocaeaaDoor
open Go.RowKit

section
variable {P : Program} {md : Region.Mode} {ops : Array Oper}
/-- All that i waits for, and what that waits for, is marked. -/
def marks (md : Region.Mode) (ops : Array Oper) : Nat → (Nat → Bool) → (Nat → Bool)
  | 0, L => L
  | i + 1, L => marks md ops i (if L i then fun j => L j || (match ops[i]? with | some o => o.after.any (fun e => Region.binds md e && e.on == j) | none => false) else L)
/-- What is listed is listed with all that it waits for. -/
def Closed (md : Region.Mode) (ops : Array Oper) (L : Nat → Bool) : Prop := ∀ i o, ops[i]? = some o → L i = true → ∀ e ∈ o.after, Region.binds md e = true → L e.on = true
theorem marks_sub {L : Nat → Bool} (hL : Closed md ops L) : ∀ (n : Nat) (M : Nat → Bool), (∀ j, M j = true → L j = true) → ∀ j, marks md ops n M j = true → L j = true
  | 0, M, h, j, hj => h j hj
  | n + 1, M, h, j, hj => by
    refine marks_sub hL n _ (fun k hk => ?_) j hj
    by_cases hM : M n = true
    · rw [if_pos hM] at hk
      simp only [Bool.or_eq_true] at hk
      rcases hk with hk | hk
      · exact h k hk
      · cases ho : ops[n]? with
        | none => rw [ho] at hk; simp at hk
        | some o =>
          rw [ho] at hk
          simp only [Array.any_eq_true] at hk
          obtain ⟨i, hi, he⟩ := hk
          simp only [Bool.and_eq_true, beq_iff_eq] at he
          have := hL n o ho (h n hM) o.after[i] (Array.getElem_mem hi) he.1
          rwa [he.2] at this
    · rw [if_neg hM] at hk
      exact h k hk
theorem getD_true {l : Array Bool} {j : Nat} (h : l.getD j false = true) : l.getD j true = true := by
  by_cases hj : j < l.size
  · simpa [hj] using h
  · simp [hj] at h
theorem countP_one (p q : Nat → Bool) (i : Nat) (hp : p i = true) (hq : q i = false) (hne : ∀ j, i ≠ j → q j = p j) : ∀ n, (List.range n).countP q + (if i < n then 1 else 0) = (List.range n).countP p
  | 0 => by simp
  | n + 1 => by
    have ih := countP_one p q i hp hq hne n
    rw [List.range_succ, List.countP_append, List.countP_append, List.countP_singleton, List.countP_singleton]
    by_cases hin : i = n
    · subst hin
      rw [if_neg (by omega)] at ih
      simp only [hp, hq, show i < i + 1 by omega, if_true]
      simp
      simpa using ih
    · rw [hne n hin]
      by_cases hl : i < n
      · rw [if_pos hl] at ih
        rw [if_pos (show i < n + 1 by omega)]
        omega
      · rw [if_neg hl] at ih
        rw [if_neg (show ¬ i < n + 1 by omega)]
        omega
theorem countP_set (m : Nat) (listed : Array Bool) (i : Nat) (hi : i < m) (h0 : listed.getD i true = false) (hget : ∀ (j : Nat) (b : Bool), (listed.setIfInBounds i true).getD j b = if i = j then true else listed.getD j b) :
    (List.range m).countP (fun j => !(listed.setIfInBounds i true).getD j true) + 1 = (List.range m).countP (fun j => !listed.getD j true) := by
  have := countP_one (fun j => !listed.getD j true) (fun j => !(listed.setIfInBounds i true).getD j true) i (by simp only [h0]; rfl) (by simp only [hget, if_true]; rfl) (fun j hj => by simp only [hget, if_neg hj]) m
  rwa [if_pos hi] at this
theorem arr_extB {x y : Array Bool} (hs : x.size = y.size) (h : ∀ d, d < x.size → x.getD d true = y.getD d true) : x = y := by
  apply Array.ext hs
  intro i h1 h2
  have := h i h1
  simpa [h1, h2] using this
end
end Go.Proofs.YtooeahpkhocaeaaDoor
/- Words for walking a function by facts on its slots alone: what is known of the slots is a list; an operation's law says what it yields from it. No condition. -/
namespace Go.Proofs.YtooeahpkhocaeaaDoor
open Go.RowKit

/-- What is known of slots: a list, the newest first. -/
def look : List (Nat × Value) → Nat → Option Value
  | [], _ => none
  | (d, v) :: r, k => bif Nat.beq d k then some v else look r k
def vals (L : List (Nat × Value)) : Operand → Option Value
  | .tmp t => look L t
  | .const v => some v
  | .global g => some (.pointer (some ⟨g, 0, none⟩))
  | .func f => some (.func (.func f) #[] #[])
def Sees (n : Nat) (L : List (Nat × Value)) (a : Act) : Prop := a.tmps.size = n ∧ a.defers = [] ∧ ∀ k v, look L k = some v → a.tmps.getD k undef = v
theorem look_cons (d : Nat) (v : Value) (r : List (Nat × Value)) (k : Nat) : look ((d, v) :: r) k = if d = k then some v else look r k := by
  rw [look]
  by_cases h : d = k
  · subst h; simp
  · have : Nat.beq d k = false := by
      cases hb : Nat.beq d k with
      | false => rfl
      | true => exact absurd (Nat.eq_of_beq_eq_true hb) h
    rw [this, if_neg h]; rfl
theorem Sees.eval {n : Nat} {L : List (Nat × Value)} {a : Act} (h : Sees n L a) {X : Operand} {v : Value} (hv : vals L X = some v) : a.eval X = v := by
  cases X with
  | tmp t => exact h.2.2 t v hv
  | const c => exact Option.some.inj hv
  | «global» g => exact Option.some.inj hv
  | func f => exact Option.some.inj hv
theorem Sees.put {n : Nat} {L : List (Nat × Value)} {a : Act} (h : Sees n L a) {d : Nat} (hd : d < n) (v : Value) : Sees n ((d, v) :: L) (a.put (some d) v) := by
  refine ⟨by simp [Act.put, h.1], h.2.1, fun k u hk => ?_⟩
  rw [look_cons] at hk
  by_cases hdk : d = k
  · subst hdk
    rw [if_pos rfl] at hk
    have : d < a.tmps.size := by rw [h.1]; exact hd
    simp [Act.put, this, Option.some.inj hk]
  · rw [if_neg hdk] at hk
    have := h.2.2 k u hk
    simpa [Act.put, Array.getElem?_setIfInBounds_ne hdk] using this
theorem Sees.sub {n : Nat} {L M : List (Nat × Value)} {a : Act} (h : Sees n L a) (hs : ∀ k v, look M k = some v → look L k = some v) : Sees n M a := ⟨h.1, h.2.1, fun k v hk => h.2.2 k v (hs k v hk)⟩
/-- Each pair of M is known in L. -/
def Among (L : List (Nat × Value)) : List (Nat × Value) → Prop
  | [] => True
  | (d, v) :: r => look L d = some v ∧ Among L r
theorem Among.look {L : List (Nat × Value)} : ∀ {M : List (Nat × Value)}, Among L M → ∀ k v, look M k = some v → look L k = some v
  | [], _, k, v, h => by cases h
  | (d, u) :: r, hA, k, v, h => by
    rw [look_cons] at h
    by_cases hd : d = k
    · subst hd; rw [if_pos rfl] at h; rw [← h]; exact hA.1
    · rw [if_neg hd] at h; exact hA.2.look k v h
theorem Sees.only {n : Nat} {L : List (Nat × Value)} {a : Act} (h : Sees n L a) (M : List (Nat × Value)) (hs : Among L M) : Sees n M a := h.sub hs.look

def Runs (P : Program) (op : Op) (ty : TypeId) (L : List (Nat × Value)) (w : World) (Post : Value → World → Prop) : Prop :=
  ∀ (o : Oper) (a : Act) (K : Act → World → Prop) (Q : Exit → Act → World → Prop), o.op = op → o.type = ty → (∀ X ∈ op.operands, ∀ v, vals L X = some v → a.eval X = v) → (∀ v w', Post v w' → K (a.put o.dst v) w') → o.wp P a w K Q
/-- It yields v and leaves the world. -/
def Is (v : Value) (w : World) : Value → World → Prop := fun v' w' => v' = v ∧ w' = w
section
variable {P : Program} {ops : Array Oper} {Q : Exit → Act → World → Prop} {L : List (Nat × Value)} {w : World} {n : Nat} {ty : TypeId}
theorem Runs.mono {op : Op} {Post Post' : Value → World → Prop} (h : Runs P op ty L w Post) (hp : ∀ v w', Post v w' → Post' v w') : Runs P op ty L w Post' :=
  fun o a K Q ho ht hL hK => h o a K Q ho ht hL (fun v w' h => hK v w' (hp v w' h))
theorem runs_move {x : Operand} {v : Value} (h : vals L x = some v) : Runs P (.move x) ty L w (Is v w) := fun o a K Q ho _ hL hK => by
  have e := hL x (by simp [Op.operands]) v h
  unfold Oper.wp
  simp [execOp, ho, e]
  exact hK v w ⟨rfl, rfl⟩
theorem runs_assign {x : Operand} {v : Value} (h : vals L x = some v) : Runs P (.assign x) ty L w (Is v w) := fun o a K Q ho _ hL hK => by
  have e := hL x (by simp [Op.operands]) v h
  unfold Oper.wp
  simp [execOp, ho, e]
  exact hK v w ⟨rfl, rfl⟩
theorem runs_bin {op : BinOp} {t t' : TypeId} {x y : Operand} {u v r : Value} (hx : vals L x = some u) (hy : vals L y = some v)
    (hg : eqGuard op t x y u v = pure ()) (h : Sem.run P (binOp op t u v) w = .ok r w) : Runs P (.binOp op t x y t') ty L w (Is r w) := fun o a K Q ho _ hL hK => by
  have ex := hL x (by simp [Op.operands]) u hx
  have ey := hL y (by simp [Op.operands]) v hy
  unfold Oper.wp
  have : (execOp a.eval o).run P w = .ok (.value r) w := by
    simp only [execOp, ho, ex, ey, hg]
    simp [h]
  rw [this]
  exact hK r w ⟨rfl, rfl⟩
theorem runs_add {t t' : TypeId} {x y : Operand} {k : IntKind} {a b r : Int} (hx : vals L x = some (.int k a)) (hy : vals L y = some (.int k b)) (hr : k.wrap (a + b) = r) :
    Runs P (.binOp .add t x y t') ty L w (Is (.int k r) w) := runs_bin hx hy rfl (by rw [binOp_add, ← hr]; rfl)
theorem runs_sub {t t' : TypeId} {x y : Operand} {k : IntKind} {a b r : Int} (hx : vals L x = some (.int k a)) (hy : vals L y = some (.int k b)) (hr : k.wrap (a - b) = r) :
    Runs P (.binOp .sub t x y t') ty L w (Is (.int k r) w) := runs_bin hx hy rfl (by rw [binOp_sub, ← hr]; rfl)
theorem runs_rem {t t' : TypeId} {x y : Operand} {k : IntKind} {a b r : Int} (hx : vals L x = some (.int k a)) (hy : vals L y = some (.int k b)) (hb : b ≠ 0) (hr : a.tmod b = r) :
    Runs P (.binOp .rem t x y t') ty L w (Is (.int k r) w) := runs_bin hx hy rfl (by rw [binOp_rem, ← hr]; simp [Op.intDiv, hb])
theorem runs_lss {t t' : TypeId} {x y : Operand} {k : IntKind} {a b : Int} {r : Bool} (hx : vals L x = some (.int k a)) (hy : vals L y = some (.int k b)) (hr : decide (a < b) = r) :
    Runs P (.binOp .lss t x y t') ty L w (Is (.bool r) w) := runs_bin hx hy rfl (by rw [binOp_lss, ← hr]; rfl)
theorem runs_geq {t t' : TypeId} {x y : Operand} {k : IntKind} {a b : Int} {r : Bool} (hx : vals L x = some (.int k a)) (hy : vals L y = some (.int k b)) (hr : decide (a ≥ b) = r) :
    Runs P (.binOp .geq t x y t') ty L w (Is (.bool r) w) := runs_bin hx hy rfl (by rw [binOp_geq, ← hr]; rfl)
theorem runs_gtr {t t' : TypeId} {x y : Operand} {k : IntKind} {a b : Int} {r : Bool} (hx : vals L x = some (.int k a)) (hy : vals L y = some (.int k b)) (hr : decide (a > b) = r) :
    Runs P (.binOp .gtr t x y t') ty L w (Is (.bool r) w) := runs_bin hx hy rfl (by rw [binOp_gtr, ← hr]; rfl)
theorem runs_leq {t t' : TypeId} {x y : Operand} {k : IntKind} {a b : Int} {r : Bool} (hx : vals L x = some (.int k a)) (hy : vals L y = some (.int k b)) (hr : decide (a ≤ b) = r) :
    Runs P (.binOp .leq t x y t') ty L w (Is (.bool r) w) := runs_bin hx hy rfl (by rw [binOp_leq, ← hr]; rfl)
theorem runs_eql {t t' : TypeId} {x y : Operand} {k : IntKind} {a b : Int} {r : Bool} (hx : vals L x = some (.int k a)) (hy : vals L y = some (.int k b)) (hr : (a == b) = r) :
    Runs P (.binOp .eql t x y t') ty L w (Is (.bool r) w) := runs_bin hx hy rfl (by rw [binOp_eql, ← hr]; rfl)
theorem runs_neq {t t' : TypeId} {x y : Operand} {k : IntKind} {a b : Int} {r : Bool} (hx : vals L x = some (.int k a)) (hy : vals L y = some (.int k b)) (hr : (a != b) = r) :
    Runs P (.binOp .neq t x y t') ty L w (Is (.bool r) w) := runs_bin hx hy rfl (by rw [binOp_neq, ← hr]; rfl)
theorem runs_conv {s d : TypeId} {x : Operand} {u r : Value} {w' : World} (hx : vals L x = some u) (h : Sem.run P (convert s d u) w = .ok r w') : Runs P (.convert s d x) ty L w (Is r w') := fun o a K Q ho _ hL hK => by
  have ex := hL x (by simp [Op.operands]) u hx
  unfold Oper.wp
  have : (execOp a.eval o).run P w = .ok (.value r) w' := by
    simp only [execOp, ho, ex]
    simp [h]
  rw [this]
  exact hK r w' ⟨rfl, rfl⟩
theorem runs_convInt {s d : TypeId} {x : Operand} {k k' : IntKind} {a r : Int} (hx : vals L x = some (.int k a)) (hs : (P.underlying s).isSome = true) (hd : P.underlying d = some (.int k')) (hr : k'.wrap a = r) :
    Runs P (.convert s d x) ty L w (Is (.int k' r) w) := runs_conv hx (by
  have e : P.intKind d = k' := by simp [Program.intKind, hd]
  rw [run_convert_int w s d k a hs (by rw [e]; exact hd), e, hr])
theorem runs_len {t : TypeId} {x : Operand} {A : Option Addr} {m c : Nat} {e : TypeId} (hx : vals L x = some (.slice A m c)) (hu : P.underlying t = some (.slice e)) :
    Runs P (.call { callee := .builtin .len, args := #[x], argTypes := #[t] }) ty L w (Is (.int .i64 (m : Int)) w) := fun o a K Q ho _ hL hK => by
  have ex := hL x (by simp [Op.operands, Call.operands]) _ hx
  unfold Oper.wp
  have : (execOp a.eval o).run P w = .ok (.value (.int .i64 (m : Int))) w := by
    simp [execOp, ho, resolve, invoke, builtin, ex, Builtin.len_, run_underlying hu, goInt]
  rw [this]
  exact hK _ w ⟨rfl, rfl⟩
theorem runs_lens {t : TypeId} {x : Operand} {s : ByteArray} (hx : vals L x = some (.string s)) (hu : P.underlying t = some .string) :
    Runs P (.call { callee := .builtin .len, args := #[x], argTypes := #[t] }) ty L w (Is (.int .i64 (s.size : Int)) w) := fun o a K Q ho _ hL hK => by
  have ex := hL x (by simp [Op.operands, Call.operands]) _ hx
  unfold Oper.wp
  have : (execOp a.eval o).run P w = .ok (.value (.int .i64 (s.size : Int))) w := by
    simp [execOp, ho, resolve, invoke, builtin, ex, Builtin.len_, run_underlying hu, goInt]
  rw [this]
  exact hK _ w ⟨rfl, rfl⟩
/-- One cell an element. -/
theorem runs_indexAddr {t e : TypeId} {x y : Operand} {g o' m c : Nat} {k : IntKind} {i : Int} {j : Nat} (hx : vals L x = some (.slice (some ⟨g, o', none⟩) m c)) (hy : vals L y = some (.int k i)) (hu : P.underlying t = some (.slice e))
    (hs : (P.info? e).map (·.size) = some 1) (hj : i = (j : Int)) (hl : j < m) : Runs P (.indexAddr t x y) ty L w (Is (.pointer (some ⟨g, o' + j, none⟩)) w) := fun o a K Q ho _ hL hK => by
  have ex := hL x (by simp [Op.operands]) _ hx
  have ey := hL y (by simp [Op.operands]) _ hy
  subst hj
  obtain ⟨ie, hie⟩ : ∃ ie, P.info? e = some ie := by
    cases h : P.info? e with
    | none => rw [h] at hs; cases hs
    | some ie => exact ⟨ie, rfl⟩
  have hsz : ie.size = 1 := by rw [hie] at hs; simpa using hs
  unfold Oper.wp
  have hadd : (⟨g, o', none⟩ : Addr).add (j * 1) = ⟨g, o' + j, none⟩ := by
    unfold Addr.add; split <;> simp_all
  have : (execOp a.eval o).run P w = .ok (.value (.pointer (some ⟨g, o' + j, none⟩))) w := by
    simp only [execOp, ho, ex, ey]
    simp [Instr.indexAt, asIntOf, run_underlying hu, sizeOf, typeInfo, hie, hsz, hl]
    simpa using hadd
  rw [this]
  exact hK _ w ⟨rfl, rfl⟩
theorem runs_load {t : TypeId} {x : Operand} {ad : Addr} {v : Value} (hx : vals L x = some (.pointer (some ad))) (hu : (match P.underlying t with | some (.struct _) => true | some (.array _ _) => true | none => true | _ => false) = false)
    (hc : w.cell? ad = some v) : Runs P (.load t x) ty L w (Is v w) := fun o a K Q ho _ hL hK => by
  have ex := hL x (by simp [Op.operands]) _ hx
  unfold Oper.wp
  have : (execOp a.eval o).run P w = .ok (.value v) w := by
    simp only [execOp, ho, ex]
    cases hd : P.underlying t with
    | none => rw [hd] at hu; cases hu
    | some d => cases d <;> simp_all [Instr.loadAt, Instr.sureAddr, loadVar, isAgg, run_underlying hd]
  rw [this]
  exact hK _ w ⟨rfl, rfl⟩
/-- Function f has a body. -/
def Goes (P : Program) (f : FuncId) : Prop := ∀ args w, (callFunc f args).run P w = .ok (.enter f args) w
theorem goes_of {f : FuncId} {fn : Func} {c : Code} (hf : P.funcs[f]? = some fn) (hname : (fn.name == "runtime.NumGoroutine") = false) (hb : fn.body = some c) : Goes P f := fun args w => by
  simp [callFunc, hf, hb]
  simp_all
theorem runs_call {f : FuncId} {xs : Array Operand} {ts : Array TypeId} {args : List Value} {Post : Value → World → Prop} (hg : Goes P f) (hx : xs.toList.map (vals L) = args.map some)
    (hc : Calls P f args.toArray w fun e w' => ∃ v, e = .returned v ∧ Post v w') : Runs P (.call { callee := .value (.func f), args := xs, argTypes := ts }) ty L w Post := fun o a K Q ho _ hL hK => by
  have ea : xs.map a.eval = args.toArray := by
    apply Array.toList_inj.1
    rw [Array.toList_map]
    have : ∀ (ys : List Operand) (us : List Value), (∀ X ∈ ys, X ∈ xs) → ys.map (vals L) = us.map some → ys.map a.eval = us := by
      intro ys
      induction ys with
      | nil => intro us _ h; cases us with | nil => rfl | cons _ _ => simp at h
      | cons y ys ih =>
        intro us hm h
        cases us with
        | nil => simp at h
        | cons v us =>
          simp only [List.map_cons, List.cons.injEq] at h ⊢
          exact ⟨hL y (by simp only [Op.operands, Call.operands, Array.mem_append]; right; exact hm y (by simp)) v h.1, ih us (fun X hX => hm X (by simp [hX])) h.2⟩
    exact this xs.toList args (fun X hX => by simpa using hX) hx
  unfold Oper.wp
  have : (execOp a.eval o).run P w = .ok (.enter f args.toArray) w := by
    simp only [execOp, ho]
    simp [resolve, Deferred.ofValue, invoke, Act.eval, ea]
    exact hg _ _
  rw [this]
  refine hc.mono ?_
  rintro e w' ⟨v, rfl, hp⟩
  exact hK v w' hp

/-! ### code -/
def Qx (N : Act → World → Prop) (X : Nat → Act → World → Prop) (R : Act → World → Prop) : Exit → Act → World → Prop
  | .normal, a, w => N a w
  | .exit i, a, w => X i a w
  | .ret, a, w => R a w
  | _, _, _ => False
variable {N R : Act → World → Prop} {X : Nat → Act → World → Prop} {a : Act}
theorem qx_seq {x y : Code} (h : x.wp P (Qx (fun a' w' => y.wp P (Qx N X R) a' w') X R) a w) : (Code.seq x y).wp P (Qx N X R) a w :=
  wp_seq (wp_mono h fun e a' w' hq => by cases e <;> first | exact hq | exact hq.elim)
theorem qx_block {id : Nat} {c : Code} (h : c.wp P (Qx N (fun i a' w' => (i = id ∧ N a' w') ∨ (i ≠ id ∧ X i a' w')) R) a w) : (Code.block id c).wp P (Qx N X R) a w :=
  wp_block (wp_mono h fun e a' w' hq => by
    cases e with
    | exit i =>
      rcases hq with ⟨rfl, hn⟩ | ⟨hne, hn⟩
      · simp only [Exit.inBlock, if_true]; exact hn
      · simp only [Exit.inBlock, hne, if_false]; exact hn
    | _ => first | exact hq | exact hq.elim)
/-- A 'for' with a test. -/
theorem qx_for {b : Nat} {tst rest : Code} {c : Operand} (I : Nat → Act → World → Prop) (k : Nat) (h0 : I k a w)
    (round : ∀ m a w, I m a w → tst.wp P (Qx (fun a1 w1 => ∃ t, a1.eval c = .bool t ∧ (t = false → N a1 w1) ∧ (t = true → rest.wp P (Qx (fun a2 w2 => ∃ m', m' < m ∧ I m' a2 w2) (fun i a2 w2 => (i = b ∧ N a2 w2) ∨ (i ≠ b ∧ X i a2 w2)) R) a1 w1)) (fun _ _ _ => False) (fun _ _ => False)) a w) :
    (Code.block b (.loop (.seq (.seq tst (.cond c .skip (.exit b))) rest))).wp P (Qx N X R) a w := by
  refine wp_block (wp_loop_ghost I k h0 fun m a w hI => ?_)
  refine wp_seq (wp_seq (wp_mono (round m a w hI) fun e a1 w1 hq => ?_))
  cases e with
  | normal =>
    obtain ⟨t, ht, hf, htr⟩ := hq
    cases t with
    | false => exact wp_cond_false ht (wp_exit (by simp only [Exit.then, Exit.inBlock, if_true]; exact hf rfl))
    | true =>
      refine wp_cond_true ht (wp_skip ?_)
      refine wp_mono (htr rfl) fun e a2 w2 hq => ?_
      cases e with
      | normal => exact hq
      | exit i =>
        rcases hq with ⟨rfl, hn⟩ | ⟨hne, hn⟩
        · simp only [Exit.then, Exit.inBlock, if_true]; exact hn
        · simp only [Exit.then, Exit.inBlock, hne, if_false]; exact hn
      | ret => exact hq
      | _ => exact hq.elim
  | _ => exact hq.elim
/-- One operation of a region that does not draw. -/
theorem seq_op {op : Op} {pos : String} {aft : Array Edge} {d : Nat} {rest : List Oper} {Post : Value → World → Prop} (hS : Sees n L a) (hd : d < n) (hr : Runs P op ty L w Post)
    (h : ∀ v w' a', Post v w' → Sees n ((d, v) :: L) a' → wpList P ops Q rest a' w') : wpList P ops Q (⟨some d, op, ty, pos, aft, none⟩ :: rest) a w :=
  wpList_plain rfl fun _ hK => hr _ a _ Q rfl rfl (fun _ _ _ hv => hS.eval hv) fun v w' hp => hK _ _ (h v w' _ hp (hS.put hd v))
theorem seq_is {op : Op} {pos : String} {aft : Array Edge} {d : Nat} {rest : List Oper} {v : Value} {w' : World} (hS : Sees n L a) (hd : d < n) (hr : Runs P op ty L w (Is v w'))
    (h : ∀ a', Sees n ((d, v) :: L) a' → wpList P ops Q rest a' w') : wpList P ops Q (⟨some d, op, ty, pos, aft, none⟩ :: rest) a w :=
  seq_op hS hd hr fun v' w1 a' hp hS' => by obtain ⟨rfl, rfl⟩ := hp; exact h a' hS'
theorem seq_none {op : Op} {pos : String} {aft : Array Edge} {rest : List Oper} {Post : Value → World → Prop} (hS : Sees n L a) (hr : Runs P op ty L w Post)
    (h : ∀ v w' a', Post v w' → Sees n L a' → wpList P ops Q rest a' w') : wpList P ops Q (⟨none, op, ty, pos, aft, none⟩ :: rest) a w :=
  wpList_plain rfl fun _ hK => hr _ a _ Q rfl rfl (fun _ _ _ hv => hS.eval hv) fun v w' hp => hK _ _ (h v w' _ hp hS)
end
end Go.Proofs.YtooeahpkhocaeaaDoor
/- A region that draws its order, walked by facts on slots: the operations that only read (or call what only reads) are looked at once, in the text's order; behind them stands the tail, in its forced order. Conditions: one check on the region's shape. -/
namespace Go.Proofs.YtooeahpkhocaeaaDoor
open Go.RowKit

def dstOf (ops : Array Oper) (i : Nat) : Nat := ((ops[i]?).bind (·.dst)).getD 0
/-- What is known when the first i have come up, in the text's order. -/
def envUpto (ops : Array Oper) (l0 : Array Bool) (vs : Nat → Value) (L : List (Nat × Value)) : Nat → List (Nat × Value)
  | 0 => L
  | i + 1 => if l0.getD i true = true then envUpto ops l0 vs L i else (dstOf ops i, vs i) :: envUpto ops l0 vs L i
theorem envUpto_look (ops : Array Oper) (l0 : Array Bool) (vs : Nat → Value) (L : List (Nat × Value)) : ∀ (i k : Nat) (v : Value), look (envUpto ops l0 vs L i) k = some v →
    (∃ j, j < i ∧ l0.getD j true = false ∧ dstOf ops j = k ∧ v = vs j) ∨ (look L k = some v ∧ ∀ j, j < i → l0.getD j true = false → dstOf ops j ≠ k)
  | 0, k, v, h => .inr ⟨h, fun j hj => by omega⟩
  | i + 1, k, v, h => by
    rw [envUpto] at h
    by_cases hl : l0.getD i true = true
    · rw [if_pos hl] at h
      rcases envUpto_look ops l0 vs L i k v h with ⟨j, hj, r⟩ | ⟨h1, h2⟩
      · exact .inl ⟨j, by omega, r⟩
      · refine .inr ⟨h1, fun j hj hf => ?_⟩
        by_cases e : j = i
        · subst e; rw [hl] at hf; cases hf
        · exact h2 j (by omega) hf
    · rw [if_neg hl, look_cons] at h
      have hlf : l0.getD i true = false := by simpa using hl
      by_cases hd : dstOf ops i = k
      · rw [if_pos hd] at h
        exact .inl ⟨i, by omega, hlf, hd, (Option.some.inj h).symm⟩
      · rw [if_neg hd] at h
        rcases envUpto_look ops l0 vs L i k v h with ⟨j, hj, r⟩ | ⟨h1, h2⟩
        · exact .inl ⟨j, by omega, r⟩
        · refine .inr ⟨h1, fun j hj hf => ?_⟩
          by_cases e : j = i
          · subst e; exact hd
          · exact h2 j (by omega) hf
/-- The operations that only read, one behind another, in the text's order. -/
def QSeq (P : Program) (C : World → Prop) (l0 : Array Bool) (F : List (Nat × Value) → Prop) : List Oper → Nat → List (Nat × Value) → Prop
  | [], _, L => F L
  | o :: os, i, L => if l0.getD i true = true then QSeq P C l0 F os (i + 1) L else ∃ v, (∀ w, C w → Runs P o.op o.type L w (fun v' w' => v' = v ∧ C w')) ∧ QSeq P C l0 F os (i + 1) (((o.dst).getD 0, v) :: L)
theorem qs_op {P : Program} {C : World → Prop} {l0 : Array Bool} {F : List (Nat × Value) → Prop} {d : Nat} {op : Op} {ty : TypeId} {pos : String} {aft : Array Edge} {os : List Oper} {i : Nat} {L : List (Nat × Value)} {v : Value} (hl : l0.getD i true = false)
    (hr : ∀ w, C w → Runs P op ty L w (fun v' w' => v' = v ∧ C w')) (h : QSeq P C l0 F os (i + 1) ((d, v) :: L)) : QSeq P C l0 F (⟨some d, op, ty, pos, aft, none⟩ :: os) i L := by
  rw [QSeq, if_neg (by rw [hl]; simp)]; exact ⟨v, hr, h⟩
theorem qs_is {P : Program} {C : World → Prop} {l0 : Array Bool} {F : List (Nat × Value) → Prop} {d : Nat} {op : Op} {ty : TypeId} {pos : String} {aft : Array Edge} {os : List Oper} {i : Nat} {L : List (Nat × Value)} {v : Value} (hl : l0.getD i true = false)
    (hr : ∀ w, C w → Runs P op ty L w (Is v w)) (h : QSeq P C l0 F os (i + 1) ((d, v) :: L)) : QSeq P C l0 F (⟨some d, op, ty, pos, aft, none⟩ :: os) i L :=
  qs_op hl (fun w hw => (hr w hw).mono fun _ _ ⟨h1, h2⟩ => ⟨h1, by rw [h2]; exact hw⟩) h
theorem qseq_vals {P : Program} {C : World → Prop} {l0 : Array Bool} {F : List (Nat × Value) → Prop} {ops : Array Oper} {L : List (Nat × Value)} (m : Nat) (hm : m ≤ ops.size) :
    ∀ (r i : Nat) (us : Nat → Value), i + r = m → QSeq P C l0 F ((ops.toList.drop i).take r) i (envUpto ops l0 us L i) →
      ∃ vs : Nat → Value, (∀ j, j < i → vs j = us j) ∧ (∀ j o, i ≤ j → j < m → ops[j]? = some o → l0.getD j true = false → ∀ w, C w → Runs P o.op o.type (envUpto ops l0 vs L j) w (fun v' w' => v' = vs j ∧ C w')) ∧ F (envUpto ops l0 vs L m) := by
  intro r
  induction r with
  | zero =>
    intro i us hi h
    obtain rfl : i = m := by omega
    rw [List.take_zero] at h
    exact ⟨us, fun _ _ => rfl, fun j o h1 h2 => by omega, h⟩
  | succ r ih =>
    intro i us hi h
    have hil : i < ops.toList.length := by rw [Array.length_toList]; omega
    rw [List.drop_eq_getElem_cons hil, List.take_succ_cons] at h
    have hoi : ops[i]? = some ops.toList[i] := by rw [Array.getElem?_eq_getElem (by simpa using hil)]; simp
    rw [QSeq] at h
    have hcong : ∀ (us vs : Nat → Value) (k : Nat), (∀ j, j < k → vs j = us j) → envUpto ops l0 vs L k = envUpto ops l0 us L k := by
      intro us vs k
      induction k with
      | zero => intro _; rfl
      | succ k ihk => intro hh; rw [envUpto, envUpto, ihk (fun j hj => hh j (by omega)), hh k (by omega)]
    by_cases hl : l0.getD i true = true
    · rw [if_pos hl] at h
      have he : envUpto ops l0 us L (i + 1) = envUpto ops l0 us L i := by rw [envUpto, if_pos hl]
      rw [← he] at h
      obtain ⟨vs, h1, h2, h3⟩ := ih (i + 1) us (by omega) h
      refine ⟨vs, fun j hj => h1 j (by omega), fun j o hj hjm ho hf => ?_, h3⟩
      by_cases e : j = i
      · subst e; rw [hl] at hf; cases hf
      · exact h2 j o (by omega) hjm ho hf
    · rw [if_neg hl] at h
      obtain ⟨v, hv, h⟩ := h
      have hdst : (ops.toList[i].dst).getD 0 = dstOf ops i := by unfold dstOf; rw [hoi]; rfl
      have he : envUpto ops l0 (fun j => if j = i then v else us j) L (i + 1) = (dstOf ops i, v) :: envUpto ops l0 us L i := by
        rw [envUpto, if_neg hl, if_pos rfl, hcong us (fun j => if j = i then v else us j) i (fun j hj => by rw [if_neg (by omega)])]
      rw [hdst, ← he] at h
      obtain ⟨vs, h1, h2, h3⟩ := ih (i + 1) (fun j => if j = i then v else us j) (by omega) h
      have hvi : vs i = v := by rw [h1 i (by omega), if_pos rfl]
      refine ⟨vs, fun j hj => by rw [h1 j (by omega), if_neg (by omega)], fun j o hj hjm ho hf => ?_, h3⟩
      by_cases e : j = i
      · subst e
        rw [hoi] at ho
        obtain rfl := Option.some.inj ho
        rw [hcong us vs j (fun k hk => by rw [h1 k (by omega), if_neg (by omega)]), hvi]
        exact hv
      · exact h2 j o (by omega) hjm ho hf
theorem ready_nilB {ops : Array Oper} (hord : ∀ (i : Nat) (o : Oper), ops[i]? = some o → ∀ e ∈ o.after, Region.binds .any e = true → e.on < i) {listed : Array Bool} (hs : listed.size = ops.size) (h : Region.ready .any ops listed = []) : ∀ i, i < ops.size → listed.getD i true = true := by
  intro i
  induction i using Nat.strongRecOn with
  | _ i ih =>
    intro hi
    by_cases hl : listed.getD i true = true
    · exact hl
    · exfalso
      have hm : i ∈ Region.ready .any ops listed := by
        rw [mem_ready]
        refine ⟨by simpa using hl, ops[i], Array.getElem?_eq_getElem hi, fun e he hb => ?_⟩
        have hlt : e.on < i := hord i _ (Array.getElem?_eq_getElem hi) e he hb
        have := ih e.on hlt (by omega)
        have hb : e.on < listed.size := by omega
        simpa [hb] using this
      rw [h] at hm
      cases hm
/-- All that is asked of the region's shape. n: the frame's slots; m: how many operations stand ahead of the tail; l0: those that are taken already. -/
def chkDraw (ops : Array Oper) (n m : Nat) (l0 : Array Bool) : Bool :=
  decide (m ≤ ops.size) && decide (l0.size = ops.size) &&
  (List.range ops.size).all (fun i => match ops[i]? with | some o => o.after.all (fun e => !Region.binds .any e || decide (e.on < i)) | none => true) &&
  (List.range m).all (fun i => l0.getD i true || match ops[i]? with
    | some o => o.guard.isNone && (match o.dst with | some d => decide (d < n) | none => false) &&
        o.op.operands.all (fun X => match X with | .tmp k => (List.range m).all (fun j => l0.getD j true || !(Nat.beq (dstOf ops j) k) || o.after.any (fun e => Region.binds .any e && Nat.beq e.on j)) | _ => true)
    | none => false) &&
  (List.range m).all (fun i => (List.range m).all (fun j => l0.getD i true || l0.getD j true || Nat.beq i j || !(Nat.beq (dstOf ops i) (dstOf ops j)))) &&
  (List.range m).all (fun i => l0.getD i true || Nat.beq m ops.size || marks .any ops (m + 1) (fun j => Nat.beq j m) i) &&
  (List.range ops.size).all (fun j => decide (j < m) || (!l0.getD j true && (Nat.beq j m || match ops[j]? with | some o => o.after.any (fun e => Region.binds .any e && decide (m ≤ e.on)) | none => true))) &&
  (List.range ops.size).all (fun i => !l0.getD i false || match ops[i]? with | some o => o.after.all (fun e => !Region.binds .any e || l0.getD e.on false) | none => true)
structure Po2 (ops : Array Oper) (vs : Nat → Value) (m : Nat) (a0 : Act) (l0 : Array Bool) (listed : Array Bool) (a : Act) : Prop where
  size : listed.size = ops.size
  tmps : a.tmps.size = a0.tmps.size
  defers : a.defers = a0.defers
  pre : ∀ i, l0.getD i true = true → listed.getD i true = true
  has : ∀ i, i < m → l0.getD i true = false → listed.getD i true = true → a.tmps.getD (dstOf ops i) undef = vs i
  old : ∀ d, (∀ i, i < m → l0.getD i true = false → dstOf ops i ≠ d) → a.tmps.getD d undef = a0.tmps.getD d undef
  tail : ∀ i, m ≤ i → i < ops.size → listed.getD i true = false
  closed : Closed .any ops (fun i => listed.getD i false)
/-- What is left when all ahead of the tail have come up. -/
def lastOf (ops : Array Oper) (m : Nat) : Array Bool := Array.replicate m true ++ Array.replicate (ops.size - m) false
section
variable {P : Program} {ops : Array Oper} {Q : Exit → Act → World → Prop} {S : World → Prop} {L : List (Nat × Value)} {n : Nat}
theorem draw_quiet (m : Nat) (C : World → Prop) (l0 : Array Bool) (k F : Nat) {a0 : Act} {w : World} (hchk : chkDraw ops n m l0 = true) (hk : (List.range m).countP (fun i => !l0.getD i true) = k) (hS : ∀ w, C w → S w) (hC : C w) (hL : Sees n L a0)
    (h : QSeq P C l0 (fun L' => ∀ a w, Sees n L' a → C w → wpAnyH P .any ops Q S F (lastOf ops m) a w) (ops.toList.take m) 0 L) :
    wpAnyH P .any ops Q S (k + F) l0 a0 w := by
  simp only [chkDraw, Bool.and_eq_true, decide_eq_true_eq, List.all_eq_true, List.mem_range] at hchk
  obtain ⟨⟨⟨⟨⟨⟨⟨c1, c2⟩, c3⟩, c4⟩, c5⟩, c6⟩, c7⟩, c8⟩ := hchk
  obtain ⟨vs, _, hrun, hfin⟩ := qseq_vals (P := P) (C := C) (l0 := l0) (L := L) m c1 m 0 (fun _ => undef) (by omega) (by rw [List.drop_zero]; exact h)
  have hord : ∀ (i : Nat) (o : Oper), ops[i]? = some o → ∀ e ∈ o.after, Region.binds .any e = true → e.on < i := fun i o ho e he hb => by
    have := c3 i (Array.getElem?_eq_some_iff.1 ho).1
    rw [ho] at this
    simp only [Array.all_eq_true_iff_forall_mem] at this
    have := this e he
    rw [hb] at this
    simpa using this
  have hinj : ∀ i j, i < m → j < m → l0.getD i true = false → l0.getD j true = false → dstOf ops i = dstOf ops j → i = j := fun i j hi hj h1 h2 he => by
    have := c5 i hi j hj
    rw [h1, h2, he] at this
    simpa using this
  have key : ∀ (k : Nat) (listed : Array Bool) (a : Act) (w : World), Po2 ops vs m a0 l0 listed a → C w → (List.range m).countP (fun i => !listed.getD i true) = k → wpAnyH P .any ops Q S (k + F) listed a w := by
    intro k
    induction k with
    | zero =>
      intro listed a w hs hC hc
      have hall : ∀ i, i < m → listed.getD i true = true := fun i hi => by
        have := List.countP_eq_zero.1 hc i (List.mem_range.2 hi)
        simpa using this
      have e1 : listed = lastOf ops m := by
        unfold lastOf
        apply arr_extB
        · rw [hs.size]; simp; omega
        · intro d hd
          rw [hs.size] at hd
          by_cases h : d < m
          · rw [hall d h]
            simp [Array.getElem?_append, h]
          · rw [hs.tail d (by omega) hd]
            simp [Array.getElem?_append, h, show d - m < ops.size - m by omega]
      rw [e1, Nat.zero_add]
      refine hfin a w ⟨hs.tmps.trans hL.1, hs.defers.trans hL.2.1, fun k v hk => ?_⟩ hC
      rcases envUpto_look ops l0 vs L m k v hk with ⟨j, hj, hf, rfl, rfl⟩ | ⟨h1, h2⟩
      · exact hs.has j hj hf (hall j hj)
      · rw [hs.old k h2]; exact hL.2.2 k v h1
    | succ k ih =>
      intro listed a w hs hC hc
      have hsome : ∃ i, i < m ∧ listed.getD i true = false := by
        have hp : 0 < (List.range m).countP (fun i => !listed.getD i true) := by omega
        obtain ⟨i, hi, h⟩ := List.countP_pos_iff.1 hp
        exact ⟨i, List.mem_range.1 hi, by simpa using h⟩
      rw [show k + 1 + F = (k + F) + 1 by omega]
      refine ⟨fun h => ?_, fun i hi => ?_⟩
      · obtain ⟨i, hi, h1⟩ := hsome
        have := ready_nilB hord hs.size h i (by omega)
        rw [this] at h1; cases h1
      · obtain ⟨h0, o, ho, hdeps⟩ := mem_ready.1 hi
        have his : i < ops.size := (Array.getElem?_eq_some_iff.1 ho).1
        have him : i < m := by
          apply Classical.byContradiction
          intro hge
          by_cases him : i = m
          · obtain ⟨j, hj, hjf⟩ := hsome
            have h6 := c6 j hj
            have hj0 : l0.getD j true = false := by
              cases h : l0.getD j true with
              | false => rfl
              | true => rw [hs.pre j h] at hjf; cases hjf
            have hms : Nat.beq m ops.size = false := by
              cases hb : Nat.beq m ops.size with
              | false => rfl
              | true => have := Nat.eq_of_beq_eq_true hb; omega
            rw [hj0, hms] at h6
            have hcl : Closed .any ops (fun x => listed.getD x false || Nat.beq x m) := fun x ox hox hx e he hb => by
              simp only [Bool.or_eq_true] at hx ⊢
              rcases hx with hx | hx
              · exact .inl (hs.closed x ox hox hx e he hb)
              · obtain rfl := Nat.eq_of_beq_eq_true hx
                subst him
                rw [ho] at hox
                obtain rfl := Option.some.inj hox
                exact .inl (hdeps e he hb)
            have := marks_sub hcl (m + 1) (fun j => Nat.beq j m) (fun x hx => by simp only [Bool.or_eq_true]; exact .inr hx) j (by simpa using h6)
            simp only [Bool.or_eq_true] at this
            rcases this with h | h
            · have h2 := getD_true h; rw [h2] at hjf; cases hjf
            · have := Nat.eq_of_beq_eq_true h; omega
          · have h7 := c7 i his
            rw [ho] at h7
            simp only [Bool.or_eq_true, decide_eq_true_eq, Bool.and_eq_true, Bool.not_eq_true', Array.any_eq_true] at h7
            rcases h7 with h7 | ⟨_, h7⟩
            · omega
            · rcases h7 with h7 | ⟨x, hx, hb, hon⟩
              · exact him (Nat.eq_of_beq_eq_true h7)
              · have he2 : o.after[x].on < i := hord i o ho _ (Array.getElem_mem hx) hb
                have h1 := hs.tail o.after[x].on hon (by omega)
                have h2 := getD_true (hdeps _ (Array.getElem_mem hx) hb)
                rw [h2] at h1; cases h1
        have hpre : l0.getD i true = false := by
          cases h : l0.getD i true with
          | false => rfl
          | true => rw [hs.pre i h] at h0; cases h0
        have h4 := c4 i him
        rw [hpre, ho] at h4
        simp only [Bool.false_or, Bool.and_eq_true] at h4
        obtain ⟨⟨hg, hd⟩, hopd⟩ := h4
        obtain ⟨dd, hdd⟩ : ∃ d, o.dst = some d := by
          cases h : o.dst with
          | none => rw [h] at hd; cases hd
          | some d => exact ⟨d, rfl⟩
        have hdl : dd < n := by rw [hdd] at hd; simpa using hd
        have hDi : dstOf ops i = dd := by unfold dstOf; rw [ho]; simp [hdd]
        have hwant : Region.wanted o (yielded ops a.tmps) = true := by
          unfold Region.wanted
          cases hgd : o.guard with
          | none => rfl
          | some g => rw [hgd] at hg; cases hg
        have hwp := hrun i o (Nat.zero_le _) him ho hpre w hC o a
          (fun a' w' => S w' ∧ wpAnyH P .any ops Q S (k + F) (listed.setIfInBounds i true) a' w') Q rfl rfl (fun Y hY v hv => by
            cases Y with
            | tmp t =>
              rcases envUpto_look ops l0 vs L i t v hv with ⟨j, hj, hf, hjt, rfl⟩ | ⟨h1, h2⟩
              · have hoj := hopd
                rw [Array.all_eq_true_iff_forall_mem] at hoj
                have := hoj _ hY
                simp only [List.all_eq_true, List.mem_range] at this
                have := this j (by omega)
                rw [hf, hjt] at this
                simp only [Bool.false_or, Bool.or_eq_true, Bool.not_eq_true', Array.any_eq_true, Bool.and_eq_true] at this
                rcases this with h | ⟨x, hx, hb, hon⟩
                · simp at h
                · have hon' := Nat.eq_of_beq_eq_true hon
                  have hlj := hdeps _ (Array.getElem_mem hx) hb
                  rw [hon'] at hlj
                  have := hs.has j (by omega) hf (getD_true hlj)
                  rw [hjt] at this
                  exact this
              · show a.tmps.getD t undef = v
                rw [hs.old t (fun j hj hf he => ?_)]
                · exact hL.2.2 t v h1
                · by_cases hji : j < i
                  · exact h2 j hji hf he
                  · have hoj := hopd
                    rw [Array.all_eq_true_iff_forall_mem] at hoj
                    have := hoj _ hY
                    simp only [List.all_eq_true, List.mem_range] at this
                    have := this j hj
                    rw [hf, he] at this
                    simp only [Bool.false_or, Bool.or_eq_true, Bool.not_eq_true', Array.any_eq_true, Bool.and_eq_true] at this
                    rcases this with h | ⟨x, hx, hb, hon⟩
                    · simp at h
                    · have hon' := Nat.eq_of_beq_eq_true hon
                      have he2 : o.after[x].on < i := hord i o ho _ (Array.getElem_mem hx) hb
                      omega
            | const c => exact Option.some.inj hv
            | «global» g => exact Option.some.inj hv
            | func f => exact Option.some.inj hv) (fun v w' hp => ?_)
        · unfold Go.wpOp
          simp only [ho, hwant, if_true]
          exact .inl hwp
        · obtain ⟨rfl, hC'⟩ := hp
          refine ⟨hS w' hC', ?_⟩
          have hget : ∀ (j : Nat) (b : Bool), (listed.setIfInBounds i true).getD j b = if i = j then true else listed.getD j b := fun j b => by
            by_cases hij : i = j
            · subst hij
              rw [if_pos rfl]
              simp [hs.size, his]
            · rw [if_neg hij, getD_set_ne b hij]
          rw [hdd]
          refine ih _ _ w' ?_ hC' ?_
          · refine ⟨by simp [hs.size], by simp [Act.put, hs.tmps], hs.defers, fun j hj => ?_, fun j hj h1 h2 => ?_, fun d hd => ?_, fun j hj1 hj2 => ?_, fun j oj hoj hj e he hb => ?_⟩
            · rw [hget]; split
              · rfl
              · exact hs.pre j hj
            · rw [hget] at h2
              by_cases hij : i = j
              · subst hij
                have : dd < a.tmps.size := by rw [hs.tmps, hL.1]; exact hdl
                rw [hDi]
                simp [Act.put, this]
              · rw [if_neg hij] at h2
                have hne : dd ≠ dstOf ops j := fun e => hij (hinj i j him hj hpre h1 (by rw [hDi, e]))
                have := hs.has j hj h1 h2
                simpa [Act.put, Array.getElem?_setIfInBounds_ne hne] using this
            · have hdi : dd ≠ d := by rw [← hDi]; exact hd i him hpre
              have := hs.old d hd
              simpa [Act.put, Array.getElem?_setIfInBounds_ne hdi] using this
            · rw [hget, if_neg (by omega)]; exact hs.tail j hj1 hj2
            · simp only [hget] at hj ⊢
              by_cases hij : i = j
              · subst hij
                obtain rfl : o = oj := by rw [ho] at hoj; exact Option.some.inj hoj
                split
                · rfl
                · exact hdeps e he hb
              · rw [if_neg hij] at hj
                split
                · rfl
                · exact hs.closed j oj hoj hj e he hb
          · have h1 := countP_set m listed i him h0 hget
            omega
  refine key k l0 a0 w ⟨c2, rfl, rfl, fun _ h => h, fun i _ h1 h2 => absurd (h1.symm.trans h2) (by simp), fun _ _ => rfl, fun i hi hn => ?_, fun i o ho hl e he hb => ?_⟩ hC hk
  · have := c7 i hn
    simp only [Bool.or_eq_true, decide_eq_true_eq, Bool.and_eq_true, Bool.not_eq_true'] at this
    rcases this with h | h
    · omega
    · exact h.1
  · have := c8 i (Array.getElem?_eq_some_iff.1 ho).1
    rw [ho] at this
    simp only [Bool.or_eq_true, Bool.not_eq_true'] at this
    have hl' : l0.getD i false = true := hl
    rcases this with h | h
    · rw [hl'] at h; cases h
    · rw [Array.all_eq_true_iff_forall_mem] at h
      have := h e he
      simp only [Bool.or_eq_true, Bool.not_eq_true'] at this
      rcases this with h | h
      · rw [hb] at h; cases h
      · exact h
/-- An operation of the tail: it alone may come up. -/
theorem tail_op {d : Nat} {op : Op} {ty : TypeId} {pos : String} {aft : Array Edge} {Post : Value → World → Prop} (j : Nat) {lst : Array Bool} {F : Nat} {a : Act} {w : World} (hr : Region.ready .any ops lst = [j]) (ho : ops[j]? = some ⟨some d, op, ty, pos, aft, none⟩)
    (hL : Sees n L a) (hd : d < n) (hrun : Runs P op ty L w Post) (h : ∀ v w' a', Post v w' → Sees n ((d, v) :: L) a' → S w' ∧ wpAnyH P .any ops Q S F (lst.setIfInBounds j true) a' w') : wpAnyH P .any ops Q S (F + 1) lst a w := by
  refine wpAnyH_all hr (by simp) (fun i hi => ?_)
  obtain rfl : i = j := by simpa using hi
  unfold wpOp
  simp only [ho, Region.wanted, if_true]
  exact .inl (hrun _ a _ Q rfl rfl (fun _ _ _ hv => hL.eval hv) (fun v w' hp => h v w' _ hp (hL.put hd v)))
theorem tail_none {op : Op} {ty : TypeId} {pos : String} {aft : Array Edge} {Post : Value → World → Prop} (j : Nat) {lst : Array Bool} {F : Nat} {a : Act} {w : World} (hr : Region.ready .any ops lst = [j]) (ho : ops[j]? = some ⟨none, op, ty, pos, aft, none⟩)
    (hL : Sees n L a) (hrun : Runs P op ty L w Post) (h : ∀ v w' a', Post v w' → Sees n L a' → S w' ∧ wpAnyH P .any ops Q S F (lst.setIfInBounds j true) a' w') : wpAnyH P .any ops Q S (F + 1) lst a w := by
  refine wpAnyH_all hr (by simp) (fun i hi => ?_)
  obtain rfl : i = j := by simpa using hi
  unfold wpOp
  simp only [ho, Region.wanted, if_true]
  exact .inl (hrun _ a _ Q rfl rfl (fun _ _ _ hv => hL.eval hv) (fun v w' hp => h v w' _ hp hL))
end
end Go.Proofs.YtooeahpkhocaeaaDoor
/- Laws for walking by facts on slots: regions that draw and only read; slices that are built, appended to, stored to. Conditions: one cell an element. -/
namespace Go.Proofs.YtooeahpkhocaeaaDoor
open Go.RowKit

def Drawn (V w : World) : Prop := ∃ k, w = V.drewN k
theorem Drawn.refl (V : World) : Drawn V V := ⟨0, rfl⟩
theorem Drawn.drew {V w : World} (h : Drawn V w) : Drawn V w.drew := by obtain ⟨k, rfl⟩ := h; exact ⟨k + 1, rfl⟩
theorem Drawn.trans {V w w' : World} (h : Drawn V w) (h' : Drawn w w') : Drawn V w' := by obtain ⟨k, rfl⟩ := h; obtain ⟨j, rfl⟩ := h'; exact ⟨k + j, by rw [World.drewN_drewN]⟩
theorem Drawn.cell {V w : World} (h : Drawn V w) {ad : Addr} {v : Value} (hc : V.cell? ad = some v) : w.cell? ad = some v := by obtain ⟨k, rfl⟩ := h; exact hc
section
variable {P : Program} {ops : Array Oper} {L : List (Nat × Value)} {w : World} {n : Nat} {ty : TypeId} {N R : Act → World → Prop} {X : Nat → Act → World → Prop} {a : Act}
/-- A region that draws: some that only read, then a tail. -/
theorem reg_tail {id : Nat} (C : World → Prop) (m F : Nat) (hm : P.follows .mixedOrders = true) (hmF : m + F = ops.size) (hchk : chkDraw ops n m (Array.replicate ops.size false) = true) (hL : Sees n L a) (hC : C w) (hCd : ∀ w, C w → C w.drew)
    (h : QSeq P C (Array.replicate ops.size false) (fun L' => ∀ a' w', Sees n L' a' → C w' → wpAnyH P .any ops (Qx N X R) (fun _ => True) F (lastOf ops m) a' w') (ops.toList.take m) 0 L) : (Code.region id ops true).wp P (Qx N X R) a w := by
  refine wp_region_held (S := fun _ => True) hm ?_
  have hcount : (List.range m).countP (fun i => !(Array.replicate ops.size false).getD i true) = m := by
    rw [List.countP_eq_length.2 (fun i hi => by have := List.mem_range.1 hi; simp [show i < ops.size by omega]), List.length_range]
  have := draw_quiet (Q := Qx N X R) (S := fun _ => True) m C (Array.replicate ops.size false) m F (w := w.drew) hchk hcount (fun _ _ => trivial) (hCd w hC) hL (P := P) h
  rw [hmF] at this
  exact this
/-- A region that does not draw. -/
theorem reg_seq {id : Nat} {l : List Oper} {Q : Exit → Act → World → Prop} (h : wpList P l.toArray Q l a w) : (Code.region id l.toArray false).wp P Q a w := wp_region_lit h
def Built (w : World) (e : TypeId) (m : Nat) (cells : Array Value) : Value → World → Prop := fun v w' => v = .slice (some ⟨w.heap.size, 0, none⟩) m m ∧ w' = w.alloc (.cells cells e)
theorem map_eval {L : List (Nat × Value)} {a : Act} : ∀ (ps : List (Nat × Operand)) (pv : List (Nat × Value)), (∀ p ∈ ps, ∀ v, vals L p.2 = some v → a.eval p.2 = v) → ps.map (fun p => (vals L p.2).map (fun v => (p.1, v))) = pv.map some → ps.map (fun p => (p.1, a.eval p.2)) = pv
  | [], pv, _, h => by cases pv with | nil => rfl | cons _ _ => simp at h
  | p :: ps, pv, hp, h => by
    cases pv with
    | nil => simp at h
    | cons u pv =>
      simp only [List.map_cons, List.cons.injEq] at h ⊢
      refine ⟨?_, map_eval ps pv (fun q hq => hp q (by simp [hq])) h.2⟩
      cases hv : vals L p.2 with
      | none => rw [hv] at h; simp at h
      | some v =>
        rw [hv] at h
        simp only [Option.map_some, Option.some.injEq] at h
        rw [hp p (by simp) v hv, h.1]
theorem runs_buildSlice {t e : TypeId} {len : Nat} {parts : Array (Nat × Operand)} {pv : List (Nat × Value)} {cells : Array Value} {ie : TypeInfo} {z : Value} (hx : parts.toList.map (fun p => (vals L p.2).map (fun v => (p.1, v))) = pv.map some)
    (hu : P.underlying t = some (.slice e)) (hie : P.info? e = some ie) (hz : ie.zero = some z) (hsz : ie.size = 1) (hsmall : len ≤ 2 ^ 24) (hpos : 0 < len)
    (hf : Instr.fill (fun i => some (i * 1, 1)) ((Array.range (len * 1)).map (z.cells[· % z.cells.size]!)) pv = some cells) : Runs P (.buildSlice t len parts) ty L w (Built w e len cells) := fun o a K Q ho _ hL hK => by
  refine wp_buildSlice t e len parts ho cells ie z hu hie hz (by rw [hsz]; omega) (by rw [hsz]; omega) ?_ (hK _ _ ⟨rfl, rfl⟩)
  rw [hsz, Array.toList_map, show (List.map (fun x : Nat × Operand => match x with | (i, x) => (i, a.eval x)) parts.toList) = parts.toList.map (fun p => (p.1, a.eval p.2)) from rfl, map_eval parts.toList pv (fun p hp v hv => hL p.2 ?_ v hv) hx]
  · exact hf
  · simp only [Op.operands, List.mem_toArray, List.mem_map]; exact ⟨p, hp, rfl⟩
theorem runs_buildNone {t e : TypeId} {ie : TypeInfo} (hu : P.underlying t = some (.slice e)) (hie : P.info? e = some ie) : Runs P (.buildSlice t 0 #[]) ty L w (Built w e 0 #[]) := fun o a K Q ho _ hL hK => by
  unfold Oper.wp execOp
  have : (Instr.buildSlice t 0 (#[] : Array (Nat × Value))).run P w = .ok (.slice (some ⟨w.heap.size, 0, none⟩) 0 0) (w.alloc (.cells #[] e)) := by
    simp [Instr.buildSlice, run_underlying hu, sizeOf, typeInfo, hie, Instr.fill, newRow]
    rw [show Array.range 0 = #[] from Array.eq_empty_of_size_eq_zero (by simp), Array.map_empty]
  simp only [ho, List.map_toArray, List.map_nil, Sem.run_bind, this, Result.andThen_ok]
  exact hK _ _ ⟨rfl, rfl⟩
def Appended (w : World) (base : Nat) (e : TypeId) (v : Value) (k : Nat) (xs : List Value) : Value → World → Prop := fun v' w' => w'.ownsRow base e 1 v' k xs ∧ w.grownBy w' v.ownBlock ∧ v' ≠ .slice none 0 0
theorem runs_append {t e : TypeId} {s x : Operand} {i : TypeInfo} {z v : Value} {bytes base k m c : Nat} {xs news : List Value} {ad : Addr} (ht : P.underlying t = some (.slice e)) (hi : P.info? e = some i) (hz : i.zero = some z)
    (hsize : i.size = 1) (hby : i.bytes = bytes) (hzs : z.cells.size = 1) (hs : vals L s = some v) (hown : w.ownsRow base e 1 v k xs) (hx : vals L x = some (.slice (some ad) m c)) (hl : news.length = m) (hnews : ∀ j u, news[j]? = some u → w.cell? (ad.add j) = some u)
    (h1 : ∀ u ∈ news, u.oneCell' = true) (h63 : k + m ≤ maxLen) (hbytes : (k + m) * bytes ≤ 140737488355328) (hbase : base ≤ w.heap.size) (hm : 0 < m) :
    Runs P (.call { callee := .builtin .append, args := #[s, x], argTypes := #[t, t] }) ty L w (Appended w base e v (k + m) (xs ++ news)) := fun o a K Q ho _ hL hK => by
  refine wp_append_own w s x t ho base e i z 1 bytes ht hi hz hsize hby hzs (by omega) v k xs (hL s (by simp [Op.operands, Call.operands]) v hs) hown ad m c news (hL x (by simp [Op.operands, Call.operands]) _ hx) (by omega) hnews h1 h63 hbytes hbase ?_
  intro v' w' h2 h3 h4
  exact hK v' w' ⟨h2, h3, fun e => by have := (h4.1 e).2; omega⟩
theorem runs_store {t : TypeId} {x y : Operand} {ad : Addr} {v u : Value} (hx : vals L x = some (.pointer (some ad))) (hy : vals L y = some v) (hone : v.oneCell' = true) (hs : (P.info? t).map (·.size) = some 1) (hc : w.cell? ad = some u) (hfr : w.frozen? ad = false) :
    Runs P (.store t x y) ty L w (Is undef (w.setCell ad v)) := fun o a K Q ho _ hL hK => by
  have ex := hL x (by simp [Op.operands]) _ hx
  have ey := hL y (by simp [Op.operands]) _ hy
  obtain ⟨ie, hie⟩ : ∃ ie, P.info? t = some ie := by
    cases h : P.info? t with
    | none => rw [h] at hs; cases hs
    | some ie => exact ⟨ie, rfl⟩
  have hsz : ie.size = 1 := by rw [hie] at hs; simpa using hs
  have hvc : v.cells = #[v] := by cases v <;> first | rfl | simp [Value.oneCell'] at hone
  unfold Oper.wp
  have : (execOp a.eval o).run P w = .ok .skip (w.setCell ad v) := by
    have hst : (store ad v).run P w = .ok () (w.setCell ad v) := by
      rw [run_store P w ad v _ (by cases v <;> first | rfl | simp [Value.oneCell'] at hone)]
      simp [hc, hfr]
    simp only [execOp, ho, ex, ey]
    simp [Instr.storeAt, Instr.sureAddr, storeVar, sizeOf, typeInfo, hie, hsz, hvc, storeCells, show ad.add 0 = ad from rfl, hst]
  rw [this]
  exact hK _ _ ⟨rfl, rfl⟩
end
/-- The region number id. -/
def regionIn (id : Nat) : Code → Option Code
  | .region i ops d => if i = id then some (.region i ops d) else none
  | .block _ c => regionIn id c
  | .loop c => regionIn id c
  | .scope c => regionIn id c
  | .seq a b => match regionIn id a with
    | some c => some c
    | none => regionIn id b
  | .cond _ a b => match regionIn id a with
    | some c => some c
    | none => regionIn id b
  | _ => none
end Go.Proofs.YtooeahpkhocaeaaDoor
/- More laws for walking by facts on slots: a slice of a slice; own rows; what stays. No condition. -/
namespace Go.Proofs.YtooeahpkhocaeaaDoor
open Go.RowKit

section
variable {P : Program} {ops : Array Oper} {L : List (Nat × Value)} {w : World} {n : Nat} {ty : TypeId} {N R : Act → World → Prop} {X : Nat → Act → World → Prop} {a : Act}
theorem nil_ok {ops : Array Oper} (h : N a w) : wpList P ops (Qx N X R) [] a w := h
end
theorem own_form {w : World} {base : Nat} {e : TypeId} {v : Value} {n : Nat} {xs : List Value} (h : w.ownsRow base e 1 v n xs) (hne : v ≠ .slice none 0 0) :
    ∃ g cap, v = .slice (some ⟨g, 0, none⟩) n cap ∧ base ≤ g ∧ g < w.heap.size ∧ n ≤ cap ∧ cap ≤ maxLen ∧ w.rangeAt g 0 xs := by
  rcases h.2 with ⟨h0, _⟩ | ⟨g, cap, cur, rfl, hb, hg, hn, hm, _⟩
  · exact absurd h0 hne
  · refine ⟨g, cap, rfl, hb, (Array.getElem?_eq_some_iff.1 hg).1, hn, hm, fun j u hu => ?_⟩
    have := h.cells (g := g) rfl j u hu
    rwa [show (⟨g, 0, none⟩ : Addr).add j = ⟨g, 0 + j, none⟩ from by unfold Addr.add; split <;> simp_all] at this
theorem Drawn.below {V w : World} (h : Drawn V w) (B : Nat) : Below B V w := by obtain ⟨k, rfl⟩ := h; exact ⟨rfl, rfl, rfl, Nat.le_refl _, fun _ _ => rfl⟩
theorem Drawn.size {V w : World} (h : Drawn V w) : w.heap.size = V.heap.size := by obtain ⟨k, rfl⟩ := h; rfl
theorem Drawn.heap {V w : World} (h : Drawn V w) : w.heap = V.heap := by obtain ⟨k, rfl⟩ := h; rfl
theorem range_below {B : Nat} {w w' : World} {b o : Nat} {cs : List Value} (h : w.rangeAt b o cs) (k : Below B w w') (hb : b < B) : w'.rangeAt b o cs := fun j v hv => by
  rw [k.cell (p := ⟨b, o + j, none⟩) hb]; exact h j v hv
theorem below_grown {B : Nat} {a w w' : World} {r : Option Nat} (h : Below B a w) (k : w.grownBy w' r) (hr : ∀ g, r = some g → B ≤ g) (hB : B ≤ w.heap.size) : Below B a w' :=
  ⟨k.os.trans h.os, k.tape.trans h.tape, k.output.trans h.output, Nat.le_trans h.size k.size, fun i hi => (k.block i (by omega) (fun e => by have := hr i e.symm; omega)).trans (h.block i hi)⟩
theorem add_zero_addr (g j : Nat) : (⟨g, 0, none⟩ : Addr).add j = ⟨g, 0 + j, none⟩ := by unfold Addr.add; split <;> simp_all
end Go.Proofs.YtooeahpkhocaeaaDoor
/- More laws for walking by facts on slots: guards, picks, boxes, rows of an array's cells, functions as values, results. No condition. -/
namespace Go.Proofs.YtooeahpkhocaeaaDoor
open Go.RowKit

section
variable {P : Program} {ops : Array Oper} {L : List (Nat × Value)} {w : World} {n : Nat} {ty : TypeId} {N R : Act → World → Prop} {X : Nat → Act → World → Prop} {a : Act} {Q : Exit → Act → World → Prop}
theorem qx_ret (h : R a w) : Code.ret.wp P (Qx N X R) a w := wp_ret h
theorem yielded_of {j d : Nat} {b : Bool} (ho : (ops[j]?).bind (·.dst) = some d) (hS : Sees n L a) (hd : d < n) (hv : look L d = some (.bool b)) : yielded ops a.tmps j = some b := by
  have h := hS.2.2 d _ hv
  have hd' : d < a.tmps.size := by rw [hS.1]; exact hd
  have h2 : a.tmps[d]? = some (.bool b) := by
    rw [Array.getElem?_eq_getElem hd']
    have : a.tmps[d] = .bool b := by simpa [hd'] using h
    rw [this]
  simp only [yielded, ho, Option.bind_some, h2]
/-- A guarded operation that is wanted. -/
theorem seq_yes {op : Op} {pos : String} {aft : Array Edge} {d j dj : Nat} {b : Bool} {rest : List Oper} {Post : Value → World → Prop} (hS : Sees n L a) (hd : d < n) (ho : (ops[j]?).bind (·.dst) = some dj) (hdj : dj < n) (hv : look L dj = some (.bool b)) (hr : Runs P op ty L w Post)
    (h : ∀ v w' a', Post v w' → Sees n ((d, v) :: L) a' → wpList P ops Q rest a' w') : wpList P ops Q (⟨some d, op, ty, pos, aft, some (j, b)⟩ :: rest) a w := by
  unfold wpList
  rw [if_pos (by simp [Region.wanted, yielded_of ho hS hdj hv])]
  exact .inl (hr _ a _ Q rfl rfl (fun _ _ _ hv => hS.eval hv) fun v w' hp => h v w' _ hp (hS.put hd v))
theorem seq_yis {op : Op} {pos : String} {aft : Array Edge} {d j dj : Nat} {b : Bool} {rest : List Oper} {v : Value} {w' : World} (hS : Sees n L a) (hd : d < n) (ho : (ops[j]?).bind (·.dst) = some dj) (hdj : dj < n) (hv : look L dj = some (.bool b)) (hr : Runs P op ty L w (Is v w'))
    (h : ∀ a', Sees n ((d, v) :: L) a' → wpList P ops Q rest a' w') : wpList P ops Q (⟨some d, op, ty, pos, aft, some (j, b)⟩ :: rest) a w :=
  seq_yes hS hd ho hdj hv hr fun v' w1 a' hp hS' => by obtain ⟨rfl, rfl⟩ := hp; exact h a' hS'
/-- A guarded operation that is not wanted. -/
theorem seq_no {op : Op} {pos : String} {aft : Array Edge} {d j dj : Nat} {b c : Bool} {rest : List Oper} (hS : Sees n L a) (hd : d < n) (ho : (ops[j]?).bind (·.dst) = some dj) (hdj : dj < n) (hv : look L dj = some (.bool c)) (hne : (c == b) = false)
    (h : ∀ a', Sees n ((d, undef) :: L) a' → wpList P ops Q rest a' w) : wpList P ops Q (⟨some d, op, ty, pos, aft, some (j, b)⟩ :: rest) a w := by
  unfold wpList
  rw [if_neg (by
    have hy := yielded_of ho hS hdj hv
    simp only [Region.wanted, hy]
    cases c <;> cases b <;> simp at hne ⊢)]
  exact h _ (hS.put hd undef)
theorem runs_not {t : TypeId} {x : Operand} {b : Bool} (hx : vals L x = some (.bool b)) : Runs P (.unOp .not t x) ty L w (Is (.bool !b) w) := fun o a K Q ho _ hL hK => by
  have ex := hL x (by simp [Op.operands]) _ hx
  unfold Oper.wp
  simp [execOp, ho, ex, Op.unary]
  exact hK _ _ ⟨rfl, rfl⟩
theorem runs_pick {c x y : Operand} {b : Bool} {v : Value} (hc : vals L c = some (.bool b)) (hv : vals L (if b then x else y) = some v) : Runs P (.pick c x y) ty L w (Is v w) := fun o a K Q ho _ hL hK => by
  have ec := hL c (by simp [Op.operands]) _ hc
  have ev : a.eval (if b then x else y) = v := hL _ (by cases b <;> simp [Op.operands]) _ hv
  unfold Oper.wp
  simp only [execOp, ho, ec, asBool]
  cases b <;> simp_all <;> exact hK _ _ ⟨rfl, rfl⟩
theorem runs_extract {x : Operand} {vs : Array Value} {i : Nat} {v : Value} (hx : vals L x = some (.tuple vs)) (hv : vs[i]? = some v) : Runs P (.extract x i) ty L w (Is v w) := fun o a K Q ho _ hL hK => by
  have ex := hL x (by simp [Op.operands]) _ hx
  unfold Oper.wp
  simp [execOp, ho, ex, Instr.extract, hv]
  exact hK _ _ ⟨rfl, rfl⟩
def Boxed (w : World) (t : TypeId) (cs : Array Value) : Value → World → Prop := fun v w' => v = .pointer (some ⟨w.heap.size, 0, none⟩) ∧ w' = w.alloc (.cells cs t)
theorem runs_box {t : TypeId} {x : Operand} {v : Value} (hx : vals L x = some v) : Runs P (.box t x) ty L w (Boxed w t v.cells) := fun o a K Q ho _ hL hK => by
  have ex := hL x (by simp [Op.operands]) _ hx
  unfold Oper.wp
  simp [execOp, ho, ex, Instr.box, newVar, newRow]
  exact hK _ _ ⟨rfl, rfl⟩
theorem runs_alloc {t : TypeId} {ie : TypeInfo} {z : Value} (hi : P.info? t = some ie) (hz : ie.zero = some z) : Runs P (.alloc t) ty L w (Boxed w t z.cells) := fun o a K Q ho _ _ hK => by
  unfold Oper.wp
  simp [execOp, ho, Instr.alloc, zeroValue, typeInfo, hi, hz, newVar, newRow]
  exact hK _ _ ⟨rfl, rfl⟩
/-- All cells of a block, as one value. -/
theorem runs_loadRow {t te : TypeId} {x : Operand} {g : Nat} {cs : List Value} {d : TypeDesc} (hx : vals L x = some (.pointer (some ⟨g, 0, none⟩))) (hg : Has w g te cs) (hu : P.underlying t = some d) (hd : (match d with | .struct _ | .array _ _ => true | _ => false) = true) (hi : (P.info? t).map (·.size) = some cs.length) :
    Runs P (.load t x) ty L w (Is (.agg cs.toArray) w) := fun o a K Q ho _ hL hK => by
  have ex := hL x (by simp [Op.operands]) _ hx
  unfold Oper.wp
  have : (execOp a.eval o).run P w = .ok (.value (.agg cs.toArray)) w := by
    have := run_loadVar_row (P := P) w g te t cs.toArray (0, 0) d hg hu hd (by simpa using hi)
    simp [execOp, ho, ex, Instr.loadAt, Instr.sureAddr, this]
  rw [this]
  exact hK _ _ ⟨rfl, rfl⟩
/-- Some cells in the midst of a block, as one value. -/
theorem runs_loadMid {t : TypeId} {x : Operand} {g o' : Nat} {cs : List Value} {d : TypeDesc} (hx : vals L x = some (.pointer (some ⟨g, o', none⟩))) (hg : w.rangeAt g o' cs) (hu : P.underlying t = some d) (hd : d.isRow = true) (hi : (P.info? t).map (·.size) = some cs.length) :
    Runs P (.load t x) ty L w (Is (.agg cs.toArray) w) := fun o a K Q ho _ hL hK => by
  have ex := hL x (by simp [Op.operands]) _ hx
  unfold Oper.wp
  have : (execOp a.eval o).run P w = .ok (.value (.agg cs.toArray)) w := by
    have := run_loadVar_mid (P := P) w g o' t cs d hg hu hd hi
    simp [execOp, ho, ex, Instr.loadAt, Instr.sureAddr, this]
  rw [this]
  exact hK _ _ ⟨rfl, rfl⟩
theorem runs_storeRow {t te : TypeId} {x y : Operand} {g : Nat} {old : List Value} {cs : Array Value} (hx : vals L x = some (.pointer (some ⟨g, 0, none⟩))) (hy : vals L y = some (.agg cs)) (hg : Has w g te old) (hl : old.length = cs.size) (hone : cs.all (·.oneCell') = true) (hi : (P.info? t).map (·.size) = some cs.size) :
    Runs P (.store t x y) ty L w (Is undef (w.setRow g cs)) := fun o a K Q ho _ hL hK => by
  have ex := hL x (by simp [Op.operands]) _ hx
  have ey := hL y (by simp [Op.operands]) _ hy
  unfold Oper.wp
  have : (execOp a.eval o).run P w = .ok .skip (w.setRow g cs) := by
    have := run_storeVar_row (P := P) w g te t old.toArray cs hg hi (by simpa using hl) hone
    simp [execOp, ho, ex, ey, Instr.storeAt, Instr.sureAddr, this]
  rw [this]
  exact hK _ _ ⟨rfl, rfl⟩
theorem has_setRow {g : Nat} {t : TypeId} {old : List Value} {cs : List Value} (h : Has w g t old) : Has (w.setRow g cs.toArray) g t cs := setRow_heap w g _ cs.toArray t _ h
/-- An array's cells as a slice. -/
theorem runs_sliceArr {t e : TypeId} {x : Operand} {g m : Nat} (hx : vals L x = some (.pointer (some ⟨g, 0, none⟩))) (hu : P.underlying t = some (.array m e)) (hs : (P.info? e).map (·.size) = some 1) :
    Runs P (.slice t x none none none) ty L w (Is (.slice (some ⟨g, 0, none⟩) m m) w) := fun o a K Q ho _ hL hK => by
  have ex := hL x (by simp [Op.operands]) _ hx
  obtain ⟨ie, hie⟩ : ∃ ie, P.info? e = some ie := by
    cases h : P.info? e with
    | none => rw [h] at hs; cases hs
    | some ie => exact ⟨ie, rfl⟩
  unfold Oper.wp
  have : (execOp a.eval o).run P w = .ok (.value (.slice (some ⟨g, 0, none⟩) m m)) w := by
    simp [execOp, ho, ex, Instr.sliceAt, run_underlying hu, Instr.sureAddr, Instr.sliceBounds, sizeOf, typeInfo, hie]
    by_cases h0 : m = 0 <;> simp [Addr.add]
  rw [this]
  exact hK _ _ ⟨rfl, rfl⟩
theorem runs_makeFunc {f : FuncId} {xs : Array Operand} {cs : List Value} (hx : xs.toList.map (vals L) = cs.map some) : Runs P (.makeFunc (.func f) #[] xs) ty L w (Is (.func (.func f) #[] cs.toArray) w) := fun o a K Q ho _ hL hK => by
  have ea : xs.map a.eval = cs.toArray := by
    apply Array.toList_inj.1
    rw [Array.toList_map]
    have : ∀ (ys : List Operand) (us : List Value), (∀ X ∈ ys, X ∈ xs) → ys.map (vals L) = us.map some → ys.map a.eval = us := by
      intro ys
      induction ys with
      | nil => intro us _ h; cases us with | nil => rfl | cons _ _ => simp at h
      | cons y ys ih =>
        intro us hm h
        cases us with
        | nil => simp at h
        | cons v us =>
          simp only [List.map_cons, List.cons.injEq] at h ⊢
          exact ⟨hL y (by simp only [Op.operands, Array.mem_append]; right; exact hm y (by simp)) v h.1, ih us (fun X hX => hm X (by simp [hX])) h.2⟩
    exact this xs.toList cs (fun X hX => by simpa using hX) hx
  unfold Oper.wp
  simp [execOp, ho, Instr.makeFunc, ea]
  exact hK _ _ ⟨rfl, rfl⟩
/-- A call of a function value. -/
theorem runs_callv {f : FuncId} {F : Operand} {xs : Array Operand} {ts : Array TypeId} {args caps : List Value} {Post : Value → World → Prop} (hg : Goes P f) (hF : vals L F = some (.func (.func f) #[] caps.toArray)) (hx : xs.toList.map (vals L) = args.map some)
    (hc : Calls P f (args ++ caps).toArray w fun e w' => ∃ v, e = .returned v ∧ Post v w') : Runs P (.call { callee := .value F, args := xs, argTypes := ts }) ty L w Post := fun o a K Q ho _ hL hK => by
  have ea : xs.map a.eval = args.toArray := by
    apply Array.toList_inj.1
    rw [Array.toList_map]
    have : ∀ (ys : List Operand) (us : List Value), (∀ X ∈ ys, X ∈ xs) → ys.map (vals L) = us.map some → ys.map a.eval = us := by
      intro ys
      induction ys with
      | nil => intro us _ h; cases us with | nil => rfl | cons _ _ => simp at h
      | cons y ys ih =>
        intro us hm h
        cases us with
        | nil => simp at h
        | cons v us =>
          simp only [List.map_cons, List.cons.injEq] at h ⊢
          exact ⟨hL y (by simp only [Op.operands, Call.operands, Array.mem_append]; right; exact hm y (by simp)) v h.1, ih us (fun X hX => hm X (by simp [hX])) h.2⟩
    exact this xs.toList args (fun X hX => by simpa using hX) hx
  have eF := hL F (by simp [Op.operands, Call.operands]) _ hF
  unfold Oper.wp
  have : (execOp a.eval o).run P w = .ok (.enter f (args ++ caps).toArray) w := by
    simp only [execOp, ho]
    simp [resolve, Deferred.ofValue, invoke, eF, ea]
    exact hg _ _
  rw [this]
  refine hc.mono ?_
  rintro e w' ⟨v, rfl, hp⟩
  exact hK v w' hp
end
/-! ### the whole of a function -/
def argL : Nat → List Value → List (Nat × Value)
  | _, [] => []
  | i, v :: vs => (i, v) :: argL (i + 1) vs
theorem argL_look : ∀ (vs : List Value) (i k : Nat) (v : Value), look (argL i vs) k = some v → i ≤ k ∧ vs[k - i]? = some v
  | [], _, _, _, h => by cases h
  | u :: vs, i, k, v, h => by
    rw [argL, look_cons] at h
    by_cases hik : i = k
    · subst hik
      rw [if_pos rfl] at h
      exact ⟨Nat.le_refl _, by simpa using h⟩
    · rw [if_neg hik] at h
      obtain ⟨h1, h2⟩ := argL_look vs (i + 1) k v h
      refine ⟨by omega, ?_⟩
      rw [show k - i = (k - (i + 1)) + 1 by omega]
      simpa using h2
/-- What a body must come to. -/
def Rets (P : Program) (fn : Func) (R : Ending → World → Prop) (a : Act) (w : World) : Prop := a.defers = [] ∧ ∃ v, (results fn a.tmps).run P w = .ok v w ∧ R (.returned v) w
theorem calls_qx {P : Program} {f : FuncId} {fn : Func} {c : Code} {args : List Value} {w : World} {R : Ending → World → Prop} (n : Nat) (hf : P.funcs[f]? = some fn) (hb : fn.body = some c) (hn : fn.ntmps = n) (hsz : args.length ≤ n)
    (h : ∀ a, Sees n (argL 0 args) a → c.wp P (Qx (Rets P fn R) (fun _ _ _ => False) (Rets P fn R)) a w) : Calls P f args.toArray w R := by
  refine calls_of_wp hf hb (wp_mono (h _ ⟨by simp [hn]; omega, rfl, fun k v hk => ?_⟩) fun e a w hq => ?_)
  · obtain ⟨_, h2⟩ := argL_look args 0 k v hk
    rw [Nat.sub_zero] at h2
    have hk2 := (List.getElem?_eq_some_iff.1 h2).1
    simp [Array.getElem?_append, hk2]
    have := (List.getElem?_eq_some_iff.1 h2).2
    rw [this]
  · cases e <;> first | exact hq | exact hq.elim
section
variable {P : Program} {fn : Func} {R : Ending → World → Prop} {n : Nat} {L : List (Nat × Value)} {a : Act} {w : World}
theorem ret1 {t : Nat} {v : Value} (hr : fn.results = #[.tmp t]) (hS : Sees n L a) (hv : look L t = some v) (hR : R (.returned v) w) : Rets P fn R a w := by
  refine ⟨hS.2.1, v, ?_, hR⟩
  have := hS.2.2 t v hv
  simp [results, hr]
  simpa using this
theorem ret2 {t u : Nat} {v v' : Value} (hr : fn.results = #[.tmp t, .tmp u]) (hS : Sees n L a) (hv : look L t = some v) (hv' : look L u = some v') (hR : R (.returned (.tuple #[v, v'])) w) : Rets P fn R a w := by
  refine ⟨hS.2.1, _, ?_, hR⟩
  have h1 := hS.2.2 t v hv
  have h2 := hS.2.2 u v' hv'
  rw [results_tmp2 hr, h1, h2]
theorem retRow {t te ty : TypeId} {p g : Nat} {cs : List Value} {d : TypeDesc} (hr : fn.results = #[.cell p ty]) (hS : Sees n L a) (hp : look L p = some (.pointer (some ⟨g, 0, none⟩))) (hg : Has w g te cs) (_ht : t = t) (hu : P.underlying ty = some d) (hd : (match d with | .struct _ | .array _ _ => true | _ => false) = true) (hi : (P.info? ty).map (·.size) = some cs.length)
    (hR : R (.returned (.agg cs.toArray)) w) : Rets P fn R a w :=
  ⟨hS.2.1, _, results_cell_row hr a.tmps w g te cs.toArray (0, 0) d (hS.2.2 p _ hp) hg hu hd (by simpa using hi), hR⟩
end
end Go.Proofs.YtooeahpkhocaeaaDoor
/- A region that draws its order and only adds to memory: each operation is looked at once; of what it yields the value is known, or a property that memory's growth keeps. Conditions: one check on the region's shape. -/
namespace Go.Proofs.YtooeahpkhocaeaaDoor
open Go.RowKit

/-- It waits for number j. -/
def depOn (o : Oper) (j : Nat) : Bool := o.after.any (fun e => Region.binds .any e && Nat.beq e.on j)
/-- What is said of an operation's value: itself, or a property. -/
abbrev Say := Sum Value (Value → World → Prop)
def Say.holds : Say → Value → World → Prop
  | .inl u, v, _ => v = u
  | .inr p, v, w => p v w
def Say.stable : Say → Prop
  | .inl _ => True
  | .inr p => ∀ v w w', p v w → Below w.heap.size w w' → p v w'
theorem Say.grow {s : Say} (h : s.stable) {v : Value} {w w' : World} (hv : s.holds v w) (k : Below w.heap.size w w') : s.holds v w' := by
  cases s with
  | inl u => exact hv
  | inr p => exact h v w w' hv k
def Say.next (s : Say) (i : Nat) (k : Value → List (Nat × (World → Prop)) → Prop) (ps : List (Nat × (World → Prop))) : Prop :=
  match s with
  | .inl u => k u ps
  | .inr p => ∀ v, k v ((i, p v) :: ps)
/-- The properties of the first i. -/
def psUpto (l0 : Array Bool) (prs : List Say) (vs : Nat → Value) : Nat → List (Nat × (World → Prop))
  | 0 => []
  | i + 1 => if l0.getD i true = true then psUpto l0 prs vs i else match prs[i]? with
    | some (.inr p) => (i, p (vs i)) :: psUpto l0 prs vs i
    | _ => psUpto l0 prs vs i
theorem psUpto_mem (l0 : Array Bool) (prs : List Say) (vs : Nat → Value) : ∀ (i : Nat) (q : Nat × (World → Prop)), q ∈ psUpto l0 prs vs i → q.1 < i ∧ l0.getD q.1 true = false ∧ ∃ p, prs[q.1]? = some (.inr p) ∧ q.2 = p (vs q.1)
  | 0, q, h => by cases h
  | i + 1, q, h => by
    rw [psUpto] at h
    split at h
    · obtain ⟨h1, h2⟩ := psUpto_mem l0 prs vs i q h
      exact ⟨by omega, h2⟩
    · rename_i hl
      split at h
      · rename_i p hp
        rcases List.mem_cons.1 h with rfl | h
        · exact ⟨by simp, by simpa using hl, p, hp, rfl⟩
        · obtain ⟨h1, h2⟩ := psUpto_mem l0 prs vs i q h
          exact ⟨by omega, h2⟩
      · obtain ⟨h1, h2⟩ := psUpto_mem l0 prs vs i q h
        exact ⟨by omega, h2⟩
/-- Values that are what is said of them, where it is a value. -/
def Fits (l0 : Array Bool) (prs : List Say) (vs : Nat → Value) : Prop := ∀ (j : Nat) u, l0.getD j true = false → prs[j]? = some (.inl u) → vs j = u
structure Po3 (ops : Array Oper) (prs : List Say) (m : Nat) (a0 : Act) (l0 : Array Bool) (listed : Array Bool) (a : Act) (w : World) : Prop where
  size : listed.size = ops.size
  tmps : a.tmps.size = a0.tmps.size
  defers : a.defers = a0.defers
  pre : ∀ i, l0.getD i true = true → listed.getD i true = true
  has : ∀ i, i < m → l0.getD i true = false → listed.getD i true = true → ∃ s, prs[i]? = some s ∧ s.stable ∧ s.holds (a.tmps.getD (dstOf ops i) undef) w
  old : ∀ d, (∀ i, i < m → l0.getD i true = false → dstOf ops i ≠ d) → a.tmps.getD d undef = a0.tmps.getD d undef
  tail : ∀ i, m ≤ i → i < ops.size → listed.getD i true = false
  closed : Closed .any ops (fun i => listed.getD i false)
end Go.Proofs.YtooeahpkhocaeaaDoor
/- A region that draws its order, with guards, and only adds to memory: each operation is looked at once; of what it yields the value is known, or a property that memory's growth keeps. Conditions: one check on the region's shape. -/
namespace Go.Proofs.YtooeahpkhocaeaaDoor
open Go.RowKit

/-- What an operation that is wanted must do. -/
def HOk (P : Program) (C : World → Prop) (o : Oper) (s : Say) (L : List (Nat × Value)) (ps : List (Nat × (World → Prop))) : Prop :=
  s.stable ∧ (∀ w, C w → (∀ q ∈ ps, depOn o q.1 = true → q.2 w) → Runs P o.op o.type L w (fun v w' => s.holds v w' ∧ C w' ∧ Below w.heap.size w w'))
def HWant (P : Program) (C : World → Prop) (D : Nat → Nat) (o : Oper) (s : Say) (L : List (Nat × Value)) (ps : List (Nat × (World → Prop))) : Prop :=
  match o.guard with
  | none => HOk P C o s L ps
  | some (j, b) => ∃ c, look L (D j) = some (.bool c) ∧ (c = b → HOk P C o s L ps) ∧ (c ≠ b → s = .inl undef)
def HSeq (P : Program) (C : World → Prop) (D : Nat → Nat) (l0 : Array Bool) (F : List (Nat × Value) → List (Nat × (World → Prop)) → Prop) : List Oper → List Say → Nat → List (Nat × Value) → List (Nat × (World → Prop)) → Prop
  | [], _, _, L, ps => F L ps
  | _ :: _, [], _, _, _ => False
  | o :: os, s :: prs, i, L, ps => if l0.getD i true = true then HSeq P C D l0 F os prs (i + 1) L ps else
      HWant P C D o s L ps ∧
      s.next i (fun v ps' => HSeq P C D l0 F os prs (i + 1) (((o.dst).getD 0, v) :: L) ps') ps
section
variable {P : Program} {C : World → Prop} {l0 : Array Bool} {F : List (Nat × Value) → List (Nat × (World → Prop)) → Prop} {o : Oper} {os : List Oper} {prs : List Say} {i : Nat} {L : List (Nat × Value)} {ps : List (Nat × (World → Prop))}
variable {D : Nat → Nat}
variable {d : Nat} {op : Op} {ty : TypeId} {pos : String} {aft : Array Edge}
theorem hok_is {u : Value} {g : Option (Nat × Bool)} (hr : ∀ w, C w → Runs P op ty L w (Is u w)) : HOk P C ⟨some d, op, ty, pos, aft, g⟩ (.inl u) L ps :=
  ⟨trivial, fun w hC _ => (hr w hC).mono fun v w' ⟨h1, h2⟩ => ⟨h1, by rw [h2]; exact hC, by rw [h2]; exact Below.refl _ _⟩⟩
/-- Its value is known; it leaves the world. -/
theorem hs_is {u : Value} (hl : l0.getD i true = false) (hr : ∀ w, C w → Runs P op ty L w (Is u w)) (h : HSeq P C D l0 F os prs (i + 1) ((d, u) :: L) ps) :
    HSeq P C D l0 F (⟨some d, op, ty, pos, aft, none⟩ :: os) (.inl u :: prs) i L ps := by
  rw [HSeq, if_neg (by rw [hl]; simp)]
  exact ⟨hok_is hr, h⟩
/-- Its value is known; it adds to memory. -/
theorem hs_val {u : Value} (hl : l0.getD i true = false) (hr : ∀ w, C w → (∀ q ∈ ps, depOn ⟨some d, op, ty, pos, aft, none⟩ q.1 = true → q.2 w) → Runs P op ty L w (fun v w' => v = u ∧ C w' ∧ Below w.heap.size w w')) (h : HSeq P C D l0 F os prs (i + 1) ((d, u) :: L) ps) :
    HSeq P C D l0 F (⟨some d, op, ty, pos, aft, none⟩ :: os) (.inl u :: prs) i L ps := by
  rw [HSeq, if_neg (by rw [hl]; simp)]
  exact ⟨⟨trivial, hr⟩, h⟩
theorem hs_pr {p : Value → World → Prop} (hl : l0.getD i true = false) (hst : ∀ v w w', p v w → Below w.heap.size w w' → p v w')
    (hr : ∀ w, C w → (∀ q ∈ ps, depOn ⟨some d, op, ty, pos, aft, none⟩ q.1 = true → q.2 w) → Runs P op ty L w (fun v w' => p v w' ∧ C w' ∧ Below w.heap.size w w')) (h : ∀ v, HSeq P C D l0 F os prs (i + 1) ((d, v) :: L) ((i, p v) :: ps)) :
    HSeq P C D l0 F (⟨some d, op, ty, pos, aft, none⟩ :: os) (.inr p :: prs) i L ps := by
  rw [HSeq, if_neg (by rw [hl]; simp)]
  exact ⟨⟨hst, hr⟩, h⟩
variable {j : Nat} {b : Bool}
/-- The same, guarded and wanted. -/
theorem hs_yis {u : Value} (hl : l0.getD i true = false) (hg : look L (D j) = some (.bool b)) (hr : ∀ w, C w → Runs P op ty L w (Is u w)) (h : HSeq P C D l0 F os prs (i + 1) ((d, u) :: L) ps) :
    HSeq P C D l0 F (⟨some d, op, ty, pos, aft, some (j, b)⟩ :: os) (.inl u :: prs) i L ps := by
  rw [HSeq, if_neg (by rw [hl]; simp)]
  exact ⟨⟨b, hg, fun _ => hok_is hr, fun h => absurd rfl h⟩, h⟩
theorem hs_yval {u : Value} (hl : l0.getD i true = false) (hg : look L (D j) = some (.bool b)) (hr : ∀ w, C w → (∀ q ∈ ps, depOn ⟨some d, op, ty, pos, aft, some (j, b)⟩ q.1 = true → q.2 w) → Runs P op ty L w (fun v w' => v = u ∧ C w' ∧ Below w.heap.size w w')) (h : HSeq P C D l0 F os prs (i + 1) ((d, u) :: L) ps) :
    HSeq P C D l0 F (⟨some d, op, ty, pos, aft, some (j, b)⟩ :: os) (.inl u :: prs) i L ps := by
  rw [HSeq, if_neg (by rw [hl]; simp)]
  exact ⟨⟨b, hg, fun _ => ⟨trivial, hr⟩, fun h => absurd rfl h⟩, h⟩
theorem hs_ypr {p : Value → World → Prop} (hl : l0.getD i true = false) (hg : look L (D j) = some (.bool b)) (hst : ∀ v w w', p v w → Below w.heap.size w w' → p v w')
    (hr : ∀ w, C w → (∀ q ∈ ps, depOn ⟨some d, op, ty, pos, aft, some (j, b)⟩ q.1 = true → q.2 w) → Runs P op ty L w (fun v w' => p v w' ∧ C w' ∧ Below w.heap.size w w')) (h : ∀ v, HSeq P C D l0 F os prs (i + 1) ((d, v) :: L) ((i, p v) :: ps)) :
    HSeq P C D l0 F (⟨some d, op, ty, pos, aft, some (j, b)⟩ :: os) (.inr p :: prs) i L ps := by
  rw [HSeq, if_neg (by rw [hl]; simp)]
  exact ⟨⟨b, hg, fun _ => ⟨hst, hr⟩, fun h => absurd rfl h⟩, h⟩
/-- Guarded and not wanted. -/
theorem hs_no {c : Bool} (hl : l0.getD i true = false) (hg : look L (D j) = some (.bool c)) (hne : (c == b) = false) (h : HSeq P C D l0 F os prs (i + 1) ((d, undef) :: L) ps) :
    HSeq P C D l0 F (⟨some d, op, ty, pos, aft, some (j, b)⟩ :: os) (.inl undef :: prs) i L ps := by
  rw [HSeq, if_neg (by rw [hl]; simp)]
  exact ⟨⟨c, hg, fun h => by rw [h] at hne; simp at hne, fun _ => rfl⟩, h⟩
end
theorem hseq_all {P : Program} {C : World → Prop} {l0 : Array Bool} {F : List (Nat × Value) → List (Nat × (World → Prop)) → Prop} {ops : Array Oper} {L : List (Nat × Value)} {D : Nat → Nat} (prs : List Say) (m : Nat) (hm : m ≤ ops.size) (vs : Nat → Value) (hfit : Fits l0 prs vs) :
    ∀ (r i : Nat), i + r = m → HSeq P C D l0 F ((ops.toList.drop i).take r) (prs.drop i) i (envUpto ops l0 vs L i) (psUpto l0 prs vs i) →
      (∀ j o, i ≤ j → j < m → ops[j]? = some o → l0.getD j true = false → ∃ s, prs[j]? = some s ∧ HWant P C D o s (envUpto ops l0 vs L j) (psUpto l0 prs vs j)) ∧ F (envUpto ops l0 vs L m) (psUpto l0 prs vs m) := by
  intro r
  induction r with
  | zero =>
    intro i hi h
    obtain rfl : i = m := by omega
    rw [List.take_zero] at h
    exact ⟨fun j o h1 h2 => by omega, by cases hp : prs.drop i <;> (rw [hp] at h; exact h)⟩
  | succ r ih =>
    intro i hi h
    have hil : i < ops.toList.length := by rw [Array.length_toList]; omega
    rw [List.drop_eq_getElem_cons hil, List.take_succ_cons] at h
    have hoi : ops[i]? = some ops.toList[i] := by rw [Array.getElem?_eq_getElem (by simpa using hil)]; simp
    by_cases hpl : i < prs.length
    · rw [List.drop_eq_getElem_cons hpl, HSeq] at h
      have hpi : prs[i]? = some prs[i] := List.getElem?_eq_getElem hpl
      by_cases hl : l0.getD i true = true
      · rw [if_pos hl] at h
        have he : envUpto ops l0 vs L (i + 1) = envUpto ops l0 vs L i := by rw [envUpto, if_pos hl]
        have hq : psUpto l0 prs vs (i + 1) = psUpto l0 prs vs i := by rw [psUpto, if_pos hl]
        rw [← he, ← hq] at h
        obtain ⟨h2, h3⟩ := ih (i + 1) (by omega) h
        refine ⟨fun j o hj hjm ho hf => ?_, h3⟩
        by_cases e : j = i
        · subst e; rw [hl] at hf; cases hf
        · exact h2 j o (by omega) hjm ho hf
      · rw [if_neg hl] at h
        have hlf : l0.getD i true = false := by simpa using hl
        obtain ⟨hwt, h⟩ := h
        have hdst : (ops.toList[i].dst).getD 0 = dstOf ops i := by unfold dstOf; rw [hoi]; rfl
        have he : envUpto ops l0 vs L (i + 1) = (dstOf ops i, vs i) :: envUpto ops l0 vs L i := by rw [envUpto, if_neg hl]
        have h' : HSeq P C D l0 F ((ops.toList.drop (i + 1)).take r) (prs.drop (i + 1)) (i + 1) (envUpto ops l0 vs L (i + 1)) (psUpto l0 prs vs (i + 1)) := by
          rw [he, psUpto, if_neg hl, hpi]
          cases hs : prs[i] with
          | inl u =>
            rw [hs] at h
            have : vs i = u := hfit i u hlf (by rw [hpi, hs])
            rw [this, ← hdst]
            exact h
          | inr p =>
            rw [hs] at h
            rw [← hdst]
            exact h (vs i)
        obtain ⟨h2, h3⟩ := ih (i + 1) (by omega) h'
        refine ⟨fun j o hj hjm ho hf => ?_, h3⟩
        by_cases e : j = i
        · subst e
          rw [hoi] at ho
          obtain rfl := Option.some.inj ho
          exact ⟨_, hpi, hwt⟩
        · exact h2 j o (by omega) hjm ho hf
    · rw [show prs.drop i = [] from List.drop_eq_nil_of_le (by omega), HSeq] at h
      exact h.elim
/-- All that is asked of the region's shape; guards may be there. -/
def chkGuard (ops : Array Oper) (n m : Nat) (l0 : Array Bool) : Bool :=
  decide (m ≤ ops.size) && decide (l0.size = ops.size) &&
  (List.range ops.size).all (fun i => match ops[i]? with | some o => o.after.all (fun e => !Region.binds .any e || decide (e.on < i)) | none => true) &&
  (List.range m).all (fun i => l0.getD i true || match ops[i]? with
    | some o => (match o.guard with | none => true | some (j, _) => decide (j < m) && !l0.getD j true && depOn o j) && (match o.dst with | some d => decide (d < n) | none => false) &&
        o.op.operands.all (fun X => match X with | .tmp k => (List.range m).all (fun j => l0.getD j true || !(Nat.beq (dstOf ops j) k) || o.after.any (fun e => Region.binds .any e && Nat.beq e.on j)) | _ => true)
    | none => false) &&
  (List.range m).all (fun i => (List.range m).all (fun j => l0.getD i true || l0.getD j true || Nat.beq i j || !(Nat.beq (dstOf ops i) (dstOf ops j)))) &&
  (List.range m).all (fun i => l0.getD i true || Nat.beq m ops.size || marks .any ops (m + 1) (fun j => Nat.beq j m) i) &&
  (List.range ops.size).all (fun j => decide (j < m) || (!l0.getD j true && (Nat.beq j m || match ops[j]? with | some o => o.after.any (fun e => Region.binds .any e && decide (m ≤ e.on)) | none => true))) &&
  (List.range ops.size).all (fun i => !l0.getD i false || match ops[i]? with | some o => o.after.all (fun e => !Region.binds .any e || l0.getD e.on false) | none => true)
section
variable {P : Program} {ops : Array Oper} {Q : Exit → Act → World → Prop} {S : World → Prop} {L : List (Nat × Value)} {n : Nat}
theorem draw_guard (prs : List Say) (m : Nat) (C : World → Prop) (l0 : Array Bool) (k F : Nat) {a0 : Act} {w : World} (hchk : chkGuard ops n m l0 = true) (hk : (List.range m).countP (fun i => !l0.getD i true) = k) (hS : ∀ w, C w → S w) (hC : C w) (hL : Sees n L a0)
    (h : HSeq P C (dstOf ops) l0 (fun L' ps => ∀ a w, Sees n L' a → C w → (∀ q ∈ ps, q.2 w) → wpAnyH P .any ops Q S F (lastOf ops m) a w) (ops.toList.take m) prs 0 L []) :
    wpAnyH P .any ops Q S (k + F) l0 a0 w := by
  simp only [chkGuard, Bool.and_eq_true, decide_eq_true_eq, List.all_eq_true, List.mem_range] at hchk
  obtain ⟨⟨⟨⟨⟨⟨⟨c1, c2⟩, c3⟩, c4⟩, c5⟩, c6⟩, c7⟩, c8⟩ := hchk
  have hall0 := fun vs hfit => hseq_all (P := P) (C := C) (l0 := l0) (L := L) prs m c1 vs hfit m 0 (by omega) (by rw [List.drop_zero, List.drop_zero]; exact h)
  -- the values that lie there now, and what is said of the others
  have hvals : ∀ (listed : Array Bool) (a : Act) (w : World), Po3 ops prs m a0 l0 listed a w → ∃ vs : Nat → Value, Fits l0 prs vs ∧ ∀ j, j < m → l0.getD j true = false → listed.getD j true = true → vs j = a.tmps.getD (dstOf ops j) undef := fun listed a w hs => by
    refine ⟨fun j => if listed.getD j true = true ∧ j < m ∧ l0.getD j true = false then a.tmps.getD (dstOf ops j) undef else match prs[j]? with | some (.inl u) => u | _ => undef, fun j u hj hu => ?_, fun j hj hf hl => ?_⟩
    · by_cases hc : listed.getD j true = true ∧ j < m ∧ l0.getD j true = false
      · simp only [if_pos hc]
        obtain ⟨s, hs1, _, hs3⟩ := hs.has j hc.2.1 hj hc.1
        rw [hu] at hs1
        obtain rfl := Option.some.inj hs1
        exact hs3
      · simp only [if_neg hc, hu]
    · simp only [if_pos (show listed.getD j true = true ∧ j < m ∧ l0.getD j true = false from ⟨hl, hj, hf⟩)]
  have hord : ∀ (i : Nat) (o : Oper), ops[i]? = some o → ∀ e ∈ o.after, Region.binds .any e = true → e.on < i := fun i o ho e he hb => by
    have := c3 i (Array.getElem?_eq_some_iff.1 ho).1
    rw [ho] at this
    simp only [Array.all_eq_true_iff_forall_mem] at this
    have := this e he
    rw [hb] at this
    simpa using this
  have hinj : ∀ i j, i < m → j < m → l0.getD i true = false → l0.getD j true = false → dstOf ops i = dstOf ops j → i = j := fun i j hi hj h1 h2 he => by
    have := c5 i hi j hj
    rw [h1, h2, he] at this
    simpa using this
  have key : ∀ (k : Nat) (listed : Array Bool) (a : Act) (w : World), Po3 ops prs m a0 l0 listed a w → C w → (List.range m).countP (fun i => !listed.getD i true) = k → wpAnyH P .any ops Q S (k + F) listed a w := by
    intro k
    induction k with
    | zero =>
      intro listed a w hs hC hc
      have hall : ∀ i, i < m → listed.getD i true = true := fun i hi => by
        have := List.countP_eq_zero.1 hc i (List.mem_range.2 hi)
        simpa using this
      have e1 : listed = lastOf ops m := by
        unfold lastOf
        apply arr_extB
        · rw [hs.size]; simp; omega
        · intro d hd
          rw [hs.size] at hd
          by_cases h : d < m
          · rw [hall d h]
            simp [Array.getElem?_append, h]
          · rw [hs.tail d (by omega) hd]
            simp [Array.getElem?_append, h, show d - m < ops.size - m by omega]
      rw [e1, Nat.zero_add]
      obtain ⟨vs, hfit, hvs⟩ := hvals listed a w hs
      refine (hall0 vs hfit).2 a w ⟨hs.tmps.trans hL.1, hs.defers.trans hL.2.1, fun k v hk => ?_⟩ hC (fun q hq => ?_)
      · rcases envUpto_look ops l0 vs L m k v hk with ⟨j, hj, hf, rfl, rfl⟩ | ⟨h1, h2⟩
        · exact (hvs j hj hf (hall j hj)).symm
        · rw [hs.old k h2]; exact hL.2.2 k v h1
      · obtain ⟨h1, h2, p, h3, h4⟩ := psUpto_mem l0 prs vs m q hq
        obtain ⟨s, hs1, _, hs3⟩ := hs.has q.1 h1 h2 (hall q.1 h1)
        rw [h3] at hs1
        obtain rfl := Option.some.inj hs1
        rw [h4, hvs q.1 h1 h2 (hall q.1 h1)]
        exact hs3
    | succ k ih =>
      intro listed a w hs hC hc
      have hsome : ∃ i, i < m ∧ listed.getD i true = false := by
        have hp : 0 < (List.range m).countP (fun i => !listed.getD i true) := by omega
        obtain ⟨i, hi, h⟩ := List.countP_pos_iff.1 hp
        exact ⟨i, List.mem_range.1 hi, by simpa using h⟩
      rw [show k + 1 + F = (k + F) + 1 by omega]
      refine ⟨fun h => ?_, fun i hi => ?_⟩
      · obtain ⟨i, hi, h1⟩ := hsome
        have := ready_nilB hord hs.size h i (by omega)
        rw [this] at h1; cases h1
      · obtain ⟨h0, o, ho, hdeps⟩ := mem_ready.1 hi
        have his : i < ops.size := (Array.getElem?_eq_some_iff.1 ho).1
        have him : i < m := by
          apply Classical.byContradiction
          intro hge
          by_cases him : i = m
          · obtain ⟨j, hj, hjf⟩ := hsome
            have h6 := c6 j hj
            have hj0 : l0.getD j true = false := by
              cases h : l0.getD j true with
              | false => rfl
              | true => rw [hs.pre j h] at hjf; cases hjf
            have hms : Nat.beq m ops.size = false := by
              cases hb : Nat.beq m ops.size with
              | false => rfl
              | true => have := Nat.eq_of_beq_eq_true hb; omega
            rw [hj0, hms] at h6
            have hcl : Closed .any ops (fun x => listed.getD x false || Nat.beq x m) := fun x ox hox hx e he hb => by
              simp only [Bool.or_eq_true] at hx ⊢
              rcases hx with hx | hx
              · exact .inl (hs.closed x ox hox hx e he hb)
              · obtain rfl := Nat.eq_of_beq_eq_true hx
                subst him
                rw [ho] at hox
                obtain rfl := Option.some.inj hox
                exact .inl (hdeps e he hb)
            have := marks_sub hcl (m + 1) (fun j => Nat.beq j m) (fun x hx => by simp only [Bool.or_eq_true]; exact .inr hx) j (by simpa using h6)
            simp only [Bool.or_eq_true] at this
            rcases this with h | h
            · have h2 := getD_true h; rw [h2] at hjf; cases hjf
            · have := Nat.eq_of_beq_eq_true h; omega
          · have h7 := c7 i his
            rw [ho] at h7
            simp only [Bool.or_eq_true, decide_eq_true_eq, Bool.and_eq_true, Bool.not_eq_true', Array.any_eq_true] at h7
            rcases h7 with h7 | ⟨_, h7⟩
            · omega
            · rcases h7 with h7 | ⟨x, hx, hb, hon⟩
              · exact him (Nat.eq_of_beq_eq_true h7)
              · have he2 : o.after[x].on < i := hord i o ho _ (Array.getElem_mem hx) hb
                have h1 := hs.tail o.after[x].on hon (by omega)
                have h2 := getD_true (hdeps _ (Array.getElem_mem hx) hb)
                rw [h2] at h1; cases h1
        have hpre : l0.getD i true = false := by
          cases h : l0.getD i true with
          | false => rfl
          | true => rw [hs.pre i h] at h0; cases h0
        have h4 := c4 i him
        rw [hpre, ho] at h4
        simp only [Bool.false_or, Bool.and_eq_true] at h4
        obtain ⟨⟨hg, hd⟩, hopd⟩ := h4
        obtain ⟨dd, hdd⟩ : ∃ d, o.dst = some d := by
          cases h : o.dst with
          | none => rw [h] at hd; cases hd
          | some d => exact ⟨d, rfl⟩
        have hdl : dd < n := by rw [hdd] at hd; simpa using hd
        have hDi : dstOf ops i = dd := by unfold dstOf; rw [ho]; simp [hdd]
        obtain ⟨vs, hfit, hvs⟩ := hvals listed a w hs
        obtain ⟨si, hsi, hW⟩ := (hall0 vs hfit).1 i o (Nat.zero_le _) him ho hpre
        have hgo : ∀ (v : Value) (w' : World), si.stable → si.holds v w' → C w' → Below w.heap.size w w' → S w' ∧ wpAnyH P .any ops Q S (k + F) (listed.setIfInBounds i true) (a.put o.dst v) w' := fun v w' hsst hph hC' hgrow => by
          refine ⟨hS w' hC', ?_⟩
          have hget : ∀ (j : Nat) (b : Bool), (listed.setIfInBounds i true).getD j b = if i = j then true else listed.getD j b := fun j b => by
            by_cases hij : i = j
            · subst hij
              rw [if_pos rfl]
              simp [hs.size, his]
            · rw [if_neg hij, getD_set_ne b hij]
          rw [hdd]
          refine ih _ _ w' ?_ hC' ?_
          · refine ⟨by simp [hs.size], by simp [Act.put, hs.tmps], hs.defers, fun j hj => ?_, fun j hj h1 h2 => ?_, fun d hd => ?_, fun j hj1 hj2 => ?_, fun j oj hoj hj e he hb => ?_⟩
            · rw [hget]; split
              · rfl
              · exact hs.pre j hj
            · rw [hget] at h2
              by_cases hij : i = j
              · subst hij
                have : dd < a.tmps.size := by rw [hs.tmps, hL.1]; exact hdl
                rw [hDi]
                exact ⟨si, hsi, hsst, by simpa [Act.put, this] using hph⟩
              · rw [if_neg hij] at h2
                have hne : dd ≠ dstOf ops j := fun e => hij (hinj i j him hj hpre h1 (by rw [hDi, e]))
                obtain ⟨s, hs1, hs2, hs3⟩ := hs.has j hj h1 h2
                exact ⟨s, hs1, hs2, by simpa [Act.put, Array.getElem?_setIfInBounds_ne hne] using Say.grow hs2 hs3 hgrow⟩
            · have hdi : dd ≠ d := by rw [← hDi]; exact hd i him hpre
              have := hs.old d hd
              simpa [Act.put, Array.getElem?_setIfInBounds_ne hdi] using this
            · rw [hget, if_neg (by omega)]; exact hs.tail j hj1 hj2
            · simp only [hget] at hj ⊢
              by_cases hij : i = j
              · subst hij
                obtain rfl : o = oj := by rw [ho] at hoj; exact Option.some.inj hoj
                split
                · rfl
                · exact hdeps e he hb
              · rw [if_neg hij] at hj
                split
                · rfl
                · exact hs.closed j oj hoj hj e he hb
          · have h1 := countP_set m listed i him h0 hget
            omega
        have hok : HOk P C o si (envUpto ops l0 vs L i) (psUpto l0 prs vs i) → Region.wanted o (yielded ops a.tmps) = true → wpOp P ops Q i (fun a' w' => S w' ∧ wpAnyH P .any ops Q S (k + F) (listed.setIfInBounds i true) a' w') a w := fun ⟨hsst, hrun⟩ hwant => by
          have hwp := hrun w hC (fun q hq hdq => by
            obtain ⟨h1, h2, p, h3, h4⟩ := psUpto_mem l0 prs vs i q hq
            have hlq : listed.getD q.1 true = true := by
              unfold depOn at hdq
              simp only [Array.any_eq_true, Bool.and_eq_true] at hdq
              obtain ⟨x, hx, hb, hon⟩ := hdq
              have := hdeps _ (Array.getElem_mem hx) hb
              rw [Nat.eq_of_beq_eq_true hon] at this
              exact getD_true this
            obtain ⟨s, hs1, _, hs3⟩ := hs.has q.1 (by omega) h2 hlq
            rw [h3] at hs1
            obtain rfl := Option.some.inj hs1
            rw [h4, hvs q.1 (by omega) h2 hlq]
            exact hs3) o a
            (fun a' w' => S w' ∧ wpAnyH P .any ops Q S (k + F) (listed.setIfInBounds i true) a' w') Q rfl rfl (fun Y hY v hv => by
              cases Y with
              | tmp t =>
                rcases envUpto_look ops l0 vs L i t v hv with ⟨j, hj, hf, hjt, rfl⟩ | ⟨h1, h2⟩
                · have hoj := hopd
                  rw [Array.all_eq_true_iff_forall_mem] at hoj
                  have := hoj _ hY
                  simp only [List.all_eq_true, List.mem_range] at this
                  have := this j (by omega)
                  rw [hf, hjt] at this
                  simp only [Bool.false_or, Bool.or_eq_true, Bool.not_eq_true', Array.any_eq_true, Bool.and_eq_true] at this
                  rcases this with h | ⟨x, hx, hb, hon⟩
                  · simp at h
                  · have hon' := Nat.eq_of_beq_eq_true hon
                    have hlj := hdeps _ (Array.getElem_mem hx) hb
                    rw [hon'] at hlj
                    have := hvs j (by omega) hf (getD_true hlj)
                    rw [hjt] at this
                    exact this.symm
                · show a.tmps.getD t undef = v
                  rw [hs.old t (fun j hj hf he => ?_)]
                  · exact hL.2.2 t v h1
                  · by_cases hji : j < i
                    · exact h2 j hji hf he
                    · have hoj := hopd
                      rw [Array.all_eq_true_iff_forall_mem] at hoj
                      have := hoj _ hY
                      simp only [List.all_eq_true, List.mem_range] at this
                      have := this j hj
                      rw [hf, he] at this
                      simp only [Bool.false_or, Bool.or_eq_true, Bool.not_eq_true', Array.any_eq_true, Bool.and_eq_true] at this
                      rcases this with h | ⟨x, hx, hb, hon⟩
                      · simp at h
                      · have hon' := Nat.eq_of_beq_eq_true hon
                        have he2 : o.after[x].on < i := hord i o ho _ (Array.getElem_mem hx) hb
                        omega
              | const c => exact Option.some.inj hv
              | «global» g => exact Option.some.inj hv
              | func f => exact Option.some.inj hv) (fun v w' hp => hgo v w' hsst hp.1 hp.2.1 hp.2.2)
          unfold Go.wpOp
          simp only [ho, hwant, if_true]
          exact .inl hwp
        unfold HWant at hW
        cases hgd : o.guard with
        | none =>
          rw [hgd] at hW
          exact hok hW (by unfold Region.wanted; rw [hgd])
        | some jb =>
          obtain ⟨j, b⟩ := jb
          rw [hgd] at hW hg
          simp only [Bool.and_eq_true, decide_eq_true_eq, Bool.not_eq_true'] at hg
          obtain ⟨⟨hjm, hjp⟩, hjd⟩ := hg
          obtain ⟨c, hlk, hyes, hno⟩ := hW
          unfold depOn at hjd
          simp only [Array.any_eq_true, Bool.and_eq_true] at hjd
          obtain ⟨x, hx, hb, hon⟩ := hjd
          have hji : j < i := by have := hord i o ho _ (Array.getElem_mem hx) hb; rw [Nat.eq_of_beq_eq_true hon] at this; exact this
          have hjl : listed.getD j true = true := by
            have := hdeps _ (Array.getElem_mem hx) hb
            rw [Nat.eq_of_beq_eq_true hon] at this
            exact getD_true this
          have hvj : vs j = .bool c := by
            rcases envUpto_look ops l0 vs L i _ _ hlk with ⟨j', hj', hf', hd', he'⟩ | ⟨_, h2⟩
            · rw [← hinj j' j (by omega) hjm hf' hjp hd']; exact he'.symm
            · exact absurd rfl (h2 j hji hjp)
          have hoj : ∃ oj, ops[j]? = some oj := ⟨_, Array.getElem?_eq_getElem (by omega)⟩
          obtain ⟨oj, hoj⟩ := hoj
          have h4j := c4 j hjm
          rw [hjp, hoj] at h4j
          simp only [Bool.false_or, Bool.and_eq_true] at h4j
          obtain ⟨dj, hdj⟩ : ∃ d, oj.dst = some d := by
            cases h : oj.dst with
            | none => rw [h] at h4j; cases h4j.1.2
            | some d => exact ⟨d, rfl⟩
          have hdjn : dj < n := by have := h4j.1.2; rw [hdj] at this; simpa using this
          have hDj : dstOf ops j = dj := by unfold dstOf; rw [hoj]; simp [hdj]
          have hval := hvs j hjm hjp hjl
          rw [hvj, hDj] at hval
          have hds : dj < a.tmps.size := by rw [hs.tmps, hL.1]; exact hdjn
          have hy : yielded ops a.tmps j = some c := by
            have h2 : a.tmps[dj]? = some (.bool c) := by
              rw [Array.getElem?_eq_getElem hds]
              have : a.tmps[dj] = .bool c := by simpa [hds] using hval.symm
              rw [this]
            simp [yielded, hoj, hdj, h2]
          by_cases hcb : c = b
          · exact hok (hyes hcb) (by unfold Region.wanted; rw [hgd]; simp [hy, hcb])
          · have hsi2 := hno hcb
            subst hsi2
            have hnw : Region.wanted o (yielded ops a.tmps) = false := by unfold Region.wanted; rw [hgd]; simp [hy, hcb]
            unfold Go.wpOp
            simp only [ho, hnw, Bool.false_eq_true, if_false]
            exact hgo undef w trivial rfl hC (Below.refl _ _)
  refine key k l0 a0 w ⟨c2, rfl, rfl, fun _ h => h, fun i _ h1 h2 => absurd (h1.symm.trans h2) (by simp), fun _ _ => rfl, fun i hi hn => ?_, fun i o ho hl e he hb => ?_⟩ hC hk
  · have := c7 i hn
    simp only [Bool.or_eq_true, decide_eq_true_eq, Bool.and_eq_true, Bool.not_eq_true'] at this
    rcases this with h | h
    · omega
    · exact h.1
  · have := c8 i (Array.getElem?_eq_some_iff.1 ho).1
    rw [ho] at this
    simp only [Bool.or_eq_true, Bool.not_eq_true'] at this
    have hl' : l0.getD i false = true := hl
    rcases this with h | h
    · rw [hl'] at h; cases h
    · rw [Array.all_eq_true_iff_forall_mem] at h
      have := h e he
      simp only [Bool.or_eq_true, Bool.not_eq_true'] at this
      rcases this with h | h
      · rw [hb] at h; cases h
      · exact h
/-- A region that draws and adds to memory, then a tail. -/
theorem reg_guard {N R : Act → World → Prop} {X : Nat → Act → World → Prop} {a : Act} {w : World} {id : Nat} (C : World → Prop) (prs : List Say) (m F : Nat) (hm : P.follows .mixedOrders = true) (hmF : m + F = ops.size) (hchk : chkGuard ops n m (Array.replicate ops.size false) = true) (hL : Sees n L a) (hC : C w) (hCd : ∀ w, C w → C w.drew)
    (h : HSeq P C (dstOf ops) (Array.replicate ops.size false) (fun L' ps => ∀ a' w', Sees n L' a' → C w' → (∀ q ∈ ps, q.2 w') → wpAnyH P .any ops (Qx N X R) (fun _ => True) F (lastOf ops m) a' w') (ops.toList.take m) prs 0 L []) : (Code.region id ops true).wp P (Qx N X R) a w := by
  refine wp_region_held (S := fun _ => True) hm ?_
  have hcount : (List.range m).countP (fun i => !(Array.replicate ops.size false).getD i true) = m := by
    rw [List.countP_eq_length.2 (fun i hi => by have := List.mem_range.1 hi; simp [show i < ops.size by omega]), List.length_range]
  have := draw_guard (Q := Qx N X R) (S := fun _ => True) prs m C (Array.replicate ops.size false) m F (w := w.drew) hchk hcount (fun _ _ => trivial) (hCd w hC) hL (P := P) h
  rw [hmF] at this
  exact this
end
end Go.Proofs.YtooeahpkhocaeaaDoor
