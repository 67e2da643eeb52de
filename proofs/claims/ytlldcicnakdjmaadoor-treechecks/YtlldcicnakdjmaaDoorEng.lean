/- Words for walking a function by facts on its slots alone: what is known of the slots is a list; an operation's law says what it yields from it. No condition. -/
import Derived.Test.YtlldcicnakdjmaaDoorEngP
import Derived.Deep.LoopGhost
import Derived.IntWalk
namespace Go.Proofs.YtlldcicnakdjmaaDoor
open Go.RowKit

/-- What is known of slots: a list, the newest first. -/
def look : List (Nat × Value) → Nat → Option Value
  | [], _ => none
  | (d, v) :: r, k => bif Nat.beq d k then some v else look r k
def vals (L : List (Nat × Value)) : Operand → Option Value
  | .tmp t => look L t
  | .const v => some v
  | .global g => some (.pointer (some ⟨g, 0, none⟩))
  | .func f => some (.func (.func f) #[] #[])
def Sees (n : Nat) (L : List (Nat × Value)) (a : Act) : Prop := a.tmps.size = n ∧ a.defers = [] ∧ ∀ k v, look L k = some v → a.tmps.getD k undef = v
theorem look_cons (d : Nat) (v : Value) (r : List (Nat × Value)) (k : Nat) : look ((d, v) :: r) k = if d = k then some v else look r k := by
  rw [look]
  by_cases h : d = k
  · subst h; simp
  · have : Nat.beq d k = false := by
      cases hb : Nat.beq d k with
      | false => rfl
      | true => exact absurd (Nat.eq_of_beq_eq_true hb) h
    rw [this, if_neg h]; rfl
theorem Sees.eval {n : Nat} {L : List (Nat × Value)} {a : Act} (h : Sees n L a) {X : Operand} {v : Value} (hv : vals L X = some v) : a.eval X = v := by
  cases X with
  | tmp t => exact h.2.2 t v hv
  | const c => exact Option.some.inj hv
  | «global» g => exact Option.some.inj hv
  | func f => exact Option.some.inj hv
theorem Sees.put {n : Nat} {L : List (Nat × Value)} {a : Act} (h : Sees n L a) {d : Nat} (hd : d < n) (v : Value) : Sees n ((d, v) :: L) (a.put (some d) v) := by
  refine ⟨by simp [Act.put, h.1], h.2.1, fun k u hk => ?_⟩
  rw [look_cons] at hk
  by_cases hdk : d = k
  · subst hdk
    rw [if_pos rfl] at hk
    have : d < a.tmps.size := by rw [h.1]; exact hd
    simp [Act.put, this, Option.some.inj hk]
  · rw [if_neg hdk] at hk
    have := h.2.2 k u hk
    simpa [Act.put, Array.getElem?_setIfInBounds_ne hdk] using this
theorem Sees.sub {n : Nat} {L M : List (Nat × Value)} {a : Act} (h : Sees n L a) (hs : ∀ k v, look M k = some v → look L k = some v) : Sees n M a := ⟨h.1, h.2.1, fun k v hk => h.2.2 k v (hs k v hk)⟩
/-- Each pair of M is known in L. -/
def Among (L : List (Nat × Value)) : List (Nat × Value) → Prop
  | [] => True
  | (d, v) :: r => look L d = some v ∧ Among L r
theorem Among.look {L : List (Nat × Value)} : ∀ {M : List (Nat × Value)}, Among L M → ∀ k v, look M k = some v → look L k = some v
  | [], _, k, v, h => by cases h
  | (d, u) :: r, hA, k, v, h => by
    rw [look_cons] at h
    by_cases hd : d = k
    · subst hd; rw [if_pos rfl] at h; rw [← h]; exact hA.1
    · rw [if_neg hd] at h; exact hA.2.look k v h
theorem Sees.only {n : Nat} {L : List (Nat × Value)} {a : Act} (h : Sees n L a) (M : List (Nat × Value)) (hs : Among L M) : Sees n M a := h.sub hs.look

def Runs (P : Program) (op : Op) (ty : TypeId) (L : List (Nat × Value)) (w : World) (Post : Value → World → Prop) : Prop :=
  ∀ (o : Oper) (a : Act) (K : Act → World → Prop) (Q : Exit → Act → World → Prop), o.op = op → o.type = ty → (∀ X ∈ op.operands, ∀ v, vals L X = some v → a.eval X = v) → (∀ v w', Post v w' → K (a.put o.dst v) w') → o.wp P a w K Q
/-- It yields v and leaves the world. -/
def Is (v : Value) (w : World) : Value → World → Prop := fun v' w' => v' = v ∧ w' = w
section
variable {P : Program} {ops : Array Oper} {Q : Exit → Act → World → Prop} {L : List (Nat × Value)} {w : World} {n : Nat} {ty : TypeId}
theorem Runs.mono {op : Op} {Post Post' : Value → World → Prop} (h : Runs P op ty L w Post) (hp : ∀ v w', Post v w' → Post' v w') : Runs P op ty L w Post' :=
  fun o a K Q ho ht hL hK => h o a K Q ho ht hL (fun v w' h => hK v w' (hp v w' h))
theorem runs_move {x : Operand} {v : Value} (h : vals L x = some v) : Runs P (.move x) ty L w (Is v w) := fun o a K Q ho _ hL hK => by
  have e := hL x (by simp [Op.operands]) v h
  unfold Oper.wp
  simp [execOp, ho, e]
  exact hK v w ⟨rfl, rfl⟩
theorem runs_assign {x : Operand} {v : Value} (h : vals L x = some v) : Runs P (.assign x) ty L w (Is v w) := fun o a K Q ho _ hL hK => by
  have e := hL x (by simp [Op.operands]) v h
  unfold Oper.wp
  simp [execOp, ho, e]
  exact hK v w ⟨rfl, rfl⟩
theorem runs_bin {op : BinOp} {t t' : TypeId} {x y : Operand} {u v r : Value} (hx : vals L x = some u) (hy : vals L y = some v)
    (hg : eqGuard op t x y u v = pure ()) (h : Sem.run P (binOp op t u v) w = .ok r w) : Runs P (.binOp op t x y t') ty L w (Is r w) := fun o a K Q ho _ hL hK => by
  have ex := hL x (by simp [Op.operands]) u hx
  have ey := hL y (by simp [Op.operands]) v hy
  unfold Oper.wp
  have : (execOp a.eval o).run P w = .ok (.value r) w := by
    simp only [execOp, ho, ex, ey, hg]
    simp [h]
  rw [this]
  exact hK r w ⟨rfl, rfl⟩
theorem runs_add {t t' : TypeId} {x y : Operand} {k : IntKind} {a b r : Int} (hx : vals L x = some (.int k a)) (hy : vals L y = some (.int k b)) (hr : k.wrap (a + b) = r) :
    Runs P (.binOp .add t x y t') ty L w (Is (.int k r) w) := runs_bin hx hy rfl (by rw [binOp_add, ← hr]; rfl)
theorem runs_sub {t t' : TypeId} {x y : Operand} {k : IntKind} {a b r : Int} (hx : vals L x = some (.int k a)) (hy : vals L y = some (.int k b)) (hr : k.wrap (a - b) = r) :
    Runs P (.binOp .sub t x y t') ty L w (Is (.int k r) w) := runs_bin hx hy rfl (by rw [binOp_sub, ← hr]; rfl)
theorem runs_mul {t t' : TypeId} {x y : Operand} {k : IntKind} {a b r : Int} (hx : vals L x = some (.int k a)) (hy : vals L y = some (.int k b)) (hr : k.wrap (a * b) = r) :
    Runs P (.binOp .mul t x y t') ty L w (Is (.int k r) w) := runs_bin hx hy rfl (by rw [binOp_mul, ← hr]; rfl)
theorem runs_quo {t t' : TypeId} {x y : Operand} {k : IntKind} {a b r : Int} (hx : vals L x = some (.int k a)) (hy : vals L y = some (.int k b)) (hb : b ≠ 0) (hr : k.wrap (a.tdiv b) = r) :
    Runs P (.binOp .quo t x y t') ty L w (Is (.int k r) w) := runs_bin hx hy rfl (by rw [binOp_quo, ← hr]; simp [Op.intDiv, hb])
theorem runs_rem {t t' : TypeId} {x y : Operand} {k : IntKind} {a b r : Int} (hx : vals L x = some (.int k a)) (hy : vals L y = some (.int k b)) (hb : b ≠ 0) (hr : a.tmod b = r) :
    Runs P (.binOp .rem t x y t') ty L w (Is (.int k r) w) := runs_bin hx hy rfl (by rw [binOp_rem, ← hr]; simp [Op.intDiv, hb])
theorem runs_xor {t t' : TypeId} {x y : Operand} {k : IntKind} {a b r : Int} (hx : vals L x = some (.int k a)) (hy : vals L y = some (.int k b)) (hr : bits .xor k a b = r) :
    Runs P (.binOp .xor t x y t') ty L w (Is (.int k r) w) := runs_bin hx hy rfl (by rw [binOp_xor, ← hr]; rfl)
theorem runs_and {t t' : TypeId} {x y : Operand} {k : IntKind} {a b r : Int} (hx : vals L x = some (.int k a)) (hy : vals L y = some (.int k b)) (hr : bits .and k a b = r) :
    Runs P (.binOp .and t x y t') ty L w (Is (.int k r) w) := runs_bin hx hy rfl (by rw [binOp_and, ← hr]; rfl)
theorem runs_lss {t t' : TypeId} {x y : Operand} {k : IntKind} {a b : Int} {r : Bool} (hx : vals L x = some (.int k a)) (hy : vals L y = some (.int k b)) (hr : decide (a < b) = r) :
    Runs P (.binOp .lss t x y t') ty L w (Is (.bool r) w) := runs_bin hx hy rfl (by rw [binOp_lss, ← hr]; rfl)
theorem runs_geq {t t' : TypeId} {x y : Operand} {k : IntKind} {a b : Int} {r : Bool} (hx : vals L x = some (.int k a)) (hy : vals L y = some (.int k b)) (hr : decide (a ≥ b) = r) :
    Runs P (.binOp .geq t x y t') ty L w (Is (.bool r) w) := runs_bin hx hy rfl (by rw [binOp_geq, ← hr]; rfl)
theorem runs_gtr {t t' : TypeId} {x y : Operand} {k : IntKind} {a b : Int} {r : Bool} (hx : vals L x = some (.int k a)) (hy : vals L y = some (.int k b)) (hr : decide (a > b) = r) :
    Runs P (.binOp .gtr t x y t') ty L w (Is (.bool r) w) := runs_bin hx hy rfl (by rw [binOp_gtr, ← hr]; rfl)
theorem runs_leq {t t' : TypeId} {x y : Operand} {k : IntKind} {a b : Int} {r : Bool} (hx : vals L x = some (.int k a)) (hy : vals L y = some (.int k b)) (hr : decide (a ≤ b) = r) :
    Runs P (.binOp .leq t x y t') ty L w (Is (.bool r) w) := runs_bin hx hy rfl (by rw [binOp_leq, ← hr]; rfl)
theorem runs_eql {t t' : TypeId} {x y : Operand} {k : IntKind} {a b : Int} {r : Bool} (hx : vals L x = some (.int k a)) (hy : vals L y = some (.int k b)) (hr : (a == b) = r) :
    Runs P (.binOp .eql t x y t') ty L w (Is (.bool r) w) := runs_bin hx hy rfl (by rw [binOp_eql, ← hr]; rfl)
theorem runs_neq {t t' : TypeId} {x y : Operand} {k : IntKind} {a b : Int} {r : Bool} (hx : vals L x = some (.int k a)) (hy : vals L y = some (.int k b)) (hr : (a != b) = r) :
    Runs P (.binOp .neq t x y t') ty L w (Is (.bool r) w) := runs_bin hx hy rfl (by rw [binOp_neq, ← hr]; rfl)
theorem runs_conv {s d : TypeId} {x : Operand} {u r : Value} {w' : World} (hx : vals L x = some u) (h : Sem.run P (convert s d u) w = .ok r w') : Runs P (.convert s d x) ty L w (Is r w') := fun o a K Q ho _ hL hK => by
  have ex := hL x (by simp [Op.operands]) u hx
  unfold Oper.wp
  have : (execOp a.eval o).run P w = .ok (.value r) w' := by
    simp only [execOp, ho, ex]
    simp [h]
  rw [this]
  exact hK r w' ⟨rfl, rfl⟩
theorem runs_convInt {s d : TypeId} {x : Operand} {k k' : IntKind} {a r : Int} (hx : vals L x = some (.int k a)) (hs : (P.underlying s).isSome = true) (hd : P.underlying d = some (.int k')) (hr : k'.wrap a = r) :
    Runs P (.convert s d x) ty L w (Is (.int k' r) w) := runs_conv hx (by
  have e : P.intKind d = k' := by simp [Program.intKind, hd]
  rw [run_convert_int w s d k a hs (by rw [e]; exact hd), e, hr])
theorem runs_len {t : TypeId} {x : Operand} {A : Option Addr} {m c : Nat} {e : TypeId} (hx : vals L x = some (.slice A m c)) (hu : P.underlying t = some (.slice e)) :
    Runs P (.call { callee := .builtin .len, args := #[x], argTypes := #[t] }) ty L w (Is (.int .i64 (m : Int)) w) := fun o a K Q ho _ hL hK => by
  have ex := hL x (by simp [Op.operands, Call.operands]) _ hx
  unfold Oper.wp
  have : (execOp a.eval o).run P w = .ok (.value (.int .i64 (m : Int))) w := by
    simp [execOp, ho, resolve, invoke, builtin, ex, Builtin.len_, run_underlying hu, goInt]
  rw [this]
  exact hK _ w ⟨rfl, rfl⟩
theorem runs_lens {t : TypeId} {x : Operand} {s : ByteArray} (hx : vals L x = some (.string s)) (hu : P.underlying t = some .string) :
    Runs P (.call { callee := .builtin .len, args := #[x], argTypes := #[t] }) ty L w (Is (.int .i64 (s.size : Int)) w) := fun o a K Q ho _ hL hK => by
  have ex := hL x (by simp [Op.operands, Call.operands]) _ hx
  unfold Oper.wp
  have : (execOp a.eval o).run P w = .ok (.value (.int .i64 (s.size : Int))) w := by
    simp [execOp, ho, resolve, invoke, builtin, ex, Builtin.len_, run_underlying hu, goInt]
  rw [this]
  exact hK _ w ⟨rfl, rfl⟩
/-- One cell an element. -/
theorem runs_indexAddr {t e : TypeId} {x y : Operand} {g o' m c : Nat} {k : IntKind} {i : Int} {j : Nat} (hx : vals L x = some (.slice (some ⟨g, o', none⟩) m c)) (hy : vals L y = some (.int k i)) (hu : P.underlying t = some (.slice e))
    (hs : (P.info? e).map (·.size) = some 1) (hj : i = (j : Int)) (hl : j < m) : Runs P (.indexAddr t x y) ty L w (Is (.pointer (some ⟨g, o' + j, none⟩)) w) := fun o a K Q ho _ hL hK => by
  have ex := hL x (by simp [Op.operands]) _ hx
  have ey := hL y (by simp [Op.operands]) _ hy
  subst hj
  obtain ⟨ie, hie⟩ : ∃ ie, P.info? e = some ie := by
    cases h : P.info? e with
    | none => rw [h] at hs; cases hs
    | some ie => exact ⟨ie, rfl⟩
  have hsz : ie.size = 1 := by rw [hie] at hs; simpa using hs
  unfold Oper.wp
  have hadd : (⟨g, o', none⟩ : Addr).add (j * 1) = ⟨g, o' + j, none⟩ := by
    unfold Addr.add; split <;> simp_all
  have : (execOp a.eval o).run P w = .ok (.value (.pointer (some ⟨g, o' + j, none⟩))) w := by
    simp only [execOp, ho, ex, ey]
    simp [Instr.indexAt, asIntOf, run_underlying hu, sizeOf, typeInfo, hie, hsz, hl]
    simpa using hadd
  rw [this]
  exact hK _ w ⟨rfl, rfl⟩
theorem runs_load {t : TypeId} {x : Operand} {ad : Addr} {v : Value} (hx : vals L x = some (.pointer (some ad))) (hu : (match P.underlying t with | some (.struct _) => true | some (.array _ _) => true | none => true | _ => false) = false)
    (hc : w.cell? ad = some v) : Runs P (.load t x) ty L w (Is v w) := fun o a K Q ho _ hL hK => by
  have ex := hL x (by simp [Op.operands]) _ hx
  unfold Oper.wp
  have : (execOp a.eval o).run P w = .ok (.value v) w := by
    simp only [execOp, ho, ex]
    cases hd : P.underlying t with
    | none => rw [hd] at hu; cases hu
    | some d => cases d <;> simp_all [Instr.loadAt, Instr.sureAddr, loadVar, isAgg, run_underlying hd]
  rw [this]
  exact hK _ w ⟨rfl, rfl⟩
/-- Function f has a body. -/
def Goes (P : Program) (f : FuncId) : Prop := ∀ args w, (callFunc f args).run P w = .ok (.enter f args) w
theorem goes_of {f : FuncId} {fn : Func} {c : Code} (hf : P.funcs[f]? = some fn) (hname : (fn.name == "runtime.NumGoroutine") = false) (hb : fn.body = some c) : Goes P f := fun args w => by
  simp [callFunc, hf, hb]
  simp_all
theorem runs_call {f : FuncId} {xs : Array Operand} {ts : Array TypeId} {args : List Value} {Post : Value → World → Prop} (hg : Goes P f) (hx : xs.toList.map (vals L) = args.map some)
    (hc : Calls P f args.toArray w fun e w' => ∃ v, e = .returned v ∧ Post v w') : Runs P (.call { callee := .value (.func f), args := xs, argTypes := ts }) ty L w Post := fun o a K Q ho _ hL hK => by
  have ea : xs.map a.eval = args.toArray := by
    apply Array.toList_inj.1
    rw [Array.toList_map]
    have : ∀ (ys : List Operand) (us : List Value), (∀ X ∈ ys, X ∈ xs) → ys.map (vals L) = us.map some → ys.map a.eval = us := by
      intro ys
      induction ys with
      | nil => intro us _ h; cases us with | nil => rfl | cons _ _ => simp at h
      | cons y ys ih =>
        intro us hm h
        cases us with
        | nil => simp at h
        | cons v us =>
          simp only [List.map_cons, List.cons.injEq] at h ⊢
          exact ⟨hL y (by simp only [Op.operands, Call.operands, Array.mem_append]; right; exact hm y (by simp)) v h.1, ih us (fun X hX => hm X (by simp [hX])) h.2⟩
    exact this xs.toList args (fun X hX => by simpa using hX) hx
  unfold Oper.wp
  have : (execOp a.eval o).run P w = .ok (.enter f args.toArray) w := by
    simp only [execOp, ho]
    simp [resolve, Deferred.ofValue, invoke, Act.eval, ea]
    exact hg _ _
  rw [this]
  refine hc.mono ?_
  rintro e w' ⟨v, rfl, hp⟩
  exact hK v w' hp

/-! ### code -/
def Qx (N : Act → World → Prop) (X : Nat → Act → World → Prop) (R : Act → World → Prop) : Exit → Act → World → Prop
  | .normal, a, w => N a w
  | .exit i, a, w => X i a w
  | .ret, a, w => R a w
  | _, _, _ => False
variable {N R : Act → World → Prop} {X : Nat → Act → World → Prop} {a : Act}
theorem qx_seq {x y : Code} (h : x.wp P (Qx (fun a' w' => y.wp P (Qx N X R) a' w') X R) a w) : (Code.seq x y).wp P (Qx N X R) a w :=
  wp_seq (wp_mono h fun e a' w' hq => by cases e <;> first | exact hq | exact hq.elim)
theorem qx_block {id : Nat} {c : Code} (h : c.wp P (Qx N (fun i a' w' => (i = id ∧ N a' w') ∨ (i ≠ id ∧ X i a' w')) R) a w) : (Code.block id c).wp P (Qx N X R) a w :=
  wp_block (wp_mono h fun e a' w' hq => by
    cases e with
    | exit i =>
      rcases hq with ⟨rfl, hn⟩ | ⟨hne, hn⟩
      · simp only [Exit.inBlock, if_true]; exact hn
      · simp only [Exit.inBlock, hne, if_false]; exact hn
    | _ => first | exact hq | exact hq.elim)
/-- A 'for' with a test. -/
theorem qx_for {b : Nat} {tst rest : Code} {c : Operand} (I : Nat → Act → World → Prop) (k : Nat) (h0 : I k a w)
    (round : ∀ m a w, I m a w → tst.wp P (Qx (fun a1 w1 => ∃ t, a1.eval c = .bool t ∧ (t = false → N a1 w1) ∧ (t = true → rest.wp P (Qx (fun a2 w2 => ∃ m', m' < m ∧ I m' a2 w2) (fun i a2 w2 => (i = b ∧ N a2 w2) ∨ (i ≠ b ∧ X i a2 w2)) R) a1 w1)) (fun _ _ _ => False) (fun _ _ => False)) a w) :
    (Code.block b (.loop (.seq (.seq tst (.cond c .skip (.exit b))) rest))).wp P (Qx N X R) a w := by
  refine wp_block (wp_loop_ghost I k h0 fun m a w hI => ?_)
  refine wp_seq (wp_seq (wp_mono (round m a w hI) fun e a1 w1 hq => ?_))
  cases e with
  | normal =>
    obtain ⟨t, ht, hf, htr⟩ := hq
    cases t with
    | false => exact wp_cond_false ht (wp_exit (by simp only [Exit.then, Exit.inBlock, if_true]; exact hf rfl))
    | true =>
      refine wp_cond_true ht (wp_skip ?_)
      refine wp_mono (htr rfl) fun e a2 w2 hq => ?_
      cases e with
      | normal => exact hq
      | exit i =>
        rcases hq with ⟨rfl, hn⟩ | ⟨hne, hn⟩
        · simp only [Exit.then, Exit.inBlock, if_true]; exact hn
        · simp only [Exit.then, Exit.inBlock, hne, if_false]; exact hn
      | ret => exact hq
      | _ => exact hq.elim
  | _ => exact hq.elim
/-- One operation of a region that does not draw. -/
theorem seq_op {op : Op} {pos : String} {aft : Array Edge} {d : Nat} {rest : List Oper} {Post : Value → World → Prop} (hS : Sees n L a) (hd : d < n) (hr : Runs P op ty L w Post)
    (h : ∀ v w' a', Post v w' → Sees n ((d, v) :: L) a' → wpList P ops Q rest a' w') : wpList P ops Q (⟨some d, op, ty, pos, aft, none⟩ :: rest) a w :=
  wpList_plain rfl fun _ hK => hr _ a _ Q rfl rfl (fun _ _ _ hv => hS.eval hv) fun v w' hp => hK _ _ (h v w' _ hp (hS.put hd v))
theorem seq_is {op : Op} {pos : String} {aft : Array Edge} {d : Nat} {rest : List Oper} {v : Value} {w' : World} (hS : Sees n L a) (hd : d < n) (hr : Runs P op ty L w (Is v w'))
    (h : ∀ a', Sees n ((d, v) :: L) a' → wpList P ops Q rest a' w') : wpList P ops Q (⟨some d, op, ty, pos, aft, none⟩ :: rest) a w :=
  seq_op hS hd hr fun v' w1 a' hp hS' => by obtain ⟨rfl, rfl⟩ := hp; exact h a' hS'
theorem seq_none {op : Op} {pos : String} {aft : Array Edge} {rest : List Oper} {Post : Value → World → Prop} (hS : Sees n L a) (hr : Runs P op ty L w Post)
    (h : ∀ v w' a', Post v w' → Sees n L a' → wpList P ops Q rest a' w') : wpList P ops Q (⟨none, op, ty, pos, aft, none⟩ :: rest) a w :=
  wpList_plain rfl fun _ hK => hr _ a _ Q rfl rfl (fun _ _ _ hv => hS.eval hv) fun v w' hp => hK _ _ (h v w' _ hp hS)
end
end Go.Proofs.YtlldcicnakdjmaaDoor
