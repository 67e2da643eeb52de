/- More laws of operations: fields, rows of structs, strings. No condition. -/
import Derived.Test.YtooeahpkhocaeaaDoorTTop
import Derived.ArgAppend
import Derived.Test.YtooeahpkhocaeaaDoorJ03
import Derived.Laws.Tables
namespace Go.Proofs.YtooeahpkhocaeaaDoor
open Go.RowKit
set_option maxRecDepth 100000

section
variable {P : Program} {ops : Array Oper} {L : List (Nat × Value)} {w : World} {n : Nat} {ty : TypeId} {N R : Act → World → Prop} {X : Nat → Act → World → Prop} {a : Act} {Q : Exit → Act → World → Prop}
theorem add_lit' (b o i : Nat) : (⟨b, o, none⟩ : Addr).add i = ⟨b, o + i, none⟩ := by unfold Addr.add; split <;> simp_all
theorem runs_indexG9 {t : TypeId} {x y : Operand} {s : ByteArray} {k : IntKind} {i : Int} {j : Nat} {b : UInt8} (hx : vals L x = some (.string s)) (hy : vals L y = some (.int k i)) (hj : i = (j : Int)) (hu : P.underlying t = some .string) (hb : s[j]? = some b) : Runs P (.index t x y) ty L w (Is (.int .u8 (b.toNat : Int)) w) := fun o a K Q ho _ hL hK => by
  have ex := hL x (by simp [Op.operands]) _ hx
  have ey := hL y (by simp [Op.operands]) _ hy
  subst hj
  unfold Oper.wp
  have : (execOp a.eval o).run P w = .ok (.value (.int .u8 (b.toNat : Int))) w := by
    simp [execOp, ho, ex, ey, Instr.index, asIntOf, run_underlying hu, hb]
  rw [this]
  exact hK _ _ ⟨rfl, rfl⟩
/-- A 'for' over whole numbers. -/
theorem qx_range {b : Nat} {tst rest : Code} {c : Operand} (I : Nat → Act → World → Prop) (k : Nat) (h0 : I k a w)
    (round : ∀ m a w, I m a w → tst.wp P (Qx (fun a1 w1 => ∃ t, a1.eval c = .bool t ∧ (t = false → N a1 w1) ∧ (t = true → rest.wp P (Qx (fun a2 w2 => ∃ m', m' < m ∧ I m' a2 w2) (fun i a2 w2 => (i = b ∧ N a2 w2) ∨ (i ≠ b ∧ X i a2 w2)) R) a1 w1)) (fun _ _ _ => False) (fun _ _ => False)) a w) :
    (Code.block b (.loop (.seq tst (.seq (.cond c .skip (.exit b)) rest)))).wp P (Qx N X R) a w := by
  refine wp_block (wp_loop_ghost I k h0 fun m a w hI => ?_)
  refine wp_seq (wp_mono (round m a w hI) fun e a1 w1 hq => ?_)
  cases e with
  | normal =>
    refine wp_seq ?_
    obtain ⟨t, ht, hf, htr⟩ := hq
    cases t with
    | false => exact wp_cond_false ht (wp_exit (by simp only [Exit.then, Exit.inBlock, if_true]; exact hf rfl))
    | true =>
      refine wp_cond_true ht (wp_skip ?_)
      refine wp_mono (htr rfl) fun e a2 w2 hq => ?_
      cases e with
      | normal => exact hq
      | exit i =>
        rcases hq with ⟨rfl, hn⟩ | ⟨hne, hn⟩
        · simp only [Exit.then, Exit.inBlock, if_true]; exact hn
        · simp only [Exit.then, Exit.inBlock, hne, if_false]; exact hn
      | ret => exact hq
      | _ => exact hq.elim
  | _ => exact hq.elim
theorem owns_mono {w : World} {b b' : Nat} {e : TypeId} {s n : Nat} {v : Value} {xs : List Value} (h : w.ownsRow b e s v n xs) (hb : b' ≤ b) : w.ownsRow b' e s v n xs := by
  refine ⟨h.1, ?_⟩
  rcases h.2 with h | ⟨g, cap, cur, h1, h2, h3⟩
  · exact .inl h
  · exact .inr ⟨g, cap, cur, h1, by omega, h3⟩
theorem owns_kept {w w' : World} {b : Nat} {e : TypeId} {s n : Nat} {v : Value} {xs : List Value} (h : w.ownsRow b e s v n xs) (k : Below w.heap.size w w') : w'.ownsRow b e s v n xs := by
  refine ⟨h.1, ?_⟩
  rcases h.2 with h | ⟨g, cap, cur, h1, h2, h3, h4⟩
  · exact .inl h
  · exact .inr ⟨g, cap, cur, h1, h2, (k.block g (Array.getElem?_eq_some_iff.1 h3).1).trans h3, h4⟩
/-- Guarded by one that is not wanted itself. -/
theorem seq_skip2 {op : Op} {pos : String} {aft : Array Edge} {d j dj : Nat} {c : Bool} {rest : List Oper} (hS : Sees n L a) (hd : d < n) (ho : (ops[j]?).bind (·.dst) = some dj) (hdj : dj < n) (hv : look L dj = some undef)
    (h : ∀ a', Sees n ((d, undef) :: L) a' → wpList P ops Q rest a' w) : wpList P ops Q (⟨some d, op, ty, pos, aft, some (j, c)⟩ :: rest) a w := by
  have hy : yielded ops a.tmps j = none := by
    have hs := hS.2.2 dj undef hv
    have hsz : dj < a.tmps.size := by rw [hS.1]; exact hdj
    have h2 : a.tmps[dj]? = some undef := by
      rw [Array.getElem?_eq_getElem hsz]
      have : a.tmps[dj] = undef := by simpa [hsz] using hs
      rw [this]
    simp only [yielded, ho, Option.bind_some, h2, undef]
  unfold wpList
  rw [if_neg (by simp [Region.wanted, hy])]
  exact h _ (hS.put hd undef)
/-- x[l:], of whatever slice. -/
theorem runs_sliceFromG {t e : TypeId} {x lo : Operand} {A : Option Addr} {m c l sz : Nat} {i : Int} (hx : vals L x = some (.slice A m c)) (hlo : vals L lo = some (.int .i64 i)) (hi' : i = (l : Int)) (hu : P.underlying t = some (.slice e)) (hs : (P.info? e).map (·.size) = some sz) (hlm : l ≤ m) :
    Runs P (.slice t x (some lo) none none) ty L w (Is (.slice (if c = l then A else A.map (·.add (l * sz))) (m - l) (c - l)) w) := fun o a K Q ho _ hL hK => by
  have ex := hL x (by simp [Op.operands]) _ hx
  have el := hL lo (by simp [Op.operands]) _ hlo
  subst hi'
  obtain ⟨ie, hie⟩ : ∃ ie, P.info? e = some ie := by
    cases h : P.info? e with
    | none => rw [h] at hs; cases hs
    | some ie => exact ⟨ie, rfl⟩
  have hsz : ie.size = sz := by rw [hie] at hs; simpa using hs
  unfold Oper.wp
  have : (execOp a.eval o).run P w = .ok (.value (.slice (if c = l then A else A.map (·.add (l * sz))) (m - l) (c - l))) w := by
    simp [execOp, ho, ex, el, Instr.sliceAt, run_underlying hu, Instr.slice, Instr.sliceBounds, Instr.sliceBound, asIntOf, hlm, sizeOf, typeInfo, hie, hsz]
  rw [this]
  exact hK _ _ ⟨rfl, rfl⟩
/-- Elements of sz cells. -/
theorem runs_indexAddrG {t e : TypeId} {x y : Operand} {g o' m c sz : Nat} {k : IntKind} {i : Int} {j : Nat} (hx : vals L x = some (.slice (some ⟨g, o', none⟩) m c)) (hy : vals L y = some (.int k i)) (hu : P.underlying t = some (.slice e))
    (hs : (P.info? e).map (·.size) = some sz) (hj : i = (j : Int)) (hl : j < m) : Runs P (.indexAddr t x y) ty L w (Is (.pointer (some ⟨g, o' + j * sz, none⟩)) w) := fun o a K Q ho _ hL hK => by
  have ex := hL x (by simp [Op.operands]) _ hx
  have ey := hL y (by simp [Op.operands]) _ hy
  subst hj
  obtain ⟨ie, hie⟩ : ∃ ie, P.info? e = some ie := by
    cases h : P.info? e with
    | none => rw [h] at hs; cases hs
    | some ie => exact ⟨ie, rfl⟩
  have hsz : ie.size = sz := by rw [hie] at hs; simpa using hs
  unfold Oper.wp
  have : (execOp a.eval o).run P w = .ok (.value (.pointer (some ⟨g, o' + j * sz, none⟩))) w := by
    simp only [execOp, ho, ex, ey]
    simp [Instr.indexAt, asIntOf, run_underlying hu, sizeOf, typeInfo, hie, hsz, hl, add_lit']
  rw [this]
  exact hK _ w ⟨rfl, rfl⟩
theorem runs_buildSliceG {t e : TypeId} {len sz : Nat} {parts : Array (Nat × Operand)} {pv : List (Nat × Value)} {cells : Array Value} {ie : TypeInfo} {z : Value} (hx : parts.toList.map (fun p => (vals L p.2).map (fun v => (p.1, v))) = pv.map some)
    (hu : P.underlying t = some (.slice e)) (hie : P.info? e = some ie) (hz : ie.zero = some z) (hsz : ie.size = sz) (hsmall : len * sz ≤ 2 ^ 24) (hpos : 0 < len * sz)
    (hf : Instr.fill (fun i => some (i * sz, sz)) ((Array.range (len * sz)).map (z.cells[· % z.cells.size]!)) pv = some cells) : Runs P (.buildSlice t len parts) ty L w (Built w e len cells) := fun o a K Q ho _ hL hK => by
  refine wp_buildSlice t e len parts ho cells ie z hu hie hz (by rw [hsz]; omega) (by rw [hsz]; omega) ?_ (hK _ _ ⟨rfl, rfl⟩)
  rw [hsz, Array.toList_map, show (List.map (fun x : Nat × Operand => match x with | (i, x) => (i, a.eval x)) parts.toList) = parts.toList.map (fun p => (p.1, a.eval p.2)) from rfl, map_eval parts.toList pv (fun p hp v hv => hL p.2 ?_ v hv) hx]
  · exact hf
  · simp only [Op.operands, List.mem_toArray, List.mem_map]; exact ⟨p, hp, rfl⟩
theorem runs_catG {t t' : TypeId} {x y : Operand} {a b r : ByteArray} (hx : vals L x = some (.string a)) (hy : vals L y = some (.string b)) (hr : a ++ b = r) (hz : a.size + b.size ≤ 1000000) : Runs P (.binOp .add t x y t') ty L w (Is (.string r) w) :=
  runs_bin hx hy rfl (by rw [← hr]; exact (show Sem.run P (Op.stringOp .add a b) w = _ from run_string_add_sum w a b (by omega)))
end
end Go.Proofs.YtooeahpkhocaeaaDoor
/- Structs: fields, parts, rows of cells; what is kept but for some blocks. No condition. -/
namespace Go.Proofs.YtooeahpkhocaeaaDoor
open Go.RowKit
set_option maxRecDepth 100000

/-- Where the field lies, of one that isn't empty. -/
def fieldOff (P : Program) (t : TypeId) (j : Nat) : Option Nat :=
  match P.underlying t with
  | some (.struct fs) => (fs[j]?).bind fun f => (P.info? f.type).bind fun i => if i.size = 0 then none else some f.offset
  | _ => none
/-- What a variable of that type begins with. -/
def zeroOf (P : Program) (t : TypeId) : Option Value := (P.info? t).bind (·.zero)
section
variable {P : Program} {L : List (Nat × Value)} {w : World} {n : Nat} {ty : TypeId}
theorem runs_fieldK {t : TypeId} {x : Operand} {g o' j k : Nat} (hf : fieldOff P t j = some k) (hx : vals L x = some (.pointer (some ⟨g, o', none⟩))) : Runs P (.fieldAddr t x j) ty L w (Is (.pointer (some ⟨g, o' + k, none⟩)) w) := fun o a K Q ho _ hL hK => by
  have ex := hL x (by simp [Op.operands]) _ hx
  unfold fieldOff at hf
  cases hu : P.underlying t with
  | none => rw [hu] at hf; cases hf
  | some d =>
    cases d <;> rw [hu] at hf <;> simp only [reduceCtorEq] at hf
    case struct fs =>
      cases hfj : fs[j]? with
      | none => rw [hfj] at hf; cases hf
      | some f =>
        rw [hfj] at hf
        simp only [Option.bind_some] at hf
        cases hi : P.info? f.type with
        | none => rw [hi] at hf; cases hf
        | some i =>
          rw [hi] at hf
          simp only [Option.bind_some] at hf
          split at hf
          · cases hf
          · next hne =>
            obtain rfl : f.offset = k := by simpa using hf
            unfold Oper.wp
            have : (execOp a.eval o).run P w = .ok (.value (.pointer (some ⟨g, o' + f.offset, none⟩))) w := by
              simp [execOp, ho, ex, Instr.fieldAt, run_underlying hu, hfj, Instr.sureAddr, fieldPlace, sizeOf, typeInfo, hi, hne, add_lit']
            rw [this]
            exact hK _ _ ⟨rfl, rfl⟩
theorem runs_buildK {t : TypeId} {parts : Array (Nat × Operand)} {pv : List (Nat × Value)} {cells : Array Value} (hx : parts.toList.map (fun p => (vals L p.2).map (fun v => (p.1, v))) = pv.map some) (hf : P.built t pv = some cells) : Runs P (.build t parts) ty L w (Is (.agg cells) w) := fun o a K Q ho _ hL hK => by
  have he : (parts.map fun (i, x) => (i, a.eval x)).toList = pv := by
    rw [Array.toList_map, show (List.map (fun x : Nat × Operand => match x with | (i, x) => (i, a.eval x)) parts.toList) = parts.toList.map (fun p => (p.1, a.eval p.2)) from rfl]
    exact map_eval parts.toList pv (fun p hp v hv => hL p.2 (by simp only [Op.operands, List.mem_toArray, List.mem_map]; exact ⟨p, by simpa using hp, rfl⟩) v hv) hx
  exact wp_build t parts ho (by rw [he, hf]; rfl) (by rw [he, hf]; exact hK _ _ ⟨rfl, rfl⟩)
theorem runs_allocK {t : TypeId} {z : Value} (h : zeroOf P t = some z) : Runs P (.alloc t) ty L w (Boxed w t z.cells) := by
  unfold zeroOf at h
  cases hi : P.info? t with
  | none => rw [hi] at h; cases h
  | some i => rw [hi] at h; exact runs_alloc hi h
theorem runs_allocB {t : TypeId} {z : Value} {cs : List Value} (h : zeroOf P t = some z) (hc : z.cells = cs.toArray) : Runs P (.alloc t) ty L w (fun v w' => v = .pointer (some ⟨w.heap.size, 0, none⟩) ∧ Has w' w.heap.size t cs ∧ Below w.heap.size w w') :=
  (runs_allocK h).mono (by rintro v w' ⟨rfl, rfl⟩; rw [hc]; exact ⟨rfl, Has.new w t cs, (Below.refl _ _).alloc (Nat.le_refl _) _⟩)
theorem runs_boxB {t : TypeId} {x : Operand} {v : Value} {cs : List Value} (hx : vals L x = some v) (hc : v.cells = cs.toArray) : Runs P (.box t x) ty L w (fun u w' => u = .pointer (some ⟨w.heap.size, 0, none⟩) ∧ Has w' w.heap.size t cs ∧ Below w.heap.size w w') :=
  (runs_box hx).mono (by rintro u w' ⟨rfl, rfl⟩; rw [hc]; exact ⟨rfl, Has.new w t cs, (Below.refl _ _).alloc (Nat.le_refl _) _⟩)
end
section
variable {P : Program} {ops : Array Oper} {Q : Exit → Act → World → Prop} {L : List (Nat × Value)} {n : Nat} {a : Act} {w : World} {op : Op} {ty : TypeId} {pos : String} {aft : Array Edge} {d j dj : Nat} {b c : Bool} {rest : List Oper} {v : Value} {w' : World}
/-- The laws of a region in order, told shortly. -/
theorem sI (hS : Sees n L a) (hr : Runs P op ty L w (Is v w')) (h : ∀ a', Sees n ((d, v) :: L) a' → wpList P ops Q rest a' w') (hd : d < n := by decide) : wpList P ops Q (⟨some d, op, ty, pos, aft, none⟩ :: rest) a w := seq_is hS hd hr h
theorem sY (hS : Sees n L a) (hr : Runs P op ty L w (Is v w')) (h : ∀ a', Sees n ((d, v) :: L) a' → wpList P ops Q rest a' w') (hd : d < n := by decide) (ho : (ops[j]?).bind (·.dst) = some dj := by rfl) (hdj : dj < n := by decide) (hv : look L dj = some (.bool b) := by rfl) : wpList P ops Q (⟨some d, op, ty, pos, aft, some (j, b)⟩ :: rest) a w := seq_yis hS hd ho hdj hv hr h
theorem sN (hS : Sees n L a) (h : ∀ a', Sees n ((d, undef) :: L) a' → wpList P ops Q rest a' w) (hd : d < n := by decide) (ho : (ops[j]?).bind (·.dst) = some dj := by rfl) (hdj : dj < n := by decide) (hv : look L dj = some (.bool c) := by rfl) (hne : (c == b) = false := by rfl) : wpList P ops Q (⟨some d, op, ty, pos, aft, some (j, b)⟩ :: rest) a w := seq_no hS hd ho hdj hv hne h
theorem sU (hS : Sees n L a) (h : ∀ a', Sees n ((d, undef) :: L) a' → wpList P ops Q rest a' w) (hd : d < n := by decide) (ho : (ops[j]?).bind (·.dst) = some dj := by rfl) (hdj : dj < n := by decide) (hv : look L dj = some undef := by rfl) : wpList P ops Q (⟨some d, op, ty, pos, aft, some (j, c)⟩ :: rest) a w := seq_skip2 hS hd ho hdj hv h
theorem lssT {t t' : TypeId} {x y : Operand} {k : IntKind} {p q : Int} (hx : vals L x = some (.int k p)) (hy : vals L y = some (.int k q)) (h : p < q) : Runs P (.binOp .lss t x y t') ty L w (Is (.bool true) w) := runs_lss hx hy (decide_eq_true h)
theorem lssF {t t' : TypeId} {x y : Operand} {k : IntKind} {p q : Int} (hx : vals L x = some (.int k p)) (hy : vals L y = some (.int k q)) (h : ¬ p < q) : Runs P (.binOp .lss t x y t') ty L w (Is (.bool false) w) := runs_lss hx hy (decide_eq_false h)
theorem geqT {t t' : TypeId} {x y : Operand} {k : IntKind} {p q : Int} (hx : vals L x = some (.int k p)) (hy : vals L y = some (.int k q)) (h : p ≥ q) : Runs P (.binOp .geq t x y t') ty L w (Is (.bool true) w) := runs_geq hx hy (decide_eq_true h)
theorem geqF {t t' : TypeId} {x y : Operand} {k : IntKind} {p q : Int} (hx : vals L x = some (.int k p)) (hy : vals L y = some (.int k q)) (h : ¬ p ≥ q) : Runs P (.binOp .geq t x y t') ty L w (Is (.bool false) w) := runs_geq hx hy (decide_eq_false h)
theorem gtrT {t t' : TypeId} {x y : Operand} {k : IntKind} {p q : Int} (hx : vals L x = some (.int k p)) (hy : vals L y = some (.int k q)) (h : p > q) : Runs P (.binOp .gtr t x y t') ty L w (Is (.bool true) w) := runs_gtr hx hy (decide_eq_true h)
theorem gtrF {t t' : TypeId} {x y : Operand} {k : IntKind} {p q : Int} (hx : vals L x = some (.int k p)) (hy : vals L y = some (.int k q)) (h : ¬ p > q) : Runs P (.binOp .gtr t x y t') ty L w (Is (.bool false) w) := runs_gtr hx hy (decide_eq_false h)
theorem leqT {t t' : TypeId} {x y : Operand} {k : IntKind} {p q : Int} (hx : vals L x = some (.int k p)) (hy : vals L y = some (.int k q)) (h : p ≤ q) : Runs P (.binOp .leq t x y t') ty L w (Is (.bool true) w) := runs_leq hx hy (decide_eq_true h)
theorem leqF {t t' : TypeId} {x y : Operand} {k : IntKind} {p q : Int} (hx : vals L x = some (.int k p)) (hy : vals L y = some (.int k q)) (h : ¬ p ≤ q) : Runs P (.binOp .leq t x y t') ty L w (Is (.bool false) w) := runs_leq hx hy (decide_eq_false h)
end
/-- All is kept but the blocks of which S is said. -/
structure But (S : Nat → Prop) (w w' : World) : Prop where
  os : w'.os = w.os
  tape : w'.tape = w.tape
  output : w'.output = w.output
  size : w.heap.size ≤ w'.heap.size
  block : ∀ k, k < w.heap.size → ¬ S k → w'.heap[k]? = w.heap[k]?
section
variable {S S' : Nat → Prop} {w w' w'' : World} {B g : Nat} {t : TypeId} {cs : List Value}
theorem But.refl (S : Nat → Prop) (w : World) : But S w w := ⟨rfl, rfl, rfl, Nat.le_refl _, fun _ _ _ => rfl⟩
theorem But.trans (h : But S w w') (k : But S w' w'') : But S w w'' :=
  ⟨k.os.trans h.os, k.tape.trans h.tape, k.output.trans h.output, Nat.le_trans h.size k.size, fun i hi hn => (k.block i (Nat.lt_of_lt_of_le hi h.size) hn).trans (h.block i hi hn)⟩
theorem But.mono (h : But S w w') (hs : ∀ k, S k → S' k) : But S' w w' := ⟨h.os, h.tape, h.output, h.size, fun i hi hn => h.block i hi (fun k => hn (hs i k))⟩
theorem Below.but (h : Below w.heap.size w w') (S : Nat → Prop) : But S w w' := ⟨h.os, h.tape, h.output, h.size, fun i hi _ => h.block i hi⟩
theorem But.below (h : But S w w') (hS : ∀ k, S k → B ≤ k) (hB : B ≤ w.heap.size) : Below B w w' := ⟨h.os, h.tape, h.output, h.size, fun i hi => h.block i (by omega) (fun k => by have := hS i k; omega)⟩
/-- What lies above doesn't count. -/
theorem But.up (h : But S w w') (k : But (fun i => S i ∨ w.heap.size ≤ i) w' w'') : But S w w'' :=
  ⟨k.os.trans h.os, k.tape.trans h.tape, k.output.trans h.output, Nat.le_trans h.size k.size, fun i hi hn => (k.block i (Nat.lt_of_lt_of_le hi h.size) (fun e => by rcases e with e | e; exact hn e; omega)).trans (h.block i hi hn)⟩
theorem Has.but (h : Has w g t cs) (k : But S w w') (hg : ¬ S g) : Has w' g t cs := (k.block g h.lt hg).trans h
theorem has_ne {w : World} {g g' : Nat} {t t' : TypeId} {cs cs' : List Value} (h : Has w g t cs) (h' : Has w g' t' cs') (ht : t ≠ t') : g ≠ g' := fun e => by
  subst e
  unfold Has at h h'
  rw [h] at h'
  simp only [Option.some.injEq, Obj.cells.injEq] at h'
  exact ht h'.2.1
theorem setCell_but (w : World) (g i : Nat) (v : Value) : But (fun k => k = g) w (w.setCell ⟨g, i, none⟩ v) := by
  have h := (Below.refl 0 w).setCell (p := ⟨g, i, none⟩) (Nat.zero_le _) v
  exact ⟨h.os, h.tape, h.output, h.size, fun k _ hn => Below.heap_setCell w _ v k hn⟩
theorem setRow_but (w : World) (g : Nat) (cs : Array Value) : But (fun k => k = g) w (w.setRow g cs) :=
  ⟨rfl, rfl, rfl, by simp [World.setRow], fun k _ hn => setRow_other w g k cs hn⟩
theorem runs_storeB {P : Program} {L : List (Nat × Value)} {ty : TypeId} {t te : TypeId} {x y : Operand} {g : Nat} {old cs : List Value} (hx : vals L x = some (.pointer (some ⟨g, 0, none⟩))) (hy : vals L y = some (.agg cs.toArray)) (hg : Has w g te old) (hl : old.length = cs.length) (hone : cs.all (·.oneCell') = true) (hi : (P.info? t).map (·.size) = some cs.length) :
    Runs P (.store t x y) ty L w (fun _ w' => Has w' g te cs ∧ But (fun k => k = g) w w') :=
  (runs_storeRow hx hy hg (by simpa using hl) (by simpa using hone) (by simpa using hi)).mono (by
    rintro u w' ⟨_, rfl⟩
    exact ⟨has_setRow hg, setRow_but w g _⟩)
/-- Below, when what is told anew is new. -/
theorem But.new {S : Nat → Prop} {w w1 w2 : World} {B : Nat} (h : Below B w w1) (k : But S w1 w2) (hS : ∀ i, S i → B ≤ i) (hB : B ≤ w.heap.size) : Below B w w2 :=
  h.trans (k.below hS (Nat.le_trans hB h.size))
theorem runs_storeC {P : Program} {L : List (Nat × Value)} {ty : TypeId} {x y : Operand} {g o' : Nat} {u v : Value} (hx : vals L x = some (.pointer (some ⟨g, o', none⟩))) (hy : vals L y = some v) (hone : v.oneCell' = true) {te : TypeId} (hs : (P.info? te).map (·.size) = some 1) (hg : Has w g t cs) (hc : cs[o']? = some u) :
    Runs P (.store te x y) ty L w (fun _ w' => Has w' g t (cs.set o' v) ∧ But (fun k => k = g) w w') :=
  (runs_store hx hy hone hs (by rw [hg.cell]; exact hc) (hg.open_ _)).mono (by rintro z w' ⟨_, rfl⟩; exact ⟨hg.set_ _ _, setCell_but _ _ _ _⟩)
/-- The rows that a slice of another kind stands in. -/
theorem owns_but {B n sz : Nat} {e : TypeId} {v : Value} {xs : List Value} (h : w.ownsRow B e sz v n xs) (k : But S w w') (hn : ∀ i old, Has w i e old → ¬ S i) : w'.ownsRow B e sz v n xs := by
  refine ⟨h.1, ?_⟩
  rcases h.2 with h | ⟨g4, c4, cur, h0, h4, hh, hrest⟩
  · exact .inl h
  · exact .inr ⟨g4, c4, cur, h0, h4, (k.block g4 (Array.getElem?_eq_some_iff.1 hh).1 (hn g4 cur.toList (by unfold Has; simpa using hh))).trans hh, hrest⟩
end
section
variable {P : Program} {fn : Func} {R : Ending → World → Prop} {n : Nat} {L : List (Nat × Value)} {a : Act} {w : World}
/-- Returned: a row of cells, and two values. -/
theorem retRow2 {p t ty te g : Nat} {d : TypeDesc} {cs : List Value} {u : Value} (hr : fn.results = #[.cell p ty, .tmp t]) (hS : Sees n L a) (hp : look L p = some (.pointer (some ⟨g, 0, none⟩))) (ht : look L t = some u) (hg : Has w g te cs) (hu : P.underlying ty = some d) (hd : (match d with | .struct _ | .array _ _ => true | _ => false) = true) (hi : (P.info? ty).map (·.size) = some cs.length) (hR : R (.returned (.tuple #[.agg cs.toArray, u])) w) : Rets P fn R a w := by
  refine ⟨hS.2.1, _, ?_, hR⟩
  have h1 := hS.2.2 p _ hp
  have h2 := hS.2.2 t u ht
  have h1' : a.tmps[p]?.getD undef = .pointer (some ⟨g, 0, none⟩) := by simpa using h1
  have h2' : a.tmps[t]?.getD undef = u := by simpa using h2
  have hl := run_loadVar_row (P := P) w g te ty cs.toArray (0, 0) _ hg hu hd (by simpa using hi)
  simp [results, hr, h1', h2', asAddr, hl]
end
end Go.Proofs.YtooeahpkhocaeaaDoor
/- What a store into an object of one kind keeps, in a region that draws. No condition. -/
namespace Go.Proofs.YtooeahpkhocaeaaDoor
open Go.RowKit
set_option maxRecDepth 100000

/-- All objects of other kinds are kept, and all below B; one of kind T keeps its size, and is kept once it is F. -/
structure KF (B : Nat) (T : TypeId) (F : List Value) (a b : World) : Prop where
  below : Below B a b
  other : ∀ i t cs, t ≠ T → Has a i t cs → Has b i t cs
  fin : ∀ i, Has a i T F → Has b i T F
  len : ∀ i cs, Has a i T cs → ∃ cs', cs'.length = cs.length ∧ Has b i T cs'
section
variable {B g : Nat} {T : TypeId} {F cs : List Value} {a b c : World}
theorem KF.refl (B : Nat) (T : TypeId) (F : List Value) (a : World) : KF B T F a a := ⟨Below.refl _ _, fun _ _ _ _ h => h, fun _ h => h, fun _ cs h => ⟨cs, rfl, h⟩⟩
theorem KF.trans (h : KF B T F a b) (k : KF B T F b c) : KF B T F a c :=
  ⟨h.below.trans k.below, fun i t cs ht hi => k.other i t cs ht (h.other i t cs ht hi), fun i hi => k.fin i (h.fin i hi), fun i cs hi => by
    obtain ⟨c1, l1, h1⟩ := h.len i cs hi
    obtain ⟨c2, l2, h2⟩ := k.len i c1 h1
    exact ⟨c2, l2.trans l1, h2⟩⟩
theorem KF.of (h : Below a.heap.size a b) (hB : B ≤ a.heap.size) : KF B T F a b :=
  ⟨h.mono hB, fun _ _ _ _ hi => hi.below h hi.lt, fun _ hi => hi.below h hi.lt, fun _ cs hi => ⟨cs, rfl, hi.below h hi.lt⟩⟩
theorem KF.more (h : KF B T F a b) (hB : B ≤ a.heap.size) (k : Below b.heap.size b c) : KF B T F a c := h.trans (KF.of k (Nat.le_trans hB h.below.size))
theorem KF.drew (h : KF B T F a b) : KF B T F a b.drew := ⟨h.below.drew, fun i t cs ht hi => h.other i t cs ht hi, fun i hi => h.fin i hi, fun i cs hi => h.len i cs hi⟩
theorem KF.store (hg : Has a g T cs) (hB : B ≤ g) (hl : cs.length = F.length) (h : Has b g T F) (hU : But (fun k => k = g) a b) : KF B T F a b :=
  ⟨hU.below (fun k e => by omega) (by have := hg.lt; omega), fun i t c1 ht hi => hi.but hU (fun e => by subst e; exact has_ne hi hg ht rfl), fun i hi => by
    by_cases e : i = g
    · rw [e]; exact h
    · exact hi.but hU e, fun i c1 hi => by
    by_cases e : i = g
    · subst e
      have h2 : c1 = cs := by
        unfold Has at hi hg
        rw [hi] at hg
        simpa using hg
      exact ⟨F, by rw [h2, hl], h⟩
    · exact ⟨c1, rfl, hi.but hU e⟩⟩
end
end Go.Proofs.YtooeahpkhocaeaaDoor
