/- More laws of operations: fields, rows of structs, strings. No condition. -/
import Derived.Test.YthkbnbnfjnliaaaDoorTTop
import Derived.ArgAppend
namespace Go.Proofs.YthkbnbnfjnliaaaDoor
open Go.RowKit
set_option maxRecDepth 100000

section
variable {P : Program} {ops : Array Oper} {L : List (Nat × Value)} {w : World} {n : Nat} {ty : TypeId} {N R : Act → World → Prop} {X : Nat → Act → World → Prop} {a : Act} {Q : Exit → Act → World → Prop}
theorem add_lit' (b o i : Nat) : (⟨b, o, none⟩ : Addr).add i = ⟨b, o + i, none⟩ := by unfold Addr.add; split <;> simp_all
/-- A 'for' over whole numbers. -/
theorem qx_range {b : Nat} {tst rest : Code} {c : Operand} (I : Nat → Act → World → Prop) (k : Nat) (h0 : I k a w)
    (round : ∀ m a w, I m a w → tst.wp P (Qx (fun a1 w1 => ∃ t, a1.eval c = .bool t ∧ (t = false → N a1 w1) ∧ (t = true → rest.wp P (Qx (fun a2 w2 => ∃ m', m' < m ∧ I m' a2 w2) (fun i a2 w2 => (i = b ∧ N a2 w2) ∨ (i ≠ b ∧ X i a2 w2)) R) a1 w1)) (fun _ _ _ => False) (fun _ _ => False)) a w) :
    (Code.block b (.loop (.seq tst (.seq (.cond c .skip (.exit b)) rest)))).wp P (Qx N X R) a w := by
  refine wp_block (wp_loop_ghost I k h0 fun m a w hI => ?_)
  refine wp_seq (wp_mono (round m a w hI) fun e a1 w1 hq => ?_)
  cases e with
  | normal =>
    refine wp_seq ?_
    obtain ⟨t, ht, hf, htr⟩ := hq
    cases t with
    | false => exact wp_cond_false ht (wp_exit (by simp only [Exit.then, Exit.inBlock, if_true]; exact hf rfl))
    | true =>
      refine wp_cond_true ht (wp_skip ?_)
      refine wp_mono (htr rfl) fun e a2 w2 hq => ?_
      cases e with
      | normal => exact hq
      | exit i =>
        rcases hq with ⟨rfl, hn⟩ | ⟨hne, hn⟩
        · simp only [Exit.then, Exit.inBlock, if_true]; exact hn
        · simp only [Exit.then, Exit.inBlock, hne, if_false]; exact hn
      | ret => exact hq
      | _ => exact hq.elim
  | _ => exact hq.elim
theorem owns_mono {w : World} {b b' : Nat} {e : TypeId} {s n : Nat} {v : Value} {xs : List Value} (h : w.ownsRow b e s v n xs) (hb : b' ≤ b) : w.ownsRow b' e s v n xs := by
  refine ⟨h.1, ?_⟩
  rcases h.2 with h | ⟨g, cap, cur, h1, h2, h3⟩
  · exact .inl h
  · exact .inr ⟨g, cap, cur, h1, by omega, h3⟩
theorem owns_kept {w w' : World} {b : Nat} {e : TypeId} {s n : Nat} {v : Value} {xs : List Value} (h : w.ownsRow b e s v n xs) (k : Below w.heap.size w w') : w'.ownsRow b e s v n xs := by
  refine ⟨h.1, ?_⟩
  rcases h.2 with h | ⟨g, cap, cur, h1, h2, h3, h4⟩
  · exact .inl h
  · exact .inr ⟨g, cap, cur, h1, h2, (k.block g (Array.getElem?_eq_some_iff.1 h3).1).trans h3, h4⟩
/-- x[l:], of whatever slice. -/
theorem runs_sliceFromG {t e : TypeId} {x lo : Operand} {A : Option Addr} {m c l sz : Nat} {i : Int} (hx : vals L x = some (.slice A m c)) (hlo : vals L lo = some (.int .i64 i)) (hi' : i = (l : Int)) (hu : P.underlying t = some (.slice e)) (hs : (P.info? e).map (·.size) = some sz) (hlm : l ≤ m) :
    Runs P (.slice t x (some lo) none none) ty L w (Is (.slice (if c = l then A else A.map (·.add (l * sz))) (m - l) (c - l)) w) := fun o a K Q ho _ hL hK => by
  have ex := hL x (by simp [Op.operands]) _ hx
  have el := hL lo (by simp [Op.operands]) _ hlo
  subst hi'
  obtain ⟨ie, hie⟩ : ∃ ie, P.info? e = some ie := by
    cases h : P.info? e with
    | none => rw [h] at hs; cases hs
    | some ie => exact ⟨ie, rfl⟩
  have hsz : ie.size = sz := by rw [hie] at hs; simpa using hs
  unfold Oper.wp
  have : (execOp a.eval o).run P w = .ok (.value (.slice (if c = l then A else A.map (·.add (l * sz))) (m - l) (c - l))) w := by
    simp [execOp, ho, ex, el, Instr.sliceAt, run_underlying hu, Instr.slice, Instr.sliceBounds, Instr.sliceBound, asIntOf, hlm, sizeOf, typeInfo, hie, hsz]
  rw [this]
  exact hK _ _ ⟨rfl, rfl⟩
/-- x[:k], of whatever slice. -/
theorem runs_sliceToG {t e : TypeId} {x hi : Operand} {A : Option Addr} {m c k : Nat} {i : Int} (hx : vals L x = some (.slice A m c)) (hhi : vals L hi = some (.int .i64 i)) (hi' : i = (k : Int)) (hu : P.underlying t = some (.slice e)) (hs : (P.info? e).isSome = true) (hkc : k ≤ c) :
    Runs P (.slice t x none (some hi) none) ty L w (Is (.slice A k c) w) := fun o a K Q ho _ hL hK => by
  have ex := hL x (by simp [Op.operands]) _ hx
  have eh := hL hi (by simp [Op.operands]) _ hhi
  subst hi'
  obtain ⟨ie, hie⟩ := Option.isSome_iff_exists.1 hs
  have hadd : A.map (fun a : Addr => a.add 0) = A := by
    cases A with
    | none => rfl
    | some a => obtain ⟨b, o, s⟩ := a; cases s <;> rfl
  unfold Oper.wp
  have : (execOp a.eval o).run P w = .ok (.value (.slice A k c)) w := by
    simp [execOp, ho, ex, eh, Instr.sliceAt, run_underlying hu, Instr.slice, Instr.sliceBounds, Instr.sliceBound, asIntOf, hkc, sizeOf, typeInfo, hie, hadd]
  rw [this]
  exact hK _ _ ⟨rfl, rfl⟩
/-- Elements of sz cells. -/
theorem runs_indexAddrG {t e : TypeId} {x y : Operand} {g o' m c sz : Nat} {k : IntKind} {i : Int} {j : Nat} (hx : vals L x = some (.slice (some ⟨g, o', none⟩) m c)) (hy : vals L y = some (.int k i)) (hu : P.underlying t = some (.slice e))
    (hs : (P.info? e).map (·.size) = some sz) (hj : i = (j : Int)) (hl : j < m) : Runs P (.indexAddr t x y) ty L w (Is (.pointer (some ⟨g, o' + j * sz, none⟩)) w) := fun o a K Q ho _ hL hK => by
  have ex := hL x (by simp [Op.operands]) _ hx
  have ey := hL y (by simp [Op.operands]) _ hy
  subst hj
  obtain ⟨ie, hie⟩ : ∃ ie, P.info? e = some ie := by
    cases h : P.info? e with
    | none => rw [h] at hs; cases hs
    | some ie => exact ⟨ie, rfl⟩
  have hsz : ie.size = sz := by rw [hie] at hs; simpa using hs
  unfold Oper.wp
  have : (execOp a.eval o).run P w = .ok (.value (.pointer (some ⟨g, o' + j * sz, none⟩))) w := by
    simp only [execOp, ho, ex, ey]
    simp [Instr.indexAt, asIntOf, run_underlying hu, sizeOf, typeInfo, hie, hsz, hl, add_lit']
  rw [this]
  exact hK _ w ⟨rfl, rfl⟩
theorem runs_indexArrG {t e : TypeId} {x y : Operand} {g o' m sz : Nat} {k : IntKind} {i : Int} {j : Nat} (hx : vals L x = some (.pointer (some ⟨g, o', none⟩))) (hy : vals L y = some (.int k i)) (hu : P.underlying t = some (.array m e))
    (hs : (P.info? e).map (·.size) = some sz) (hj : i = (j : Int)) (hl : j < m) : Runs P (.indexAddr t x y) ty L w (Is (.pointer (some ⟨g, o' + j * sz, none⟩)) w) := fun o a K Q ho _ hL hK => by
  have ex := hL x (by simp [Op.operands]) _ hx
  have ey := hL y (by simp [Op.operands]) _ hy
  subst hj
  obtain ⟨ie, hie⟩ : ∃ ie, P.info? e = some ie := by
    cases h : P.info? e with
    | none => rw [h] at hs; cases hs
    | some ie => exact ⟨ie, rfl⟩
  have hsz : ie.size = sz := by rw [hie] at hs; simpa using hs
  unfold Oper.wp
  have : (execOp a.eval o).run P w = .ok (.value (.pointer (some ⟨g, o' + j * sz, none⟩))) w := by
    simp only [execOp, ho, ex, ey]
    simp [Instr.indexAt, Instr.sureAddr, asIntOf, run_underlying hu, sizeOf, typeInfo, hie, hsz, hl, add_lit']
  rw [this]
  exact hK _ w ⟨rfl, rfl⟩
theorem runs_buildSliceG {t e : TypeId} {len sz : Nat} {parts : Array (Nat × Operand)} {pv : List (Nat × Value)} {cells : Array Value} {ie : TypeInfo} {z : Value} (hx : parts.toList.map (fun p => (vals L p.2).map (fun v => (p.1, v))) = pv.map some)
    (hu : P.underlying t = some (.slice e)) (hie : P.info? e = some ie) (hz : ie.zero = some z) (hsz : ie.size = sz) (hsmall : len * sz ≤ 2 ^ 24) (hpos : 0 < len * sz)
    (hf : Instr.fill (fun i => some (i * sz, sz)) ((Array.range (len * sz)).map (z.cells[· % z.cells.size]!)) pv = some cells) : Runs P (.buildSlice t len parts) ty L w (Built w e len cells) := fun o a K Q ho _ hL hK => by
  refine wp_buildSlice t e len parts ho cells ie z hu hie hz (by rw [hsz]; omega) (by rw [hsz]; omega) ?_ (hK _ _ ⟨rfl, rfl⟩)
  rw [hsz, Array.toList_map, show (List.map (fun x : Nat × Operand => match x with | (i, x) => (i, a.eval x)) parts.toList) = parts.toList.map (fun p => (p.1, a.eval p.2)) from rfl, map_eval parts.toList pv (fun p hp v hv => hL p.2 ?_ v hv) hx]
  · exact hf
  · simp only [Op.operands, List.mem_toArray, List.mem_map]; exact ⟨p, hp, rfl⟩
theorem runs_catG {t t' : TypeId} {x y : Operand} {a b r : ByteArray} (hx : vals L x = some (.string a)) (hy : vals L y = some (.string b)) (hr : a ++ b = r) (hz : a.size + b.size ≤ 1000000) : Runs P (.binOp .add t x y t') ty L w (Is (.string r) w) :=
  runs_bin hx hy rfl (by rw [← hr]; exact (show Sem.run P (Op.stringOp .add a b) w = _ from run_string_add_sum w a b (by omega)))
end
end Go.Proofs.YthkbnbnfjnliaaaDoor
