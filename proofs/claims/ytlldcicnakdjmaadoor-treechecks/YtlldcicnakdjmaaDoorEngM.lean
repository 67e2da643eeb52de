/- Laws for walking by facts on slots: regions that draw and only read; slices that are built, appended to, stored to. Conditions: one cell an element. -/
import Derived.Test.YtlldcicnakdjmaaDoorEngD
import Derived.Great.BuildSlice
namespace Go.Proofs.YtlldcicnakdjmaaDoor
open Go.RowKit

def Drawn (V w : World) : Prop := ∃ k, w = V.drewN k
theorem Drawn.refl (V : World) : Drawn V V := ⟨0, rfl⟩
theorem Drawn.drew {V w : World} (h : Drawn V w) : Drawn V w.drew := by obtain ⟨k, rfl⟩ := h; exact ⟨k + 1, rfl⟩
theorem Drawn.trans {V w w' : World} (h : Drawn V w) (h' : Drawn w w') : Drawn V w' := by obtain ⟨k, rfl⟩ := h; obtain ⟨j, rfl⟩ := h'; exact ⟨k + j, by rw [World.drewN_drewN]⟩
theorem Drawn.cell {V w : World} (h : Drawn V w) {ad : Addr} {v : Value} (hc : V.cell? ad = some v) : w.cell? ad = some v := by obtain ⟨k, rfl⟩ := h; exact hc
section
variable {P : Program} {ops : Array Oper} {L : List (Nat × Value)} {w : World} {n : Nat} {ty : TypeId} {N R : Act → World → Prop} {X : Nat → Act → World → Prop} {a : Act}
/-- A region that draws and only reads. -/
theorem reg_quiet {id : Nat} (C : World → Prop) (hm : P.follows .mixedOrders = true) (hchk : chkDraw ops n ops.size (Array.replicate ops.size false) = true) (hL : Sees n L a) (hC : C w) (hCd : ∀ w, C w → C w.drew)
    (h : QSeq P C (Array.replicate ops.size false) (fun L' => ∀ a' w', Sees n L' a' → C w' → N a' w') (ops.toList.take ops.size) 0 L) : (Code.region id ops true).wp P (Qx N X R) a w := by
  refine wp_region_held (S := fun _ => True) hm ?_
  have hcount : (List.range ops.size).countP (fun i => !(Array.replicate ops.size false).getD i true) = ops.size := by
    rw [List.countP_eq_length.2 (fun i hi => by simp [List.mem_range.1 hi]), List.length_range]
  have := draw_quiet (Q := Qx N X R) (S := fun _ => True) ops.size C (Array.replicate ops.size false) ops.size 0 (w := w.drew) hchk hcount (fun _ _ => trivial) (hCd w hC) hL (P := P) ?_
  · exact this
  · have hmono : ∀ (os : List Oper) (i : Nat) (L : List (Nat × Value)), QSeq P C (Array.replicate ops.size false) (fun L' => ∀ a' w', Sees n L' a' → C w' → N a' w') os i L →
        QSeq P C (Array.replicate ops.size false) (fun L' => ∀ a' w', Sees n L' a' → C w' → wpAnyH P .any ops (Qx N X R) (fun _ => True) 0 (lastOf ops ops.size) a' w') os i L := by
      intro os
      induction os with
      | nil =>
        intro i L h a' w' hS hC
        refine wpAnyH_done ?_ (h a' w' hS hC) 0
        apply List.eq_nil_iff_forall_not_mem.2
        intro j hj
        obtain ⟨h0, o, ho, _⟩ := mem_ready.1 hj
        have hjs := (Array.getElem?_eq_some_iff.1 ho).1
        simp [lastOf, hjs] at h0
      | cons o os ih =>
        intro i L h
        rw [QSeq] at h ⊢
        split at h
        · rename_i hl; rw [if_pos hl]; exact ih _ _ h
        · rename_i hl
          rw [if_neg hl]
          obtain ⟨v, hv, h⟩ := h
          exact ⟨v, hv, ih _ _ h⟩
    exact hmono _ _ _ h
/-- A region that draws: some that only read, then a tail. -/
theorem reg_tail {id : Nat} (C : World → Prop) (m F : Nat) (hm : P.follows .mixedOrders = true) (hmF : m + F = ops.size) (hchk : chkDraw ops n m (Array.replicate ops.size false) = true) (hL : Sees n L a) (hC : C w) (hCd : ∀ w, C w → C w.drew)
    (h : QSeq P C (Array.replicate ops.size false) (fun L' => ∀ a' w', Sees n L' a' → C w' → wpAnyH P .any ops (Qx N X R) (fun _ => True) F (lastOf ops m) a' w') (ops.toList.take m) 0 L) : (Code.region id ops true).wp P (Qx N X R) a w := by
  refine wp_region_held (S := fun _ => True) hm ?_
  have hcount : (List.range m).countP (fun i => !(Array.replicate ops.size false).getD i true) = m := by
    rw [List.countP_eq_length.2 (fun i hi => by have := List.mem_range.1 hi; simp [show i < ops.size by omega]), List.length_range]
  have := draw_quiet (Q := Qx N X R) (S := fun _ => True) m C (Array.replicate ops.size false) m F (w := w.drew) hchk hcount (fun _ _ => trivial) (hCd w hC) hL (P := P) h
  rw [hmF] at this
  exact this
/-- The same, its first operation a copy that is taken first. -/
theorem reg_tail1 {id : Nat} {d : Nat} {x : Operand} {ty : TypeId} {pos : String} {aft : Array Edge} {v : Value} (C : World → Prop) (m F : Nat) (hm : P.follows .mixedOrders = true) (ho : ops[0]? = some ⟨some d, .move x, ty, pos, aft, none⟩) (hx : vals L x = some v) (hd : d < n)
    (hmF : m + F = ops.size) (h1m : 1 ≤ m) (hs : Region.noSelect ops = true) (hf : Region.free .any ops (Array.replicate ops.size false) 0 = true) (hr : (Region.ready .any ops (Array.replicate ops.size false)).contains 0 = true)
    (hchk : chkDraw ops n m ((Array.replicate ops.size false).setIfInBounds 0 true) = true) (hL : Sees n L a) (hC : C w) (hCd : ∀ w, C w → C w.drew)
    (h : QSeq P C ((Array.replicate ops.size false).setIfInBounds 0 true) (fun L' => ∀ a' w', Sees n L' a' → C w' → wpAnyH P .any ops (Qx N X R) (fun _ => True) F (lastOf ops m) a' w') (ops.toList.take m) 0 ((d, v) :: L)) : (Code.region id ops true).wp P (Qx N X R) a w := by
  refine wp_region_held (S := fun _ => True) hm ?_
  have hcount : (List.range m).countP (fun i => !((Array.replicate ops.size false).setIfInBounds 0 true).getD i true) = m - 1 := by
    have hget : ∀ (j : Nat) (b : Bool), ((Array.replicate ops.size false).setIfInBounds 0 true).getD j b = if 0 = j then true else (Array.replicate ops.size false).getD j b := fun j b => by
      by_cases hij : 0 = j
      · subst hij; simp [show 0 < ops.size by omega]
      · rw [if_neg hij, getD_set_ne b hij]
    have := countP_set m (Array.replicate ops.size false) 0 (by omega) (by simp [show 0 < ops.size by omega]) hget
    have h2 : (List.range m).countP (fun i => !(Array.replicate ops.size false).getD i true) = m := by
      rw [List.countP_eq_length.2 (fun i hi => by have := List.mem_range.1 hi; simp [show i < ops.size by omega]), List.length_range]
    omega
  have hfuel : ops.size = (m - 1 + F) + 1 := by omega
  suffices H : wpAnyH P .any ops (Qx N X R) (fun _ => True) ((m - 1 + F) + 1) (Array.replicate ops.size false) a w.drew by
    rw [← hfuel] at H; exact H
  exact pre_move 0 ho hs hf hr (fun _ _ _ h => h) hL hd hx trivial fun a' hL' => draw_quiet (Q := Qx N X R) (S := fun _ => True) m C _ (m - 1) F (w := w.drew) hchk hcount (fun _ _ => trivial) (hCd w hC) hL' (P := P) h
/-- A region that does not draw. -/
theorem reg_seq {id : Nat} {l : List Oper} {Q : Exit → Act → World → Prop} (h : wpList P l.toArray Q l a w) : (Code.region id l.toArray false).wp P Q a w := wp_region_lit h
def Built (w : World) (e : TypeId) (m : Nat) (cells : Array Value) : Value → World → Prop := fun v w' => v = .slice (some ⟨w.heap.size, 0, none⟩) m m ∧ w' = w.alloc (.cells cells e)
theorem map_eval {L : List (Nat × Value)} {a : Act} : ∀ (ps : List (Nat × Operand)) (pv : List (Nat × Value)), (∀ p ∈ ps, ∀ v, vals L p.2 = some v → a.eval p.2 = v) → ps.map (fun p => (vals L p.2).map (fun v => (p.1, v))) = pv.map some → ps.map (fun p => (p.1, a.eval p.2)) = pv
  | [], pv, _, h => by cases pv with | nil => rfl | cons _ _ => simp at h
  | p :: ps, pv, hp, h => by
    cases pv with
    | nil => simp at h
    | cons u pv =>
      simp only [List.map_cons, List.cons.injEq] at h ⊢
      refine ⟨?_, map_eval ps pv (fun q hq => hp q (by simp [hq])) h.2⟩
      cases hv : vals L p.2 with
      | none => rw [hv] at h; simp at h
      | some v =>
        rw [hv] at h
        simp only [Option.map_some, Option.some.injEq] at h
        rw [hp p (by simp) v hv, h.1]
theorem runs_buildSlice {t e : TypeId} {len : Nat} {parts : Array (Nat × Operand)} {pv : List (Nat × Value)} {cells : Array Value} {ie : TypeInfo} {z : Value} (hx : parts.toList.map (fun p => (vals L p.2).map (fun v => (p.1, v))) = pv.map some)
    (hu : P.underlying t = some (.slice e)) (hie : P.info? e = some ie) (hz : ie.zero = some z) (hsz : ie.size = 1) (hsmall : len ≤ 2 ^ 24) (hpos : 0 < len)
    (hf : Instr.fill (fun i => some (i * 1, 1)) ((Array.range (len * 1)).map (z.cells[· % z.cells.size]!)) pv = some cells) : Runs P (.buildSlice t len parts) ty L w (Built w e len cells) := fun o a K Q ho _ hL hK => by
  refine wp_buildSlice t e len parts ho cells ie z hu hie hz (by rw [hsz]; omega) (by rw [hsz]; omega) ?_ (hK _ _ ⟨rfl, rfl⟩)
  rw [hsz, Array.toList_map, show (List.map (fun x : Nat × Operand => match x with | (i, x) => (i, a.eval x)) parts.toList) = parts.toList.map (fun p => (p.1, a.eval p.2)) from rfl, map_eval parts.toList pv (fun p hp v hv => hL p.2 ?_ v hv) hx]
  · exact hf
  · simp only [Op.operands, List.mem_toArray, List.mem_map]; exact ⟨p, hp, rfl⟩
theorem runs_buildNone {t e : TypeId} {ie : TypeInfo} (hu : P.underlying t = some (.slice e)) (hie : P.info? e = some ie) : Runs P (.buildSlice t 0 #[]) ty L w (Built w e 0 #[]) := fun o a K Q ho _ hL hK => by
  unfold Oper.wp execOp
  have : (Instr.buildSlice t 0 (#[] : Array (Nat × Value))).run P w = .ok (.slice (some ⟨w.heap.size, 0, none⟩) 0 0) (w.alloc (.cells #[] e)) := by
    simp [Instr.buildSlice, run_underlying hu, sizeOf, typeInfo, hie, Instr.fill, newRow]
    rw [show Array.range 0 = #[] from Array.eq_empty_of_size_eq_zero (by simp), Array.map_empty]
  simp only [ho, List.map_toArray, List.map_nil, Sem.run_bind, this, Result.andThen_ok]
  exact hK _ _ ⟨rfl, rfl⟩
def Appended (w : World) (base : Nat) (e : TypeId) (v : Value) (k : Nat) (xs : List Value) : Value → World → Prop := fun v' w' => w'.ownsRow base e 1 v' k xs ∧ w.grownBy w' v.ownBlock ∧ v' ≠ .slice none 0 0
theorem runs_append {t e : TypeId} {s x : Operand} {i : TypeInfo} {z v : Value} {bytes base k m c : Nat} {xs news : List Value} {ad : Addr} (ht : P.underlying t = some (.slice e)) (hi : P.info? e = some i) (hz : i.zero = some z)
    (hsize : i.size = 1) (hby : i.bytes = bytes) (hzs : z.cells.size = 1) (hs : vals L s = some v) (hown : w.ownsRow base e 1 v k xs) (hx : vals L x = some (.slice (some ad) m c)) (hl : news.length = m) (hnews : ∀ j u, news[j]? = some u → w.cell? (ad.add j) = some u)
    (h1 : ∀ u ∈ news, u.oneCell' = true) (h63 : k + m ≤ maxLen) (hbytes : (k + m) * bytes ≤ 140737488355328) (hbase : base ≤ w.heap.size) (hm : 0 < m) :
    Runs P (.call { callee := .builtin .append, args := #[s, x], argTypes := #[t, t] }) ty L w (Appended w base e v (k + m) (xs ++ news)) := fun o a K Q ho _ hL hK => by
  refine wp_append_own w s x t ho base e i z 1 bytes ht hi hz hsize hby hzs (by omega) v k xs (hL s (by simp [Op.operands, Call.operands]) v hs) hown ad m c news (hL x (by simp [Op.operands, Call.operands]) _ hx) (by omega) hnews h1 h63 hbytes hbase ?_
  intro v' w' h2 h3 h4
  exact hK v' w' ⟨h2, h3, fun e => by have := (h4.1 e).2; omega⟩
theorem runs_store {t : TypeId} {x y : Operand} {ad : Addr} {v u : Value} (hx : vals L x = some (.pointer (some ad))) (hy : vals L y = some v) (hone : v.oneCell' = true) (hs : (P.info? t).map (·.size) = some 1) (hc : w.cell? ad = some u) (hfr : w.frozen? ad = false) :
    Runs P (.store t x y) ty L w (Is undef (w.setCell ad v)) := fun o a K Q ho _ hL hK => by
  have ex := hL x (by simp [Op.operands]) _ hx
  have ey := hL y (by simp [Op.operands]) _ hy
  obtain ⟨ie, hie⟩ : ∃ ie, P.info? t = some ie := by
    cases h : P.info? t with
    | none => rw [h] at hs; cases hs
    | some ie => exact ⟨ie, rfl⟩
  have hsz : ie.size = 1 := by rw [hie] at hs; simpa using hs
  have hvc : v.cells = #[v] := by cases v <;> first | rfl | simp [Value.oneCell'] at hone
  unfold Oper.wp
  have : (execOp a.eval o).run P w = .ok .skip (w.setCell ad v) := by
    have hst : (store ad v).run P w = .ok () (w.setCell ad v) := by
      rw [run_store P w ad v _ (by cases v <;> first | rfl | simp [Value.oneCell'] at hone)]
      simp [hc, hfr]
    simp only [execOp, ho, ex, ey]
    simp [Instr.storeAt, Instr.sureAddr, storeVar, sizeOf, typeInfo, hie, hsz, hvc, storeCells, show ad.add 0 = ad from rfl, hst]
  rw [this]
  exact hK _ _ ⟨rfl, rfl⟩
end
/-- The block number id. -/
def blockIn (id : Nat) : Code → Option Code
  | .block i c => if i = id then some (.block i c) else blockIn id c
  | .loop c => blockIn id c
  | .scope c => blockIn id c
  | .seq a b => match blockIn id a with
    | some c => some c
    | none => blockIn id b
  | .cond _ a b => match blockIn id a with
    | some c => some c
    | none => blockIn id b
  | _ => none
/-- The region number id. -/
def regionIn (id : Nat) : Code → Option Code
  | .region i ops d => if i = id then some (.region i ops d) else none
  | .block _ c => regionIn id c
  | .loop c => regionIn id c
  | .scope c => regionIn id c
  | .seq a b => match regionIn id a with
    | some c => some c
    | none => regionIn id b
  | .cond _ a b => match regionIn id a with
    | some c => some c
    | none => regionIn id b
  | _ => none
end Go.Proofs.YtlldcicnakdjmaaDoor
