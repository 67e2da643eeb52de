/- Layer 3: Check. Conditions: the table of constants lies as it was laid; a leaf of at most 100000 bytes, at most 1000 sums. -/
import Derived.Test.YtbcmglggplmkfaaDoorTProve
import Derived.Test.YtbcmglggplmkfaaDoorJD
namespace Go.Proofs.YtbcmglggplmkfaaDoor
open Go.RowKit
set_option maxRecDepth 100000

/-- What a leaf's sum and a proof come to on the way up. -/
def ups (t : List Nat) : List (Nat × Nat × Bool) → List (List Nat) → List Nat
  | [], _ => t
  | _ :: _, [] => t
  | x :: xs, h :: hs => ups (Tree.step t h x.2.2) xs hs
theorem ups_more : ∀ (done : List (Nat × Nat × Bool)) (hs : List (List Nat)) (t : List Nat) (x : Nat × Nat × Bool), done.length < hs.length → ups t (done ++ [x]) hs = Tree.step (ups t done hs) (hs.getD done.length []) x.2.2
  | [], [], _, _, h => by simp at h
  | [], h :: hs, t, x, _ => by simp [ups]
  | d :: done, [], _, _, h => by simp at h
  | d :: done, h :: hs, t, x, hl => by
    have := ups_more done hs (Tree.step t h d.2.2) x (by simpa using hl)
    simpa [ups] using this
theorem ups_len (t : List Nat) (ht : t.length = 32) : ∀ (xs : List (Nat × Nat × Bool)) (hs : List (List Nat)), (ups t xs hs).length = 32 := by
  intro xs
  induction xs generalizing t with
  | nil => intro hs; exact ht
  | cons x xs ih =>
    intro hs
    cases hs with
    | nil => exact ht
    | cons h hs => exact ih _ (by unfold Tree.step; split <;> exact Tree.node_len _ _) hs
theorem ups_bytes (t : List Nat) (ht : Sha.Bytes t) : ∀ (xs : List (Nat × Nat × Bool)) (hs : List (List Nat)), Sha.Bytes (ups t xs hs) := by
  intro xs
  induction xs generalizing t with
  | nil => intro hs; exact ht
  | cons x xs ih =>
    intro hs
    cases hs with
    | nil => exact ht
    | cons h hs => exact ih _ (by unfold Tree.step; split <;> exact sha_bytes _) hs
/-- What the closure of Check keeps. -/
structure CkI (w0 w' : World) (gp gu gt gr : Nat) (pv : Value) (used : Nat) (cur : List Nat) (root : List Nat) : Prop where
  p : Has w' gp 42 [pv]
  u : Has w' gu 3 [.int .i64 (used : Int)]
  t : Has w' gt 39 (U8 cur)
  r : Has w' gr 39 (U8 root)
  b : Below w0.heap.size w0 w'
set_option maxRecDepth 100000 in
set_option maxHeartbeats 1000000 in
theorem check1_any (w0 w : World) (gp gu gt gr used : Nat) (pv v0 v1 : Value) (left : Bool) (cur root : List Nat) (hs : List (List Nat)) (hH : Hashes w0 pv hs) (hI : CkI w0 w gp gu gt gr pv used cur root) (hul : used < hs.length) (hlen : hs.length ≤ 1000) (hcl : cur.length = 32) (hcb : Sha.Bytes cur) (hk : Kept w0) (hgt : w0.heap.size ≤ gt) (hgu : w0.heap.size ≤ gu) (htr : gt ≠ gr) :
    Calls Tryd.prog 47 #[v0, v1, .bool left, .pointer (some ⟨gp, 0, none⟩), .pointer (some ⟨gu, 0, none⟩), .pointer (some ⟨gt, 0, none⟩)] w fun r w' => r = .returned (.tuple #[]) ∧ CkI w0 w' gp gu gt gr pv (used + 1) (Tree.step cur (hs.getD used []) left) root := by
  refine calls_qx (args := [v0, v1, .bool left, .pointer (some ⟨gp, 0, none⟩), .pointer (some ⟨gu, 0, none⟩), .pointer (some ⟨gt, 0, none⟩)]) 23 Tryd.func47 rfl (by kernel_rfl) (by simp) (fun a hS => ?_)
  obtain ⟨A, c, rfl, hc1, hc2, hok, hA⟩ := hH.kept (w' := w) ⟨hI.b.os, hI.b.tape, hI.b.output, hI.b.size, hI.b.block⟩
  obtain ⟨b, o, rfl, hb, hra⟩ := hA (by omega)
  have hgu1 : gu ≠ gp := Has.ne hI.u hI.p (by decide)
  have hgu2 : gu ≠ gt := Has.ne hI.u hI.t (by decide)
  have hgu3 : gu ≠ gr := Has.ne hI.u hI.r (by decide)
  have hgt1 : gt ≠ gp := Has.ne hI.t hI.p (by decide)
  obtain ⟨x, hx⟩ : ∃ x, x = hs.getD used [] := ⟨_, rfl⟩
  have hxm : x ∈ hs := by
    rw [hx, List.getD_eq_getElem?_getD, List.getElem?_eq_getElem hul]
    exact List.getElem_mem hul
  obtain ⟨hxl, hxb⟩ := hok x hxm
  have hrx : w.rangeAt b (o + used * 32) (U8 x) := by
    have h1 := range_sub hra (32 * used) 32
    have h2 := flatten_get hs used (fun h hh => (hok h hh).1) hul
    rw [← hx] at h2
    have h3 : ((U8 hs.flatten).drop (32 * used)).take 32 = U8 x := by rw [← h2]; simp [U8, List.map_take, List.map_drop]
    rw [h3, show 32 * used = used * 32 by omega] at h1
    exact h1
  rw [← hx]
  refine qx_seq (reg_seq ?_)
  refine seq_is hS (by decide) (runs_load rfl (by kernel_rfl) (hI.p.cell 0)) (fun a1 hS => ?_)
  refine seq_is hS (by decide) (runs_load rfl (by kernel_rfl) (hI.u.cell 0)) (fun a1 hS => ?_)
  refine seq_is hS (by decide) (runs_indexAddrN (j := used) rfl rfl undHashes infHash rfl hul) (fun a1 hS => ?_)
  refine seq_is hS (by decide) (runs_loadMid rfl hrx undHash rfl (by rw [infHash, U8_length, hxl])) (fun a1 hS => ?_)
  refine seq_op hS (by decide) alloc_hash (fun v2 w1 a1 hp1 hS => ?_)
  obtain ⟨rfl, rfl⟩ := hp1
  have hH1 := Has.new w 39 (U8 (List.replicate 32 0))
  have hB1 : Below w.heap.size w (w.alloc (.cells (U8 (List.replicate 32 0)).toArray 39)) := (Below.refl _ _).alloc (Nat.le_refl _) _
  have hz1 : (w.alloc (.cells (U8 (List.replicate 32 0)).toArray 39)).heap.size = w.heap.size + 1 := by simp
  generalize w.alloc (.cells (U8 (List.replicate 32 0)).toArray 39) = w1 at *
  refine seq_none hS (runs_storeRow rfl rfl hH1 (by simp [hxl]) (agg_all _) (by rw [infHash]; simp [hxl])) (fun v3 w2 a2 hp2 hS => ?_)
  obtain ⟨rfl, rfl⟩ := hp2
  have hX2 := has_setRow (cs := U8 x) hH1
  have hB2 : Below w.heap.size w (w1.setRow w.heap.size (U8 x).toArray) := below_row hB1 (Nat.le_refl _) _
  have hz2 : w.heap.size < (w1.setRow w.heap.size (U8 x).toArray).heap.size := by simp [World.setRow, hz1]
  generalize w1.setRow w.heap.size (U8 x).toArray = w2 at *
  have hp2 := hI.p.below hB2 hI.p.lt
  have hu2 := hI.u.below hB2 hI.u.lt
  have ht2 := hI.t.below hB2 hI.t.lt
  have hr2 := hI.r.below hB2 hI.r.lt
  have hb2 : Below w0.heap.size w0 w2 := hI.b.trans (hB2.mono hI.b.size)
  have l1 := hI.p.lt
  have l2 := hI.u.lt
  have l3 := hI.t.lt
  have l4 := hI.r.lt
  refine nil_ok (qx_seq (reg_seq ?_))
  refine seq_is hS (by decide) (runs_load rfl (by kernel_rfl) (hu2.cell 0)) (fun a1 hS => ?_)
  refine seq_is hS (by decide) (runs_add rfl rfl ((IntWalk.i64_in _ (by omega)).trans (show _ = ((used + 1 : Nat) : Int) by omega))) (fun a1 hS => ?_)
  refine seq_none hS (runs_store rfl rfl rfl infInt1 (hu2.cell 0) (hu2.open_ 0)) (fun v4 w3 a3 hp3 hS => ?_)
  obtain ⟨rfl, rfl⟩ := hp3
  have hu3 : Has (w2.setCell ⟨gu, 0, none⟩ (.int .i64 ((used + 1 : Nat) : Int))) gu 3 [.int .i64 ((used + 1 : Nat) : Int)] := hu2.set_ 0 _
  have hp3 : Has (w2.setCell ⟨gu, 0, none⟩ (.int .i64 ((used + 1 : Nat) : Int))) gp 42 [.slice (some ⟨b, o, none⟩) hs.length c] := hp2.far (by simpa using hgu1.symm) _
  have ht3 : Has (w2.setCell ⟨gu, 0, none⟩ (.int .i64 ((used + 1 : Nat) : Int))) gt 39 (U8 cur) := ht2.far (by simpa using hgu2.symm) _
  have hr3 : Has (w2.setCell ⟨gu, 0, none⟩ (.int .i64 ((used + 1 : Nat) : Int))) gr 39 (U8 root) := hr2.far (by simpa using hgu3.symm) _
  have hX3 : Has (w2.setCell ⟨gu, 0, none⟩ (.int .i64 ((used + 1 : Nat) : Int))) w.heap.size 39 (U8 x) := hX2.far (by simp; omega) _
  have hb3 : Below w0.heap.size w0 (w2.setCell ⟨gu, 0, none⟩ (.int .i64 ((used + 1 : Nat) : Int))) := hb2.setCell (by simpa using hgu) _
  have hk3 : Kept (w2.setCell ⟨gu, 0, none⟩ (.int .i64 ((used + 1 : Nat) : Int))) := hk.below hb3 hk.pos
  generalize w2.setCell ⟨gu, 0, none⟩ (.int .i64 ((used + 1 : Nat) : Int)) = w3 at *
  have fin : ∀ (l r : List Nat) (w4 : World) (a4 : Act) (L : List (Nat × Value)), Below w3.heap.size w3 w4 → Sees 23 L a4 → look L 5 = some (.pointer (some ⟨gt, 0, none⟩)) → Tree.node l r = Tree.step cur x left → CkI w0 (w4.setRow gt (U8 (Tree.node l r)).toArray) gp gu gt gr (.slice (some ⟨b, o, none⟩) hs.length c) (used + 1) (Tree.step cur x left) root := fun l r w4 a4 L hB4 _ _ he => by
    have hother : ∀ g t cs, Has w3 g t cs → g ≠ gt → Has (w4.setRow gt (U8 (Tree.node l r)).toArray) g t cs := fun g t cs h hne => (setRow_other w4 gt g _ hne).trans (h.below hB4 h.lt)
    refine ⟨hother _ _ _ hp3 hgt1.symm, hother _ _ _ hu3 hgu2, ?_, hother _ _ _ hr3 htr.symm, ?_⟩
    · rw [← he]; exact has_setRow (cs := U8 (Tree.node l r)) (ht3.below hB4 ht3.lt)
    · have hb4 := hb3.trans (hB4.mono hb3.size)
      exact ⟨hb4.os, hb4.tape, hb4.output, by simpa [World.setRow] using hb4.size, fun i hi => (setRow_other w4 gt i _ (by omega)).trans (hb4.block i hi)⟩
  refine nil_ok (qx_seq (reg_seq ?_))
  refine seq_is hS (by decide) (runs_move rfl) (fun a1 hS => ?_)
  cases left with
  | true =>
    refine nil_ok (wp_cond_true (hS.eval rfl) (reg_seq ?_))
    refine seq_is hS (by decide) (runs_loadRow rfl hX3 undHash rfl (by rw [infHash, U8_length, hxl])) (fun a1 hS => ?_)
    refine seq_is hS (by decide) (runs_loadRow rfl ht3 undHash rfl (by rw [infHash, U8_length, hcl])) (fun a1 hS => ?_)
    refine seq_op hS (by decide) (runs_call (args := [.agg (U8 x).toArray, .agg (U8 cur).toArray]) goes48 rfl (hash_post (fun w' => Below w3.heap.size w3 w') (node_any x cur w3 hxl hcl hxb hcb hk3) (fun _ h => h))) (fun v5 w5 a5 hp5 hS => ?_)
    obtain ⟨rfl, hB5⟩ := hp5
    have hnl := Tree.node_len x cur
    refine seq_none hS (runs_storeRow rfl rfl (ht3.below hB5 ht3.lt) (by simp [hnl, hcl]) (agg_all _) (by rw [infHash]; simp [hnl])) (fun v6 w6 a6 hp6 hS => ?_)
    obtain ⟨rfl, rfl⟩ := hp6
    exact nil_ok (ret0 (by kernel_rfl) hS ⟨rfl, fin x cur w5 a6 _ hB5 hS rfl rfl⟩)
  | false =>
    refine nil_ok (wp_cond_false (hS.eval rfl) (reg_seq ?_))
    refine seq_is hS (by decide) (runs_loadRow rfl ht3 undHash rfl (by rw [infHash, U8_length, hcl])) (fun a1 hS => ?_)
    refine seq_is hS (by decide) (runs_loadRow rfl hX3 undHash rfl (by rw [infHash, U8_length, hxl])) (fun a1 hS => ?_)
    refine seq_op hS (by decide) (runs_call (args := [.agg (U8 cur).toArray, .agg (U8 x).toArray]) goes48 rfl (hash_post (fun w' => Below w3.heap.size w3 w') (node_any cur x w3 hcl hxl hcb hxb hk3) (fun _ h => h))) (fun v5 w5 a5 hp5 hS => ?_)
    obtain ⟨rfl, hB5⟩ := hp5
    have hnl := Tree.node_len cur x
    refine seq_none hS (runs_storeRow rfl rfl (ht3.below hB5 ht3.lt) (by simp [hnl, hcl]) (agg_all _) (by rw [infHash]; simp [hnl])) (fun v6 w6 a6 hp6 hS => ?_)
    obtain ⟨rfl, rfl⟩ := hp6
    exact nil_ok (ret0 (by kernel_rfl) hS ⟨rfl, fin cur x w5 a6 _ hB5 hS rfl rfl⟩)
section
variable {L : List (Nat × Value)} {w : World} {ty : TypeId}
theorem runs_eqHash {t' : TypeId} {X Y : Operand} {x y : List Nat} {r : Bool} (hx : vals L X = some (.agg (U8 x).toArray)) (hy : vals L Y = some (.agg (U8 y).toArray)) (lx : x.length = 32) (ly : y.length = 32) (hr : (x == y) = r) : Runs Tryd.prog (.binOp .eql 39 X Y t') ty L w (Is (.bool r) w) := fun o a K Q ho _ hL hK => by
  have ex := hL X (by simp [Op.operands]) _ hx
  have ey := hL Y (by simp [Op.operands]) _ hy
  have h := run_eqHash x y lx ly w
  have hg : (eqGuard .eql 39 X Y (.agg (U8 x).toArray) (.agg (U8 y).toArray)).run Tryd.prog w = .ok () w := by
    have hp : Tryd.prog.eqGuardType Tryd.prog.depth 26 = false := by kernel_rfl
    simp [eqGuard]
  unfold Oper.wp
  have : (execOp a.eval o).run Tryd.prog w = .ok (.value (.bool r)) w := by
    simp only [execOp, ho, ex, ey]
    simp only [Sem.run_bind, hg, Result.andThen_ok, h, hr, Sem.run_pure]
  rw [this]
  exact hK _ w ⟨rfl, rfl⟩
end
/-- Does a proof prove it? -/
def checkB (root : List Nat) (n at_ : Int) (leaf : List Nat) (hs : List (List Nat)) : Bool :=
  if n > 1073741824 ∨ thereB n at_ = false ∨ hs.length ≠ deepZ n at_ then false else Tree.root n.toNat (ups (Tree.leaf leaf) (Tree.path 0 n.toNat at_.toNat) hs) == root
theorem climb_ret {f : FuncId} {args : Array Value} {w : World} {I : World → Prop} (h : Calls Tryd.prog f args w fun r w' => r = .returned (.tuple #[]) ∧ I w') : Calls Tryd.prog f args w fun e w' => ∃ v, e = .returned v ∧ I w' := h.mono (by rintro e w' ⟨rfl, h⟩; exact ⟨_, rfl, h⟩)
noncomputable def ops27 (id : Nat) : Array Oper := match (Tryd.f21.body.bind (regionIn id)) with | some (.region _ ops _) => ops | _ => #[]
noncomputable def reg27 (id : Nat) : Code := ((Tryd.f21.body.bind (regionIn id)).getD .skip)
/-- What is wrong ahead of all sums. -/
def badB (n at_ : Int) (m : Nat) : Bool := decide (n > 1073741824) || !thereB n at_ || !(m == deepZ n at_)
theorem deep_post {n at_ : Int} {w : World} (C : World → Prop) (hC : ∀ w', Below w.heap.size w w' → C w') : Calls Tryd.prog 45 [Value.int .i64 n, .int .i64 at_].toArray w fun e w' => ∃ v, e = .returned v ∧ v = .int .i64 ((deepZ n at_ : Nat) : Int) ∧ C w' ∧ Below w.heap.size w w' :=
  (deep_any n at_ w).mono (by rintro e w' ⟨rfl, h⟩; exact ⟨_, rfl, rfl, hC w' h, h⟩)
set_option maxRecDepth 100000 in
set_option maxHeartbeats 1000000 in
theorem test27 (N R : Act → World → Prop) (X : Nat → Act → World → Prop) (n at_ : Int) (s p5 : Value) (gp m c : Nat) (A : Option Addr) (w : World) (a : Act) (hS : Sees 40 [(1, .int .i64 n), (2, .int .i64 at_), (3, s), (5, p5), (9, .pointer (some ⟨gp, 0, none⟩))] a) (hp : Has w gp 42 [.slice A m c])
    (h : ∀ a' w', Below w.heap.size w w' → Sees 40 [(28, .bool (badB n at_ m)), (1, .int .i64 n), (2, .int .i64 at_), (3, s), (5, p5), (9, .pointer (some ⟨gp, 0, none⟩))] a' → N a' w') : (reg27 1).wp Tryd.prog (Qx N X R) a w := by
  have fin : ∀ (L : List (Nat × Value)), Among L [(28, .bool (badB n at_ m)), (1, .int .i64 n), (2, .int .i64 at_), (3, s), (5, p5), (9, .pointer (some ⟨gp, 0, none⟩))] → ∀ a' w', Sees 40 L a' → Below w.heap.size w w' → wpAnyH Tryd.prog .any (ops27 1) (Qx N X R) (fun _ => True) 0 (lastOf (ops27 1) 16) a' w' := fun L hA a' w' hS' hB' =>
    wpAnyH_done (by kernel_rfl) (h a' w' hB' (hS'.only _ hA)) 0
  by_cases h1 : n > 1073741824
  · have hb : badB n at_ m = true := by simp [badB, h1]
    rw [hb] at fin
    refine reg_guard (fun w' => Below w.heap.size w w') [.inl (.int .i64 n), .inl (.bool true), .inl (.bool true), .inl undef, .inl undef, .inl undef, .inl undef, .inl (.bool true), .inl (.bool true), .inl undef, .inl undef, .inl undef, .inl undef, .inl undef, .inl undef, .inl (.bool true)] 16 0 mixed rfl (by kernel_rfl) hS (Below.refl _ _) (fun _ h => h.drew) ?_
    refine hs_is rfl (fun w' hw => runs_move rfl) ?_
    refine hs_is rfl (fun w' hw => runs_gtr rfl rfl (by simpa using h1)) ?_
    refine hs_is rfl (fun w' hw => runs_move rfl) ?_
    refine hs_no rfl rfl rfl ?_
    refine hs_no rfl rfl rfl ?_
    refine hs_no rfl rfl rfl ?_
    refine hs_no rfl rfl rfl ?_
    refine hs_is rfl (fun w' hw => runs_pick rfl rfl) ?_
    refine hs_is rfl (fun w' hw => runs_move rfl) ?_
    refine hs_no rfl rfl rfl ?_
    refine hs_no rfl rfl rfl ?_
    refine hs_no rfl rfl rfl ?_
    refine hs_no rfl rfl rfl ?_
    refine hs_no rfl rfl rfl ?_
    refine hs_no rfl rfl rfl ?_
    refine hs_is rfl (fun w' hw => runs_pick rfl rfl) ?_
    exact fun a' w' hS' hB' _ => fin _ ⟨rfl, rfl, rfl, rfl, rfl, rfl, trivial⟩ a' w' hS' hB'
  · cases h2 : thereB n at_ with
    | false =>
      have hb : badB n at_ m = true := by simp [badB, h2]
      rw [hb] at fin
      refine reg_guard (fun w' => Below w.heap.size w w') [.inl (.int .i64 n), .inl (.bool false), .inl (.bool false), .inl (.int .i64 n), .inl (.int .i64 at_), .inl (.bool false), .inl (.bool true), .inl (.bool true), .inl (.bool true), .inl undef, .inl undef, .inl undef, .inl undef, .inl undef, .inl undef, .inl (.bool true)] 16 0 mixed rfl (by kernel_rfl) hS (Below.refl _ _) (fun _ h => h.drew) ?_
      refine hs_is rfl (fun w' hw => runs_move rfl) ?_
      refine hs_is rfl (fun w' hw => runs_gtr rfl rfl (by simpa using h1)) ?_
      refine hs_is rfl (fun w' hw => runs_move rfl) ?_
      refine hs_yis rfl rfl (fun w' hw => runs_move rfl) ?_
      refine hs_yis rfl rfl (fun w' hw => runs_move rfl) ?_
      refine hs_yis rfl rfl (fun w' hw => runs_call (args := [.int .i64 n, .int .i64 at_]) goes42 rfl ((there_any n at_ w').mono (by rintro e w' ⟨rfl, rfl⟩; exact ⟨_, rfl, by rw [h2], rfl⟩))) ?_
      refine hs_yis rfl rfl (fun w' hw => runs_not (b := false) rfl) ?_
      refine hs_is rfl (fun w' hw => runs_pick rfl rfl) ?_
      refine hs_is rfl (fun w' hw => runs_move rfl) ?_
      refine hs_no rfl rfl rfl ?_
      refine hs_no rfl rfl rfl ?_
      refine hs_no rfl rfl rfl ?_
      refine hs_no rfl rfl rfl ?_
      refine hs_no rfl rfl rfl ?_
      refine hs_no rfl rfl rfl ?_
      refine hs_is rfl (fun w' hw => runs_pick rfl rfl) ?_
      exact fun a' w' hS' hB' _ => fin _ ⟨rfl, rfl, rfl, rfl, rfl, rfl, trivial⟩ a' w' hS' hB'
    | true =>
      have hb : badB n at_ m = !(m == deepZ n at_) := by simp [badB, h1, h2]
      rw [hb] at fin
      refine reg_guard (fun w' => Below w.heap.size w w') [.inl (.int .i64 n), .inl (.bool false), .inl (.bool false), .inl (.int .i64 n), .inl (.int .i64 at_), .inl (.bool true), .inl (.bool false), .inl (.bool false), .inl (.bool false), .inl (.slice A m c), .inl (.int .i64 (m : Int)), .inl (.int .i64 n), .inl (.int .i64 at_), .inl (.int .i64 ((deepZ n at_ : Nat) : Int)), .inl (.bool (!(m == deepZ n at_))), .inl (.bool (!(m == deepZ n at_)))] 16 0 mixed rfl (by kernel_rfl) hS (Below.refl _ _) (fun _ h => h.drew) ?_
      refine hs_is rfl (fun w' hw => runs_move rfl) ?_
      refine hs_is rfl (fun w' hw => runs_gtr rfl rfl (by simpa using h1)) ?_
      refine hs_is rfl (fun w' hw => runs_move rfl) ?_
      refine hs_yis rfl rfl (fun w' hw => runs_move rfl) ?_
      refine hs_yis rfl rfl (fun w' hw => runs_move rfl) ?_
      refine hs_yis rfl rfl (fun w' hw => runs_call (args := [.int .i64 n, .int .i64 at_]) goes42 rfl ((there_any n at_ w').mono (by rintro e w' ⟨rfl, rfl⟩; exact ⟨_, rfl, by rw [h2], rfl⟩))) ?_
      refine hs_yis rfl rfl (fun w' hw => runs_not (b := true) rfl) ?_
      refine hs_is rfl (fun w' hw => runs_pick rfl rfl) ?_
      refine hs_is rfl (fun w' hw => runs_move rfl) ?_
      refine hs_yis rfl rfl (fun w' hw => runs_load rfl (by kernel_rfl) (by rw [hw.cell (p := ⟨gp, 0, none⟩) hp.lt]; exact hp.cell 0)) ?_
      refine hs_yis rfl rfl (fun w' hw => runs_len rfl undHashes) ?_
      refine hs_yis rfl rfl (fun w' hw => runs_move rfl) ?_
      refine hs_yis rfl rfl (fun w' hw => runs_move rfl) ?_
      refine hs_yval rfl rfl (fun w' hw _ => runs_call (args := [.int .i64 n, .int .i64 at_]) goes45 rfl (deep_post _ (fun w'' h => hw.trans (h.mono hw.size)))) ?_
      refine hs_yis rfl rfl (fun w' hw => runs_neq rfl rfl (show ((m : Int) != ((deepZ n at_ : Nat) : Int)) = !(m == deepZ n at_) by rw [bne, show ((m : Int) == ((deepZ n at_ : Nat) : Int)) = (m == deepZ n at_) by rw [Bool.eq_iff_iff, beq_iff_eq, beq_iff_eq]; omega])) ?_
      refine hs_is rfl (fun w' hw => runs_pick rfl rfl) ?_
      exact fun a' w' hS' hB' _ => fin _ ⟨rfl, rfl, rfl, rfl, rfl, rfl, trivial⟩ a' w' hS' hB'
set_option maxRecDepth 100000 in
set_option maxHeartbeats 1000000 in
theorem check_any (root : List Nat) (n at_ : Int) (s : ByteArray) (pv : Value) (hs : List (List Nat)) (w : World) (hrl : root.length = 32) (hH : Hashes w pv hs) (hlen : hs.length ≤ 1000) (hsz : s.size ≤ 100000) (hk : Kept w) :
    Calls Tryd.prog 21 #[.agg (U8 root).toArray, .int .i64 n, .int .i64 at_, .string s, pv] w fun r w' => r = .returned (.bool (checkB root n at_ (bl s) hs)) ∧ Below w.heap.size w w' := by
  refine calls_qx (args := [.agg (U8 root).toArray, .int .i64 n, .int .i64 at_, .string s, pv]) 40 Tryd.func21 rfl (by kernel_rfl) (by simp) (fun a hS => ?_)
  refine qx_seq (reg_seq ?_)
  refine seq_op hS (by decide) (runs_box rfl) (fun v1 w1 a1 hp1 hS => ?_)
  obtain ⟨rfl, rfl⟩ := hp1
  have hR1 : Has (w.alloc (.cells (Value.agg (U8 root).toArray).cells 39)) w.heap.size 39 (U8 root) := Has.new w 39 (U8 root)
  have hB1 : Below w.heap.size w (w.alloc (.cells (Value.agg (U8 root).toArray).cells 39)) := (Below.refl _ _).alloc (Nat.le_refl _) _
  have hz1 : (w.alloc (.cells (Value.agg (U8 root).toArray).cells 39)).heap.size = w.heap.size + 1 := by simp
  generalize w.alloc (.cells (Value.agg (U8 root).toArray).cells 39) = w1 at *
  obtain ⟨A, c, rfl, hc1, hc2, hok, hA⟩ := id hH
  refine seq_op hS (by decide) (runs_box rfl) (fun v1 w2 a1 hp1 hS => ?_)
  obtain ⟨rfl, rfl⟩ := hp1
  have hP2 : Has (w1.alloc (.cells (Value.slice A hs.length c).cells 42)) w1.heap.size 42 [.slice A hs.length c] := Has.new w1 42 [.slice A hs.length c]
  have hB2 : Below w1.heap.size w1 (w1.alloc (.cells (Value.slice A hs.length c).cells 42)) := (Below.refl _ _).alloc (Nat.le_refl _) _
  have hz2 : (w1.alloc (.cells (Value.slice A hs.length c).cells 42)).heap.size = w1.heap.size + 1 := by simp
  generalize w1.alloc (.cells (Value.slice A hs.length c).cells 42) = w2 at *
  have hR2 : Has w2 w.heap.size 39 (U8 root) := hR1.below hB2 (by omega)
  have hBw2 : Below w.heap.size w w2 := hB1.trans (hB2.mono (by omega))
  refine seq_is hS (by decide) (runs_assign rfl) (fun a1 hS => ?_)
  refine nil_ok (qx_seq (qx_seq ?_))
  refine test27 _ _ _ n at_ (.string s) (.pointer (some ⟨w.heap.size, 0, none⟩)) w1.heap.size hs.length c A w2 a1 (hS.only _ ⟨rfl, rfl, rfl, rfl, rfl, trivial⟩) hP2 (fun a3 w3 hB3 hS => ?_)
  have hBw3 : Below w.heap.size w w3 := hBw2.trans (hB3.mono (by omega))
  cases hbad : badB n at_ hs.length with
  | true =>
    rw [hbad] at hS
    refine wp_cond_true (hS.eval rfl) (qx_seq (reg_seq ?_))
    refine seq_is hS (by decide) (runs_assign rfl) (fun a4 hS => ?_)
    refine nil_ok (qx_ret (ret1 (t := 10) (by kernel_rfl) hS rfl ⟨?_, hBw3⟩))
    unfold checkB
    rw [if_pos ?_]
    simp only [badB, Bool.or_eq_true, decide_eq_true_eq, Bool.not_eq_true', beq_eq_false_iff_ne] at hbad
    rcases hbad with (h | h) | h
    · exact .inl h
    · exact .inr (.inl h)
    · exact .inr (.inr h)
  | false =>
    rw [hbad] at hS
    refine wp_cond_false (hS.eval rfl) (wp_skip ?_)
    simp only [badB, Bool.or_eq_false_iff, decide_eq_false_iff_not, Bool.not_eq_false', beq_iff_eq] at hbad
    obtain ⟨⟨hn, ht⟩, hd⟩ := hbad
    have ht' := ht
    simp only [thereB, Bool.and_eq_true, decide_eq_true_eq] at ht'
    obtain ⟨m, rfl⟩ := Int.eq_ofNat_of_zero_le (show 0 ≤ n by omega)
    obtain ⟨p, rfl⟩ := Int.eq_ofNat_of_zero_le ht'.1
    have hdz : hs.length = (Tree.path 0 m p).length := by rw [hd]; unfold deepZ; rw [if_neg (by rw [ht]; simp; omega)]; simp
    have hck : checkB root (m : Int) (p : Int) (bl s) hs = (Tree.root m (ups (Tree.leaf (bl s)) (Tree.path 0 m p) hs) == root) := by
      unfold checkB
      rw [if_neg (by rw [ht]; simp only [Bool.true_eq_false, false_or, not_or]; exact ⟨hn, fun h => h hd⟩)]
      simp
    rw [hck]
    have hR3 := hR2.below hB3 (by omega)
    have hP3 := hP2.below hB3 (by omega)
    have hk3 := hk.below hBw3 hk.pos
    have s3 := hB3.size
    refine qx_seq (reg_seq ?_)
    refine seq_is hS (by decide) (runs_move rfl) (fun a4 hS => ?_)
    refine seq_op hS (by decide) (runs_call (args := [.string s]) goes46 rfl (hash_post (fun w' => Below w3.heap.size w3 w') (leaf_any s w3 hsz hk3) (fun _ h => h))) (fun v4 w4 a4 hp4 hS => ?_)
    obtain ⟨rfl, hB4⟩ := hp4
    have s4 := hB4.size
    refine seq_op hS (by decide) alloc_hash (fun v5 w5 a5 hp5 hS => ?_)
    obtain ⟨rfl, rfl⟩ := hp5
    have hT5 := Has.new w4 39 (U8 (List.replicate 32 0))
    have hB5 : Below w4.heap.size w4 (w4.alloc (.cells (U8 (List.replicate 32 0)).toArray 39)) := (Below.refl _ _).alloc (Nat.le_refl _) _
    have hz5 : (w4.alloc (.cells (U8 (List.replicate 32 0)).toArray 39)).heap.size = w4.heap.size + 1 := by simp
    generalize w4.alloc (.cells (U8 (List.replicate 32 0)).toArray 39) = w5 at *
    have hll := Tree.leaf_len (bl s)
    refine seq_none hS (runs_storeRow rfl rfl hT5 (by simp [hll]) (agg_all _) (by rw [infHash]; simp [hll])) (fun v6 w6 a6 hp6 hS => ?_)
    obtain ⟨rfl, rfl⟩ := hp6
    have hT6 := has_setRow (cs := U8 (Tree.leaf (bl s))) hT5
    have hB6 : Below w4.heap.size w4 (w5.setRow w4.heap.size (U8 (Tree.leaf (bl s))).toArray) := below_row hB5 (Nat.le_refl _) _
    have hz6 : (w5.setRow w4.heap.size (U8 (Tree.leaf (bl s))).toArray).heap.size = w4.heap.size + 1 := by simp [World.setRow, hz5]
    generalize w5.setRow w4.heap.size (U8 (Tree.leaf (bl s))).toArray = w6 at *
    obtain ⟨i3, hi3, hz3, _, _⟩ := info_parts infInt
    refine nil_ok (qx_seq (reg_seq ?_))
    refine seq_op hS (by decide) (runs_alloc hi3 hz3) (fun v7 w7 a7 hp7 hS => ?_)
    obtain ⟨rfl, rfl⟩ := hp7
    have hU7 : Has (w6.alloc (.cells (Value.int .i64 0).cells 3)) w6.heap.size 3 [.int .i64 0] := Has.new w6 3 [.int .i64 0]
    have hB7 : Below w6.heap.size w6 (w6.alloc (.cells (Value.int .i64 0).cells 3)) := (Below.refl _ _).alloc (Nat.le_refl _) _
    have hz7 : (w6.alloc (.cells (Value.int .i64 0).cells 3)).heap.size = w6.heap.size + 1 := by simp
    generalize w6.alloc (.cells (Value.int .i64 0).cells 3) = w7 at *
    refine seq_none hS (runs_store rfl rfl rfl infInt1 (hU7.cell 0) (hU7.open_ 0)) (fun v8 w8 a8 hp8 hS => ?_)
    obtain ⟨rfl, rfl⟩ := hp8
    have hU8 : Has (w7.setCell ⟨w6.heap.size, 0, none⟩ (.int .i64 0)) w6.heap.size 3 [.int .i64 0] := hU7.set_ 0 _
    have hB8 : Below w6.heap.size w6 (w7.setCell ⟨w6.heap.size, 0, none⟩ (.int .i64 0)) := hB7.setCell (by simp) _
    generalize w7.setCell ⟨w6.heap.size, 0, none⟩ (.int .i64 0) = w8 at *
    have hBw8 : Below w.heap.size w w8 := ((hBw3.trans (hB4.mono (by omega))).trans (hB6.mono (by omega))).trans (hB8.mono (by omega))
    have hB38 : Below w3.heap.size w3 w8 := (hB4.trans (hB6.mono (by omega))).trans (hB8.mono (by omega))
    have hI0 : CkI w w8 w1.heap.size w6.heap.size w4.heap.size w.heap.size (.slice A hs.length c) 0 (Tree.leaf (bl s)) root := ⟨hP3.below hB38 (by omega), hU8, hT6.below hB8 (by omega), hR3.below hB38 (by omega), hBw8⟩
    refine nil_ok (qx_seq (reg_seq ?_))
    refine seq_is hS (by decide) (runs_move rfl) (fun a9 hS => ?_)
    refine seq_is hS (by decide) (runs_move rfl) (fun a9 hS => ?_)
    refine seq_is hS (by decide) (runs_makeFunc (cs := [.pointer (some ⟨w1.heap.size, 0, none⟩), .pointer (some ⟨w6.heap.size, 0, none⟩), .pointer (some ⟨w4.heap.size, 0, none⟩)]) rfl) (fun a9 hS => ?_)
    have hcl := climb_any 47 [.pointer (some ⟨w1.heap.size, 0, none⟩), .pointer (some ⟨w6.heap.size, 0, none⟩), .pointer (some ⟨w4.heap.size, 0, none⟩)] goes47 (Tree.path 0 m p)
      (fun done w' => CkI w w' w1.heap.size w6.heap.size w4.heap.size w.heap.size (.slice A hs.length c) done.length (ups (Tree.leaf (bl s)) done hs) root) (fun done f e left w' hI hpre => by
        have hpl := hpre.length_le
        rw [List.length_append, List.length_singleton] at hpl
        refine (check1_any w w' w1.heap.size w6.heap.size w4.heap.size w.heap.size done.length (.slice A hs.length c) (.int .i64 (f : Int)) (.int .i64 (e : Int)) left _ root hs hH hI (by omega) hlen (ups_len _ (Tree.leaf_len _) _ _) (ups_bytes _ (sha_bytes _) _ _) hk (by omega) (by omega) (by omega)).mono ?_
        rintro r w'' ⟨rfl, h⟩
        refine ⟨rfl, ?_⟩
        rw [List.length_append, List.length_singleton, ups_more done hs _ _ (by omega)]
        exact h) m 0 p [] w8 (by omega) hI0 (by rw [List.nil_append]; exact List.prefix_refl _)
    rw [List.nil_append, Nat.zero_add] at hcl
    refine seq_op hS (by decide) (runs_call (args := [.int .i64 0, .int .i64 (m : Int), .int .i64 (p : Int), .func (.func 47) #[] [Value.pointer (some ⟨w1.heap.size, 0, none⟩), .pointer (some ⟨w6.heap.size, 0, none⟩), .pointer (some ⟨w4.heap.size, 0, none⟩)].toArray]) goes43 rfl (climb_ret hcl)) (fun v9 w9 a9 hI9 hS => ?_)
    have hul := ups_len _ (Tree.leaf_len (bl s)) (Tree.path 0 m p) hs
    have hub := ups_bytes (Tree.leaf (bl s)) (sha_bytes _) (Tree.path 0 m p) hs
    generalize hut : ups (Tree.leaf (bl s)) (Tree.path 0 m p) hs = t at *
    have hk9 := hk.below hI9.b hk.pos
    have hrl2 : (Tree.root m t).length = 32 := Sha.Holds.sumText
    have hw9 := hI9.b.size
    refine nil_ok (qx_seq (reg_guard (fun w' => Below w9.heap.size w9 w') [.inl (.int .i64 (m : Int)), .inl (.agg (U8 t).toArray), .inl (.agg (U8 (Tree.root m t)).toArray), .inl (.agg (U8 root).toArray), .inl (.bool (Tree.root m t == root)), .inl (.bool (Tree.root m t == root))] 6 0 mixed rfl (by kernel_rfl) hS (Below.refl _ _) (fun _ h => h.drew) ?_))
    refine hs_is rfl (fun w' hw => runs_move rfl) ?_
    refine hs_is rfl (fun w' hw => runs_loadRow rfl (hI9.t.below hw hI9.t.lt) undHash rfl (by rw [infHash, U8_length, hul])) ?_
    refine hs_val rfl (fun w' hw _ => runs_call (args := [.int .i64 (m : Int), .agg (U8 t).toArray]) goes40 rfl ((rootOf_any m t w' (by omega) hul hub (hk9.below hw hk9.pos)).mono (by rintro e w'' ⟨rfl, h⟩; exact ⟨_, rfl, rfl, hw.trans (h.mono hw.size), h⟩))) ?_
    refine hs_is rfl (fun w' hw => runs_loadRow rfl (hI9.r.below hw hI9.r.lt) undHash rfl (by rw [infHash, U8_length, hrl])) ?_
    refine hs_is rfl (fun w' hw => runs_eqHash rfl rfl hrl2 hrl rfl) ?_
    refine hs_is rfl (fun w' hw => runs_assign rfl) ?_
    refine (fun a10 w10 hS10 hB10 _ => ?_)
    refine wpAnyH_done (by kernel_rfl) ?_ _
    exact qx_ret (ret1 (t := 10) (by kernel_rfl) hS10 rfl ⟨rfl, hI9.b.trans (hB10.mono hw9)⟩)
end Go.Proofs.YtbcmglggplmkfaaDoor
