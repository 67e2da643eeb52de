/- Layer 4: the closures of Check and together of sums. Conditions: the table of constants lies as it was laid; leaves of at most 100000 bytes. -/
import Derived.Test.YtdemoidmhmdgkaaDoorMTog
namespace Go.Proofs.YtdemoidmhmdgkaaDoor
open Go.RowKit Many
set_option maxRecDepth 100000

theorem goes61 : Goes Tryd.prog 61 := goes_of Tryd.func61 (by kernel_rfl) rfl
theorem goes62 : Goes Tryd.prog 62 := goes_of Tryd.func62 (by kernel_rfl) rfl
theorem goes63 : Goes Tryd.prog 63 := goes_of Tryd.func63 (by kernel_rfl) rfl
/-- All but two blocks are kept. -/
structure But (x y : Nat) (w w' : World) : Prop where
  os : w'.os = w.os
  tape : w'.tape = w.tape
  output : w'.output = w.output
  size : w.heap.size ≤ w'.heap.size
  block : ∀ k, k < w.heap.size → k ≠ x → k ≠ y → w'.heap[k]? = w.heap[k]?
section
variable {x y : Nat} {w w' w'' : World}
theorem But.of (h : Below w.heap.size w w') : But x y w w' := ⟨h.os, h.tape, h.output, h.size, fun k hk _ _ => h.block k hk⟩
theorem But.trans (h : But x y w w') (h' : But x y w' w'') : But x y w w'' :=
  ⟨h'.os.trans h.os, h'.tape.trans h.tape, h'.output.trans h.output, Nat.le_trans h.size h'.size, fun k hk h1 h2 => (h'.block k (Nat.lt_of_lt_of_le hk h.size) h1 h2).trans (h.block k hk h1 h2)⟩
theorem But.below {B : Nat} (h : But x y w w') (hB : B ≤ w.heap.size) (h1 : B ≤ x) (h2 : B ≤ y) : Below B w w' := ⟨h.os, h.tape, h.output, h.size, fun k hk => h.block k (by omega) (by omega) (by omega)⟩
theorem But.has {g : Nat} {t : TypeId} {cs : List Value} (h : But x y w w') (hg : Has w g t cs) (h1 : g ≠ x) (h2 : g ≠ y) : Has w' g t cs := (h.block g hg.lt h1 h2).trans hg
end
/-- Where the closures of Check stand. -/
structure MI (w0 w : World) (gs gh gp gl i j : Nat) (pv lv : Value) : Prop where
  s : Has w gs 3 [.int .i64 (i : Int)]
  h : Has w gh 3 [.int .i64 (j : Int)]
  p : Has w gp 28 [pv]
  l : Has w gl 22 [lv]
  b : Below w0.heap.size w0 w
theorem MI.but {w0 w w' : World} {gs gh gp gl i j i' j' : Nat} {pv lv : Value} (h : MI w0 w gs gh gp gl i j pv lv) (k : But gs gh w w') (hs : Has w' gs 3 [.int .i64 (i' : Int)]) (hh : Has w' gh 3 [.int .i64 (j' : Int)]) (h1 : w0.heap.size ≤ gs) (h2 : w0.heap.size ≤ gh) : MI w0 w' gs gh gp gl i' j' pv lv :=
  ⟨hs, hh, k.has h.p (Has.ne h.p h.s (by decide)) (Has.ne h.p h.h (by decide)), k.has h.l (Has.ne h.l h.s (by decide)) (Has.ne h.l h.h (by decide)), h.b.trans (k.below h.b.size h1 h2)⟩
theorem MI.grow {w0 w w' : World} {gs gh gp gl i j : Nat} {pv lv : Value} (h : MI w0 w gs gh gp gl i j pv lv) (k : Below w.heap.size w w') : MI w0 w' gs gh gp gl i j pv lv :=
  ⟨h.s.below k h.s.lt, h.h.below k h.h.lt, h.p.below k h.p.lt, h.l.below k h.l.lt, h.b.trans (k.mono h.b.size)⟩
section
variable (w0 : World) (gs gh gp gl : Nat) (pv lv : Value) (hs : List (List Nat)) (ss : List ByteArray)
set_option maxHeartbeats 1000000 in
theorem bare_any (hH : Hashes w0 pv hs) (hs0 : w0.heap.size ≤ gs) (hh0 : w0.heap.size ≤ gh) (hne : gs ≠ gh) (hlen : hs.length ≤ 100000) (w : World) (i j : Nat) (v0 v1 : Value) (hI : MI w0 w gs gh gp gl i j pv lv) (hi : i < hs.length) :
    Calls Tryd.prog 62 #[v0, v1, .pointer (some ⟨gs, 0, none⟩), .pointer (some ⟨gp, 0, none⟩)] w fun e w' => e = .returned (.agg (U8 (hs.getD i [])).toArray) ∧ MI w0 w' gs gh gp gl (i + 1) j pv lv ∧ But gs gh w w' := by
  refine calls_qx (args := [v0, v1, .pointer (some ⟨gs, 0, none⟩), .pointer (some ⟨gp, 0, none⟩)]) 14 Tryd.func62 rfl (by kernel_rfl) (by simp) (fun a hS => ?_)
  refine qx_seq (reg_seq ?_)
  refine seq_op hS (by decide) alloc_hash (fun v2 w1 a1 hp1 hS => ?_)
  obtain ⟨rfl, rfl⟩ := hp1
  have hH1 := Has.new w 26 (U8 (List.replicate 32 0))
  have hB1 : Below w.heap.size w (w.alloc (.cells (U8 (List.replicate 32 0)).toArray 26)) := (Below.refl _ _).alloc (Nat.le_refl _) _
  generalize w.alloc (.cells (U8 (List.replicate 32 0)).toArray 26) = w1 at *
  have hI1 := hI.grow hB1
  have l1 := hI.s.lt
  have l2 := hI.h.lt
  refine nil_ok (qx_seq (reg_seq ?_))
  refine seq_is hS (by decide) (runs_load rfl (by kernel_rfl) (hI1.s.cell 0)) (fun a1 hS => ?_)
  refine seq_is hS (by decide) (runs_add rfl rfl ((IntWalk.i64_in _ (by omega)).trans (show _ = ((i + 1 : Nat) : Int) by omega))) (fun a1 hS => ?_)
  refine seq_none hS (runs_store rfl rfl rfl infInt1 (hI1.s.cell 0) (hI1.s.open_ 0)) (fun v4 w3 a3 hp3 hS => ?_)
  obtain ⟨rfl, rfl⟩ := hp3
  have hs3 : Has (w1.setCell ⟨gs, 0, none⟩ (.int .i64 ((i + 1 : Nat) : Int))) gs 3 [.int .i64 ((i + 1 : Nat) : Int)] := hI1.s.set_ 0 _
  have hh3 := hI1.h.far (p := ⟨gs, 0, none⟩) (fun e => hne e.symm) (.int .i64 ((i + 1 : Nat) : Int))
  have hx3 := hH1.far (p := ⟨gs, 0, none⟩) (fun e => by simp at e; omega) (.int .i64 ((i + 1 : Nat) : Int))
  have hk13 : But gs gh w1 (w1.setCell ⟨gs, 0, none⟩ (.int .i64 ((i + 1 : Nat) : Int))) := ⟨rfl, rfl, rfl, by simp, fun k _ h1 _ => Below.heap_setCell w1 ⟨gs, 0, none⟩ _ k h1⟩
  generalize w1.setCell ⟨gs, 0, none⟩ (.int .i64 ((i + 1 : Nat) : Int)) = w3 at *
  have hI3 := hI1.but hk13 hs3 hh3 hs0 hh0
  obtain ⟨A, c, rfl, hc1, hc2, hok, hA⟩ := hH.kept hI3.b
  obtain ⟨b, o, rfl, hb, hra⟩ := hA (by omega)
  have hrx := hash_mid hra hok i hi
  obtain ⟨x, hx⟩ : ∃ x, x = hs.getD i [] := ⟨_, rfl⟩
  have hxl : x.length = 32 := by rw [hx]; exact (hok _ (getD_mem hi)).1
  rw [← hx] at hrx
  rw [← hx]
  refine nil_ok (qx_seq (reg_seq ?_))
  refine seq_is hS (by decide) (runs_load rfl (by kernel_rfl) (hI3.p.cell 0)) (fun a1 hS => ?_)
  refine seq_is hS (by decide) (runs_load rfl (by kernel_rfl) (hI3.s.cell 0)) (fun a1 hS => ?_)
  refine seq_is hS (by decide) (runs_sub rfl rfl ((IntWalk.i64_in _ (by omega)).trans (show _ = (i : Int) by omega))) (fun a1 hS => ?_)
  refine seq_is hS (by decide) (runs_indexAddrN (j := i) rfl rfl undHashes infHash rfl hi) (fun a1 hS => ?_)
  refine seq_is hS (by decide) (runs_loadMid rfl hrx undHash rfl (by rw [infHash, U8_length, hxl])) (fun a1 hS => ?_)
  refine seq_none hS (runs_storeRow rfl rfl hx3 (by simp [hxl]) (agg_all _) (by rw [infHash]; simp [hxl])) (fun v3 w2 a2 hp2 hS => ?_)
  obtain ⟨rfl, rfl⟩ := hp2
  have hX2 := has_setRow (cs := U8 x) hx3
  have hk2 : But gs gh w (w3.setRow w.heap.size (U8 x).toArray) := ⟨hk13.os.trans hB1.os, hk13.tape.trans hB1.tape, hk13.output.trans hB1.output, by have := hk13.size; have := hB1.size; simp [World.setRow]; omega, fun k hk h1 h2 => by
    rw [setRow_other w3 w.heap.size k _ (by omega), hk13.block k (by have := hB1.size; omega) h1 h2]; exact hB1.block k hk⟩
  have hs4 : Has (w3.setRow w.heap.size (U8 x).toArray) gs 3 [.int .i64 ((i + 1 : Nat) : Int)] := (setRow_other w3 w.heap.size gs _ (by omega)).trans hI3.s
  have hh4 : Has (w3.setRow w.heap.size (U8 x).toArray) gh 3 [.int .i64 (j : Int)] := (setRow_other w3 w.heap.size gh _ (by omega)).trans hI3.h
  exact nil_ok (qx_ret (retRow (t := 0) (p := 6) (by kernel_rfl) hS rfl hX2 rfl undHash rfl (by rw [infHash, U8_length, hxl]) ⟨rfl, hI.but hk2 hs4 hh4 hs0 hh0, hk2⟩))
set_option maxHeartbeats 1000000 in
theorem asked_any (hH : Strs w0 lv ss) (hsz : ∀ s ∈ ss, s.size ≤ 100000) (hk0 : Kept w0) (hs0 : w0.heap.size ≤ gs) (hh0 : w0.heap.size ≤ gh) (hne : gs ≠ gh) (hlen : ss.length ≤ 100000) (w : World) (i j : Nat) (hI : MI w0 w gs gh gp gl i j pv lv) (hj : j < ss.length) :
    Calls Tryd.prog 63 #[.pointer (some ⟨gh, 0, none⟩), .pointer (some ⟨gl, 0, none⟩)] w fun e w' => e = .returned (.agg (U8 (Tree.leaf (bl (ss.getD j ByteArray.empty)))).toArray) ∧ MI w0 w' gs gh gp gl i (j + 1) pv lv ∧ But gs gh w w' := by
  refine calls_qx (args := [.pointer (some ⟨gh, 0, none⟩), .pointer (some ⟨gl, 0, none⟩)]) 11 Tryd.func63 rfl (by kernel_rfl) (by simp) (fun a hS => ?_)
  refine qx_seq (reg_seq ?_)
  refine seq_op hS (by decide) alloc_hash (fun v2 w1 a1 hp1 hS => ?_)
  obtain ⟨rfl, rfl⟩ := hp1
  have hH1 := Has.new w 26 (U8 (List.replicate 32 0))
  have hB1 : Below w.heap.size w (w.alloc (.cells (U8 (List.replicate 32 0)).toArray 26)) := (Below.refl _ _).alloc (Nat.le_refl _) _
  generalize w.alloc (.cells (U8 (List.replicate 32 0)).toArray 26) = w1 at *
  have hI1 := hI.grow hB1
  have l1 := hI.s.lt
  have l2 := hI.h.lt
  refine nil_ok (qx_seq (reg_seq ?_))
  refine seq_is hS (by decide) (runs_load rfl (by kernel_rfl) (hI1.h.cell 0)) (fun a1 hS => ?_)
  refine seq_is hS (by decide) (runs_add rfl rfl ((IntWalk.i64_in _ (by omega)).trans (show _ = ((j + 1 : Nat) : Int) by omega))) (fun a1 hS => ?_)
  refine seq_none hS (runs_store rfl rfl rfl infInt1 (hI1.h.cell 0) (hI1.h.open_ 0)) (fun v4 w3 a3 hp3 hS => ?_)
  obtain ⟨rfl, rfl⟩ := hp3
  have hs3 : Has (w1.setCell ⟨gh, 0, none⟩ (.int .i64 ((j + 1 : Nat) : Int))) gh 3 [.int .i64 ((j + 1 : Nat) : Int)] := hI1.h.set_ 0 _
  have hh3 := hI1.s.far (p := ⟨gh, 0, none⟩) hne (.int .i64 ((j + 1 : Nat) : Int))
  have hx3 := hH1.far (p := ⟨gh, 0, none⟩) (fun e => by simp at e; omega) (.int .i64 ((j + 1 : Nat) : Int))
  have hk13 : But gs gh w1 (w1.setCell ⟨gh, 0, none⟩ (.int .i64 ((j + 1 : Nat) : Int))) := ⟨rfl, rfl, rfl, by simp, fun k _ _ h1 => Below.heap_setCell w1 ⟨gh, 0, none⟩ _ k h1⟩
  generalize w1.setCell ⟨gh, 0, none⟩ (.int .i64 ((j + 1 : Nat) : Int)) = w3 at *
  have hI3 := hI1.but hk13 hh3 hs3 hs0 hh0
  have hk3 := hk0.below hI3.b hk0.pos
  obtain ⟨A, c, rfl, hc1, hc2, hA⟩ := hH.kept hI3.b
  obtain ⟨b, o, rfl, hb, hcell⟩ := hA (by omega)
  have hcj := hcell j hj
  obtain ⟨s, hs'⟩ : ∃ s, s = ss.getD j ByteArray.empty := ⟨_, rfl⟩
  have hss : s.size ≤ 100000 := by rw [hs', List.getD_eq_getElem?_getD, List.getElem?_eq_getElem hj]; exact hsz _ (List.getElem_mem hj)
  rw [← hs'] at hcj
  rw [← hs']
  refine nil_ok (qx_seq (reg_seq ?_))
  refine seq_is hS (by decide) (runs_load rfl (by kernel_rfl) (hI3.l.cell 0)) (fun a1 hS => ?_)
  refine seq_is hS (by decide) (runs_load rfl (by kernel_rfl) (hI3.h.cell 0)) (fun a1 hS => ?_)
  refine seq_is hS (by decide) (runs_sub rfl rfl ((IntWalk.i64_in _ (by omega)).trans (show _ = (j : Int) by omega))) (fun a1 hS => ?_)
  refine seq_is hS (by decide) (runs_indexAddr (j := j) rfl rfl undStrs infStr1 rfl hj) (fun a1 hS => ?_)
  refine seq_is hS (by decide) (runs_load rfl (by kernel_rfl) hcj) (fun a1 hS => ?_)
  refine seq_op hS (by decide) (runs_call (args := [.string s]) goes35 rfl (hash_post (fun w' => Below w3.heap.size w3 w') (leaf_any s w3 hss hk3) (fun _ h => h))) (fun v4 w4 a4 hp4 hS => ?_)
  obtain ⟨rfl, hB4⟩ := hp4
  have hll := Tree.leaf_len (bl s)
  have hx4 := hx3.below hB4 hx3.lt
  have hI4 := hI3.grow hB4
  have z3 := hk13.size
  have z4 := hB4.size
  have z1 := hB1.size
  refine seq_none hS (runs_storeRow rfl rfl hx4 (by simp [hll]) (agg_all _) (by rw [infHash]; simp [hll])) (fun v3 w2 a2 hp2 hS => ?_)
  obtain ⟨rfl, rfl⟩ := hp2
  have hX2 := has_setRow (cs := U8 (Tree.leaf (bl s))) hx4
  have hk2 : But gs gh w (w4.setRow w.heap.size (U8 (Tree.leaf (bl s))).toArray) := ⟨hB4.os.trans (hk13.os.trans hB1.os), hB4.tape.trans (hk13.tape.trans hB1.tape), hB4.output.trans (hk13.output.trans hB1.output), by simp [World.setRow]; omega, fun k hk h1 h2 => by
    rw [setRow_other w4 w.heap.size k _ (by omega), hB4.block k (by omega), hk13.block k (by omega) h1 h2]; exact hB1.block k hk⟩
  have hs4 : Has (w4.setRow w.heap.size (U8 (Tree.leaf (bl s))).toArray) gs 3 [.int .i64 (i : Int)] := (setRow_other w4 w.heap.size gs _ (by omega)).trans hI4.s
  have hh4 : Has (w4.setRow w.heap.size (U8 (Tree.leaf (bl s))).toArray) gh 3 [.int .i64 ((j + 1 : Nat) : Int)] := (setRow_other w4 w.heap.size gh _ (by omega)).trans hI4.h
  exact nil_ok (qx_ret (retRow (t := 0) (p := 2) (by kernel_rfl) hS rfl hX2 rfl undHash rfl (by rw [infHash, U8_length, hll]) ⟨rfl, hI.but hk2 hs4 hh4 hs0 hh0, hk2⟩))
end
theorem chk_ok (_ss : List (List Nat)) : ∀ (n f : Nat) (l : List Nat) (hs : List (List Nat)) (ss : List (List Nat)), (∀ h ∈ hs, h.length = 32 ∧ Sha.Bytes h) → (parts f n l).length ≤ hs.length → (chk f n l hs ss).length = 32 ∧ Sha.Bytes (chk f n l hs ss) := by
  intro n
  induction n using Nat.strongRecOn with
  | _ n ih =>
    intro f l hs ss hok hp
    by_cases h0 : l = []
    · subst h0
      rw [parts_nil] at hp
      rw [chk_nil]
      cases hs with
      | nil => simp at hp
      | cons x xs => exact hok x (by simp)
    · by_cases hn : n < 2
      · rw [chk_small _ _ h0 hn]; exact ⟨Tree.leaf_len _, sha_bytes _⟩
      · rw [chk_more _ _ h0 hn]; exact ⟨Tree.node_len _ _, sha_bytes _⟩
set_option maxHeartbeats 2000000 in
/-- together, of sums. -/
theorem tog61_any (w0 : World) (gs gh gp gl : Nat) (pv lv : Value) (hs : List (List Nat)) (ss : List ByteArray) (hH : Hashes w0 pv hs) (hL : Strs w0 lv ss) (hsz : ∀ s ∈ ss, s.size ≤ 100000) (hk0 : Kept w0) (hs0 : w0.heap.size ≤ gs) (hh0 : w0.heap.size ≤ gh) (hne : gs ≠ gh) (hlen : hs.length ≤ 100000) (hlen2 : ss.length ≤ 100000) :
    ∀ (n f i j : Nat) (l : List Nat) (v : Value) (w : World), f + n ≤ 2147483648 → MI w0 w gs gh gp gl i j pv lv → Ints w0 v (ofN l) → i + (parts f n l).length ≤ hs.length → j + asks f n l ≤ ss.length →
      Calls Tryd.prog 61 [.int .i64 (f : Int), .int .i64 ((f + n : Nat) : Int), v, .func (.func 62) #[] #[.pointer (some ⟨gs, 0, none⟩), .pointer (some ⟨gp, 0, none⟩)], .func (.func 63) #[] #[.pointer (some ⟨gh, 0, none⟩), .pointer (some ⟨gl, 0, none⟩)], .func (.func 34) #[] #[]].toArray w fun e w' =>
        e = .returned (.agg (U8 (chk f n l (hs.drop i) ((ss.map bl).drop j))).toArray) ∧ MI w0 w' gs gh gp gl (i + (parts f n l).length) (j + asks f n l) pv lv ∧ But gs gh w w' := by
  intro n
  induction n using Nat.strongRecOn with
  | _ n ih =>
    intro f i j l v w hn hI hv hil hjl
    obtain ⟨A, c, rfl, h1, h2, hA⟩ := id hv
    refine calls_qx (args := [.int .i64 (f : Int), .int .i64 ((f + n : Nat) : Int), .slice A (ofN l).length c, .func (.func 62) #[] #[.pointer (some ⟨gs, 0, none⟩), .pointer (some ⟨gp, 0, none⟩)], .func (.func 63) #[] #[.pointer (some ⟨gh, 0, none⟩), .pointer (some ⟨gl, 0, none⟩)], .func (.func 34) #[] #[]]) 61 Tryd.func61 rfl (by kernel_rfl) (by simp) (fun a hS => ?_)
    have hll : (ofN l).length = l.length := by simp [ofN]
    obtain ⟨hAp, cHp, _, _, _, hok, _⟩ := id hH
    have hokd : ∀ h ∈ hs.drop i, h.length = 32 ∧ Sha.Bytes h := fun h hh => hok h (List.mem_of_mem_drop hh)
    obtain ⟨hcl, hcb⟩ := chk_ok [] n f l (hs.drop i) ((ss.map bl).drop j) hokd (by simp; omega)
    refine qx_seq (reg_seq ?_)
    refine seq_op hS (by decide) alloc_hash (fun v2 w1 a1 hp1 hS => ?_)
    obtain ⟨rfl, rfl⟩ := hp1
    have hX1 := Has.new w 26 (U8 (List.replicate 32 0))
    have hB1 : Below w.heap.size w (w.alloc (.cells (U8 (List.replicate 32 0)).toArray 26)) := (Below.refl _ _).alloc (Nat.le_refl _) _
    generalize w.alloc (.cells (U8 (List.replicate 32 0)).toArray 26) = w1 at *
    have hI1 := hI.grow hB1
    have l1 := hI.s.lt
    have l2 := hI.h.lt
    have z1 := hB1.size
    have z0 := hI.b.size
    have hbut1 : But gs gh w w1 := But.of hB1
    -- how it ends: the sum is laid and given back
    have fin : ∀ (L : List (Nat × Value)) (a9 : Act) (w9 : World) (x : List Nat) (i' j' : Nat), But gs gh w1 w9 → MI w0 w9 gs gh gp gl i' j' pv lv → Sees 61 L a9 → look L 12 = some (.pointer (some ⟨w.heap.size, 0, none⟩)) → x.length = 32 → x = chk f n l (hs.drop i) ((ss.map bl).drop j) → i' = i + (parts f n l).length → j' = j + asks f n l → Rets Tryd.prog Tryd.f61 (fun e w' => e = .returned (.agg (U8 (chk f n l (hs.drop i) ((ss.map bl).drop j))).toArray) ∧ MI w0 w' gs gh gp gl (i + (parts f n l).length) (j + asks f n l) pv lv ∧ But gs gh w w') a9 (w9.setRow w.heap.size (U8 x).toArray) := fun L a9 w9 x i' j' hb hm hS9 h12 hxl hxe hie hje => by
      subst hie hje
      have hX9 : Has w9 w.heap.size 26 (U8 (List.replicate 32 0)) := hb.has hX1 (by omega) (by omega)
      have hX2 := has_setRow (cs := U8 x) hX9
      have zb := hb.size
      have hk2 : But gs gh w (w9.setRow w.heap.size (U8 x).toArray) := ⟨(hb.os).trans hB1.os, hb.tape.trans hB1.tape, hb.output.trans hB1.output, by simp [World.setRow]; omega, fun k hk h1 h2 => by
        rw [setRow_other w9 w.heap.size k _ (by omega), hb.block k (by omega) h1 h2]; exact hB1.block k hk⟩
      have hs4 := (setRow_other w9 w.heap.size gs (U8 x).toArray (by omega)).trans hm.s
      have hh4 := (setRow_other w9 w.heap.size gh (U8 x).toArray (by omega)).trans hm.h
      exact retRow (t := 0) (p := 12) (by kernel_rfl) hS9 h12 hX2 rfl undHash rfl (by rw [infHash, U8_length, hxl]) ⟨by rw [hxe], hI.but hk2 hs4 hh4 hs0 hh0, hk2⟩
    refine nil_ok (qx_seq (qx_seq (reg_seq ?_)))
    refine seq_is hS (by decide) (runs_move rfl) (fun a1 hS => ?_)
    refine seq_is hS (by decide) (runs_len rfl undInts) (fun a1 hS => ?_)
    by_cases h0 : l = []
    · subst h0
      rw [parts_nil, List.length_singleton] at hil
      have hb := bare_any w0 gs gh gp gl pv lv hs hH hs0 hh0 hne hlen w1 i j (.int .i64 (f : Int)) (.int .i64 ((f + n : Nat) : Int)) hI1 (by omega)
      have hxe : hs.getD i [] = chk f n [] (hs.drop i) ((ss.map bl).drop j) := by
        rw [chk_nil, List.headD_eq_head?_getD, List.head?_drop, List.getD_eq_getElem?_getD]
      rw [← hxe] at hcl
      obtain ⟨x, hx⟩ : ∃ x, x = hs.getD i [] := ⟨_, rfl⟩
      rw [← hx] at hb hcl hxe
      refine seq_is hS (by decide) (runs_eql (r := true) rfl rfl rfl) (fun a1 hS => ?_)
      refine nil_ok (wp_cond_true (hS.eval rfl) (qx_seq (reg_seq ?_)))
      refine seq_is hS (by decide) (runs_move rfl) (fun a1 hS => ?_)
      refine seq_is hS (by decide) (runs_move rfl) (fun a1 hS => ?_)
      refine seq_is hS (by decide) (runs_move rfl) (fun a1 hS => ?_)
      refine seq_op hS (by decide) (runs_callv (caps := [.pointer (some ⟨gs, 0, none⟩), .pointer (some ⟨gp, 0, none⟩)]) (args := [.int .i64 (f : Int), .int .i64 ((f + n : Nat) : Int)]) (Post := fun v w' => v = .agg (U8 x).toArray ∧ MI w0 w' gs gh gp gl (i + 1) j pv lv ∧ But gs gh w1 w') goes62 rfl rfl (hb.mono (by rintro e w' ⟨rfl, h⟩; exact ⟨_, rfl, rfl, h⟩))) (fun v2 w2 a2 hp2 hS => ?_)
      obtain ⟨rfl, hI2, hb2⟩ := hp2
      refine seq_none hS (runs_storeRow rfl rfl (hb2.has hX1 (by omega) (by omega)) (by simp [hcl]) (agg_all _) (by rw [infHash]; simp [hcl])) (fun v3 w3 a3 hp3 hS => ?_)
      obtain ⟨rfl, rfl⟩ := hp3
      exact nil_ok (qx_ret (fin _ _ w2 x _ _ hb2 hI2 hS rfl hcl hxe (by rw [parts_nil]; rfl) (by rw [asks_nil]; rfl)))
    · have hpos : 0 < l.length := List.length_pos_iff.2 h0
      refine seq_is hS (by decide) (runs_eql (r := false) rfl rfl (by rw [beq_eq_false_iff_ne]; omega)) (fun a1 hS => ?_)
      refine nil_ok (wp_cond_false (hS.eval rfl) (wp_skip ?_))
      refine qx_seq (qx_seq (reg_seq ?_))
      refine seq_is hS (by decide) (runs_move rfl) (fun a1 hS => ?_)
      refine seq_is hS (by decide) (runs_move rfl) (fun a1 hS => ?_)
      refine seq_is hS (by decide) (runs_sub rfl rfl ((IntWalk.i64_in _ (by omega)).trans (show _ = (n : Int) by omega))) (fun a1 hS => ?_)
      by_cases hn2 : n < 2
      · rw [asks_small h0 hn2] at hjl
        have hb := asked_any w0 gs gh gp gl pv lv ss hL hsz hk0 hs0 hh0 hne hlen2 w1 i j hI1 (by omega)
        have hxe : Tree.leaf (bl (ss.getD j ByteArray.empty)) = chk f n l (hs.drop i) ((ss.map bl).drop j) := by
          rw [chk_small _ _ h0 hn2, List.headD_eq_head?_getD, List.head?_drop, List.getElem?_map, List.getD_eq_getElem?_getD, List.getElem?_eq_getElem (by omega)]; rfl
        rw [← hxe] at hcl
        obtain ⟨x, hx⟩ : ∃ x, x = Tree.leaf (bl (ss.getD j ByteArray.empty)) := ⟨_, rfl⟩
        rw [← hx] at hb hcl hxe
        refine seq_is hS (by decide) (runs_lss (r := true) rfl rfl (by rw [decide_eq_true_eq]; omega)) (fun a1 hS => ?_)
        refine nil_ok (wp_cond_true (hS.eval rfl) (qx_seq (reg_seq ?_)))
        refine seq_is hS (by decide) (runs_move rfl) (fun a1 hS => ?_)
        refine seq_op hS (by decide) (runs_callv (caps := [.pointer (some ⟨gh, 0, none⟩), .pointer (some ⟨gl, 0, none⟩)]) (args := []) (Post := fun v w' => v = .agg (U8 x).toArray ∧ MI w0 w' gs gh gp gl i (j + 1) pv lv ∧ But gs gh w1 w') goes63 rfl rfl (hb.mono (by rintro e w' ⟨rfl, h⟩; exact ⟨_, rfl, rfl, h⟩))) (fun v2 w2 a2 hp2 hS => ?_)
        obtain ⟨rfl, hI2, hb2⟩ := hp2
        refine seq_none hS (runs_storeRow rfl rfl (hb2.has hX1 (by omega) (by omega)) (by simp [hcl]) (agg_all _) (by rw [infHash]; simp [hcl])) (fun v3 w3 a3 hp3 hS => ?_)
        obtain ⟨rfl, rfl⟩ := hp3
        exact nil_ok (qx_ret (fin _ _ w2 x _ _ hb2 hI2 hS rfl hcl hxe (by rw [parts_small h0 hn2]; rfl) (by rw [asks_small h0 hn2])))
      · refine seq_is hS (by decide) (runs_lss (r := false) rfl rfl (by rw [decide_eq_false_iff_not]; omega)) (fun a1 hS => ?_)
        refine nil_ok (wp_cond_false (hS.eval rfl) (wp_skip ?_))
        have hhl := Tree.half_lt (n := n) (by omega)
        have hhp := Tree.half_pos n
        have hhz : halfZ (n : Int) = Tree.half n := by unfold halfZ; rw [if_neg (by omega), Int.toNat_natCast]
        have hhalf := half_any (n : Int) w1 (by omega)
        rw [hhz] at hhalf
        have hpm := parts_more (first := f) h0 hn2
        have ham := asks_more (first := f) h0 hn2
        have hcm := chk_more (first := f) (hs.drop i) ((ss.map bl).drop j) h0 hn2
        obtain ⟨k, hk⟩ : ∃ k, k = Tree.half n := ⟨_, rfl⟩
        rw [← hk] at hhalf hhl hhp hpm ham hcm
        have hv1 := hv.kept hI1.b
        have hbel := below_any ((f + k : Nat) : Int) (ofN l) _ w1 hv1
        rw [belowZ_of] at hbel
        have hbl := belowN_le (f + k) l
        obtain ⟨q, hq⟩ : ∃ q, q = belowN (f + k) l := ⟨_, rfl⟩
        rw [← hq] at hbel hbl hpm ham hcm
        have ht1 := ints_take hv q (by omega)
        have ht2 := ints_drop hv q (by omega)
        have eT : (ofN l).take q = ofN (l.take q) := by simp [ofN, List.map_take]
        have eD : (ofN l).drop q = ofN (l.drop q) := by simp [ofN, List.map_drop]
        rw [eT] at ht1
        rw [eD] at ht2
        rw [hpm, List.length_append] at hil
        rw [ham] at hjl
        rw [List.drop_drop, List.drop_drop] at hcm
        obtain ⟨pl, hpl⟩ : ∃ x, x = (parts f k (l.take q)).length := ⟨_, rfl⟩
        obtain ⟨al, hal⟩ : ∃ x, x = asks f k (l.take q) := ⟨_, rfl⟩
        rw [← hpl] at hil hcm
        rw [← hal] at hjl hcm
        refine qx_seq (reg_seq ?_)
        refine seq_is hS (by decide) (runs_move rfl) (fun a1 hS => ?_)
        refine seq_is hS (by decide) (runs_move rfl) (fun a1 hS => ?_)
        refine seq_is hS (by decide) (runs_move rfl) (fun a1 hS => ?_)
        refine seq_is hS (by decide) (runs_sub rfl rfl ((IntWalk.i64_in _ (by omega)).trans (show _ = (n : Int) by omega))) (fun a1 hS => ?_)
        refine seq_is hS (by decide) (runs_call (args := [.int .i64 (n : Int)]) (Post := Is (.int .i64 (k : Int)) w1) goes33 rfl (hhalf.mono (by rintro e w' ⟨rfl, rfl⟩; exact ⟨_, rfl, rfl, rfl⟩))) (fun a1 hS => ?_)
        refine seq_is hS (by decide) (runs_add rfl rfl ((IntWalk.i64_in _ (by omega)).trans (show _ = ((f + k : Nat) : Int) by omega))) (fun a1 hS => ?_)
        refine seq_is hS (by decide) (runs_assign rfl) (fun a1 hS => ?_)
        refine nil_ok (qx_seq (reg_seq ?_))
        refine seq_is hS (by decide) (runs_move rfl) (fun a1 hS => ?_)
        refine seq_is hS (by decide) (runs_move rfl) (fun a1 hS => ?_)
        refine seq_is hS (by decide) (runs_call (args := [.int .i64 ((f + k : Nat) : Int), .slice A (ofN l).length c]) (Post := Is (.int .i64 (q : Int)) w1) goes84 rfl (hbel.mono (by rintro e w' ⟨rfl, rfl⟩; exact ⟨_, rfl, rfl, rfl⟩))) (fun a1 hS => ?_)
        refine seq_is hS (by decide) (runs_assign rfl) (fun a1 hS => ?_)
        refine nil_ok (qx_seq (reg_seq ?_))
        refine seq_is hS (by decide) (runs_move rfl) (fun a1 hS => ?_)
        refine seq_is hS (by decide) (runs_move rfl) (fun a1 hS => ?_)
        refine seq_is hS (by decide) (runs_move rfl) (fun a1 hS => ?_)
        refine seq_is hS (by decide) (runs_move rfl) (fun a1 hS => ?_)
        refine seq_is hS (by decide) (runs_sliceToG rfl rfl rfl undInts rfl (by omega)) (fun a1 hS => ?_)
        refine seq_is hS (by decide) (runs_move rfl) (fun a1 hS => ?_)
        refine seq_is hS (by decide) (runs_move rfl) (fun a1 hS => ?_)
        refine seq_is hS (by decide) (runs_move rfl) (fun a1 hS => ?_)
        have hihL := ih k hhl f i j (l.take q) _ w1 (by omega) hI1 ht1 (by rw [← hpl]; omega) (by rw [← hal]; omega)
        obtain ⟨hxl, hxb⟩ := chk_ok [] k f (l.take q) (hs.drop i) ((ss.map bl).drop j) hokd (by rw [← hpl]; simp; omega)
        obtain ⟨x, hx⟩ : ∃ x, x = chk f k (l.take q) (hs.drop i) ((ss.map bl).drop j) := ⟨_, rfl⟩
        rw [← hpl, ← hal, ← hx] at hihL
        rw [← hx] at hxl hxb hcm
        refine seq_op hS (by decide) (runs_call (args := [.int .i64 (f : Int), .int .i64 ((f + k : Nat) : Int), .slice A q c, .func (.func 62) #[] #[.pointer (some ⟨gs, 0, none⟩), .pointer (some ⟨gp, 0, none⟩)], .func (.func 63) #[] #[.pointer (some ⟨gh, 0, none⟩), .pointer (some ⟨gl, 0, none⟩)], .func (.func 34) #[] #[]]) (Post := fun v w' => v = .agg (U8 x).toArray ∧ MI w0 w' gs gh gp gl (i + pl) (j + al) pv lv ∧ But gs gh w1 w') goes61 rfl (hihL.mono (by rintro e w' ⟨rfl, h⟩; exact ⟨_, rfl, rfl, h⟩))) (fun v2 w2 a2 hp2 hS => ?_)
        obtain ⟨rfl, hI2, hb2⟩ := hp2
        have z2 := hb2.size
        refine seq_op hS (by decide) alloc_hash (fun v2 w3 a1 hp1 hS => ?_)
        obtain ⟨rfl, rfl⟩ := hp1
        have hY3 := Has.new w2 26 (U8 (List.replicate 32 0))
        have hB3 : Below w2.heap.size w2 (w2.alloc (.cells (U8 (List.replicate 32 0)).toArray 26)) := (Below.refl _ _).alloc (Nat.le_refl _) _
        generalize w2.alloc (.cells (U8 (List.replicate 32 0)).toArray 26) = w3 at *
        refine seq_none hS (runs_storeRow rfl rfl hY3 (by simp [hxl]) (agg_all _) (by rw [infHash]; simp [hxl])) (fun v3 w4 a3 hp3 hS => ?_)
        obtain ⟨rfl, rfl⟩ := hp3
        have hY4 := has_setRow (cs := U8 x) hY3
        have hB4 : Below w2.heap.size w2 (w3.setRow w2.heap.size (U8 x).toArray) := below_row hB3 (Nat.le_refl _) _
        generalize w3.setRow w2.heap.size (U8 x).toArray = w4 at *
        have hI4 := hI2.grow hB4
        have hb4 : But gs gh w1 w4 := hb2.trans (But.of hB4)
        have z4 := hB4.size
        have y4 := hY4.lt
        refine nil_ok (qx_seq (reg_seq ?_))
        refine seq_is hS (by decide) (runs_move rfl) (fun a1 hS => ?_)
        refine seq_is hS (by decide) (runs_move rfl) (fun a1 hS => ?_)
        refine seq_is hS (by decide) (runs_move rfl) (fun a1 hS => ?_)
        refine seq_is hS (by decide) (runs_move rfl) (fun a1 hS => ?_)
        refine seq_is hS (by decide) (runs_sliceFromG (l := q) rfl rfl rfl undInts infInt1 (by omega)) (fun a1 hS => ?_)
        refine seq_is hS (by decide) (runs_move rfl) (fun a1 hS => ?_)
        refine seq_is hS (by decide) (runs_move rfl) (fun a1 hS => ?_)
        refine seq_is hS (by decide) (runs_move rfl) (fun a1 hS => ?_)
        have hihR := ih (n - k) (by omega) (f + k) (i + pl) (j + al) (l.drop q) _ w4 (by omega) hI4 ht2 (by omega) (by omega)
        rw [show f + k + (n - k) = f + n by omega] at hihR
        obtain ⟨hyl, hyb⟩ := chk_ok [] (n - k) (f + k) (l.drop q) (hs.drop (i + pl)) ((ss.map bl).drop (j + al)) (fun h hh => hok h (List.mem_of_mem_drop hh)) (by simp; omega)
        obtain ⟨y, hy⟩ : ∃ y, y = chk (f + k) (n - k) (l.drop q) (hs.drop (i + pl)) ((ss.map bl).drop (j + al)) := ⟨_, rfl⟩
        rw [← hy] at hihR hyl hyb hcm
        refine seq_op hS (by decide) (runs_call (args := [.int .i64 ((f + k : Nat) : Int), .int .i64 ((f + n : Nat) : Int), .slice (if c = q then A else A.map (·.add (q * 1))) ((ofN l).length - q) (c - q), .func (.func 62) #[] #[.pointer (some ⟨gs, 0, none⟩), .pointer (some ⟨gp, 0, none⟩)], .func (.func 63) #[] #[.pointer (some ⟨gh, 0, none⟩), .pointer (some ⟨gl, 0, none⟩)], .func (.func 34) #[] #[]]) (Post := fun v w' => v = .agg (U8 y).toArray ∧ MI w0 w' gs gh gp gl (i + pl + (parts (f + k) (n - k) (l.drop q)).length) (j + al + asks (f + k) (n - k) (l.drop q)) pv lv ∧ But gs gh w4 w') goes61 rfl (hihR.mono (by rintro e w' ⟨rfl, h⟩; exact ⟨_, rfl, rfl, h⟩))) (fun v5 w5 a5 hp5 hS => ?_)
        obtain ⟨rfl, hI5, hb5⟩ := hp5
        have z5 := hb5.size
        have hY5 := hb5.has hY4 (by omega) (by omega)
        refine seq_op hS (by decide) alloc_hash (fun v2 w6 a1 hp1 hS => ?_)
        obtain ⟨rfl, rfl⟩ := hp1
        have hZ6 := Has.new w5 26 (U8 (List.replicate 32 0))
        have hB6 : Below w5.heap.size w5 (w5.alloc (.cells (U8 (List.replicate 32 0)).toArray 26)) := (Below.refl _ _).alloc (Nat.le_refl _) _
        generalize w5.alloc (.cells (U8 (List.replicate 32 0)).toArray 26) = w6 at *
        refine seq_none hS (runs_storeRow rfl rfl hZ6 (by simp [hyl]) (agg_all _) (by rw [infHash]; simp [hyl])) (fun v3 w7 a3 hp3 hS => ?_)
        obtain ⟨rfl, rfl⟩ := hp3
        have hZ7 := has_setRow (cs := U8 y) hZ6
        have hB7 : Below w5.heap.size w5 (w6.setRow w5.heap.size (U8 y).toArray) := below_row hB6 (Nat.le_refl _) _
        generalize w6.setRow w5.heap.size (U8 y).toArray = w7 at *
        have hY7 := hY5.below hB7 hY5.lt
        have hI7 := hI5.grow hB7
        have hb7 : But gs gh w1 w7 := (hb4.trans hb5).trans (But.of hB7)
        refine nil_ok (qx_seq (reg_seq ?_))
        refine seq_is hS (by decide) (runs_move rfl) (fun a1 hS => ?_)
        refine seq_is hS (by decide) (runs_loadRow rfl hY7 undHash rfl (by rw [infHash, U8_length, hxl])) (fun a1 hS => ?_)
        refine seq_is hS (by decide) (runs_loadRow rfl hZ7 undHash rfl (by rw [infHash, U8_length, hyl])) (fun a1 hS => ?_)
        refine seq_op hS (by decide) (runs_callv (caps := []) (args := [.agg (U8 x).toArray, .agg (U8 y).toArray]) (Post := fun v w' => v = .agg (U8 (Tree.node x y)).toArray ∧ Below w7.heap.size w7 w') goes34 rfl rfl ((node_any x y w7 hxl hyl hxb hyb (hk0.below hI7.b hk0.pos)).mono (by rintro e w' ⟨rfl, h⟩; exact ⟨_, rfl, rfl, h⟩))) (fun v8 w8 a8 hp8 hS => ?_)
        obtain ⟨rfl, hB8⟩ := hp8
        have hnl := Tree.node_len x y
        have hI8 := hI7.grow hB8
        have hb8 : But gs gh w1 w8 := hb7.trans (But.of hB8)
        refine seq_none hS (runs_storeRow rfl rfl (hb8.has hX1 (by omega) (by omega)) (by simp [hnl]) (agg_all _) (by rw [infHash]; simp [hnl])) (fun v3 w9 a3 hp3 hS => ?_)
        obtain ⟨rfl, rfl⟩ := hp3
        exact nil_ok (qx_ret (fin _ _ w8 _ _ _ hb8 hI8 hS rfl hnl hcm.symm (by rw [hpm, List.length_append, hpl]; omega) (by rw [ham, hal]; omega)))
end Go.Proofs.YtdemoidmhmdgkaaDoor
