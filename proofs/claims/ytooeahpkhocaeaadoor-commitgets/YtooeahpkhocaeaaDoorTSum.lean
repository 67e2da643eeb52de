/- Layer 3: sum, Leaf, Node. Conditions: the table of constants lies as it was laid; fewer than 10 to the 9 bytes. -/
import Derived.Test.YtooeahpkhocaeaaDoorTTab
import Derived.Lib.ConvBytes
namespace Go.Proofs.YtooeahpkhocaeaaDoor
open Go.RowKit
set_option maxRecDepth 100000

noncomputable def ops33 (id : Nat) : Array Oper := match (Tryd.f49.body.bind (regionIn id)) with | some (.region _ ops _) => ops | _ => #[]
theorem bytes_cons {x : Nat} {l : List Nat} (hx : x < 256) (h : Sha.Bytes l) : Sha.Bytes (x :: l) := by
  intro y hy
  rcases List.mem_cons.1 hy with rfl | hy
  · exact hx
  · exact h y hy
theorem bytes_append {a b : List Nat} (h : Sha.Bytes a) (k : Sha.Bytes b) : Sha.Bytes (a ++ b) := fun y hy => by
  rcases List.mem_append.1 hy with hy | hy
  · exact h y hy
  · exact k y hy
section
variable {P : Program} {L : List (Nat × Value)} {w : World} {ty : TypeId}
/-- Nothing is appended. -/
theorem runs_appendNone {t e : TypeId} {s x : Operand} {i : TypeInfo} {b A : Option Addr} {l c c' : Nat} (ht : P.underlying t = some (.slice e)) (hi : P.info? e = some i) (hs : vals L s = some (.slice b l c)) (hlc : l ≤ c) (hb : b ≠ none) (hx : vals L x = some (.slice A 0 c')) :
    Runs P (.call { callee := .builtin .append, args := #[s, x], argTypes := #[t, t] }) ty L w (Is (.slice b l c) w) := fun o a K Q ho _ hL hK => by
  have e1 := hL s (by simp [Op.operands, Call.operands]) _ hs
  have e2 := hL x (by simp [Op.operands, Call.operands]) _ hx
  obtain ⟨b, rfl⟩ := Option.ne_none_iff_exists'.1 hb
  unfold Oper.wp
  have : (execOp a.eval o).run P w = .ok (.value (.slice (some b) l c)) w := by
    cases A <;> simp [execOp, ho, resolve, invoke, builtin, e1, e2, Builtin.append_, run_underlying ht, sizeOf, typeInfo, hi, Builtin.lenOf, hlc, Builtin.firstCells, loadCells, loadCellsFrom, storeCells]
  rw [this]
  exact hK _ _ ⟨rfl, rfl⟩
end
theorem Sl.kept {w w' : World} {g g' : Nat} {v : Value} {l : List Nat} (h : Sl w g v l) (k : Below w.heap.size w w') (hg : w'.heap.size ≤ g') : Sl w' g' v l := by
  obtain ⟨A, c, rfl, h1, h2, h3⟩ := h
  refine ⟨A, c, rfl, h1, h2, fun hp => ?_⟩
  obtain ⟨b, o, rfl, hb, hs, hr⟩ := h3 hp
  exact ⟨b, o, rfl, by have := k.size; omega, Nat.lt_of_lt_of_le hs k.size, fun j v hv => by rw [k.cell (p := ⟨b, o + j, none⟩) hs]; exact hr j v hv⟩
theorem Sl.new {w : World} {g n c : Nat} {l : List Nat} (hr : w.rangeAt g 0 (U8 l)) (hg : g < w.heap.size) (hn : l.length = n) (hc : n ≤ c) (hm : c ≤ maxLen) : Sl w w.heap.size (.slice (some ⟨g, 0, none⟩) n c) l :=
  ⟨_, c, by rw [hn], by omega, hm, fun _ => ⟨g, 0, rfl, by omega, hg, hr⟩⟩
theorem Has.all {w : World} {g : Nat} {t : TypeId} {cs : List Value} (h : Has w g t cs) : w.rangeAt g 0 cs := by
  have := h.range 0 cs.length
  rwa [List.drop_zero, List.take_length] at this
theorem Parts.kept {w w' : World} {v : Value} {ps : List (List Nat)} (h : Parts w v ps) (k : Below w.heap.size w w') : Parts w' v ps := by
  obtain ⟨A, c, vs, rfl, h1, h2, h3, h4, h5⟩ := h
  refine ⟨A, c, vs, rfl, h1, h2, h3, fun hp => ?_, fun i u l hu hl => (h5 i u l hu hl).kept k (Nat.le_refl _)⟩
  obtain ⟨b, o, rfl, hb, hr⟩ := h4 hp
  exact ⟨b, o, rfl, Nat.lt_of_lt_of_le hb k.size, fun j v hv => by rw [k.cell (p := ⟨b, o + j, none⟩) hb]; exact hr j v hv⟩
theorem agg_all (l : List Nat) : (U8 l).toArray.all (·.oneCell') = true := all_oneCell_toArray (U8_one _)
/-- The row that a sum's result lies in. -/
theorem alloc_hash {L : List (Nat × Value)} {w : World} {ty : TypeId} : Runs Tryd.prog (.alloc 23) ty L w (Boxed w 23 (U8 (List.replicate 32 0)).toArray) := by
  cases h : Tryd.prog.info? 23 with
  | none => have := infHash; rw [h] at this; cases this
  | some ie =>
    have hz := infHashZ
    rw [h] at hz
    exact runs_alloc h hz
set_option maxRecDepth 100000 in
set_option maxHeartbeats 1000000 in
theorem sum_any (m : Nat) (ps : List (List Nat)) (v : Value) (w : World) (hm : m < 256) (hp : Parts w v ps) (hby : ∀ l ∈ ps, Sha.Bytes l) (hk : Kept w) (hn : ps.flatten.length < 1000000000) (hnp : ps.length < 1000) :
    Calls Tryd.prog 49 #[.int .u8 (m : Int), v] w fun e w' => e = .returned (.agg (U8 (Sha.sha (m :: ps.flatten))).toArray) ∧ Below w.heap.size w w' := by
  refine calls_qx (args := [.int .u8 (m : Int), v]) 11 Tryd.func49 rfl (by kernel_rfl) (by simp) (fun a hS => ?_)
  obtain ⟨i5, hi5, hz5, hzs5, hzb5⟩ := info_parts infByte
  obtain ⟨ib, hib, hzb0, hzbs, hzbb⟩ := info_parts infBytes
  refine qx_seq (reg_seq ?_)
  refine seq_op hS (by decide) alloc_hash (fun v1 w1 a1 hp1 hS => ?_)
  obtain ⟨rfl, rfl⟩ := hp1
  have hH1 := Has.new w 23 (U8 (List.replicate 32 0))
  have hB1 : Below w.heap.size w (w.alloc (.cells (U8 (List.replicate 32 0)).toArray 23)) := (Below.refl _ _).alloc (Nat.le_refl _) _
  have hz1 : (w.alloc (.cells (U8 (List.replicate 32 0)).toArray 23)).heap.size = w.heap.size + 1 := by simp
  generalize w.alloc (.cells (U8 (List.replicate 32 0)).toArray 23) = w1 at *
  refine nil_ok (qx_seq (reg_seq ?_))
  refine seq_is hS (by decide) (runs_move rfl) (fun a1 hS => ?_)
  refine seq_op hS (by decide) (runs_buildSlice (pv := [(0, .int .u8 (m : Int))]) rfl undBytes hi5 hz5 hzs5 (by omega) (by omega) (cells := (U8 [m]).toArray) (by kernel_rfl)) (fun v1 w2 a1 hp1 hS => ?_)
  obtain ⟨rfl, rfl⟩ := hp1
  have hM2 := Has.new w1 5 (U8 [m])
  have hB2 : Below w1.heap.size w1 (w1.alloc (.cells (U8 [m]).toArray 5)) := (Below.refl _ _).alloc (Nat.le_refl _) _
  have hz2 : (w1.alloc (.cells (U8 [m]).toArray 5)).heap.size = w1.heap.size + 1 := by simp
  generalize w1.alloc (.cells (U8 [m]).toArray 5) = w2 at *
  refine seq_op hS (by decide) (runs_buildSlice (pv := [(0, .slice (some ⟨w1.heap.size, 0, none⟩) 1 1)]) rfl undParts hib hzb0 hzbs (by omega) (by omega) (cells := #[.slice (some ⟨w1.heap.size, 0, none⟩) 1 1]) (by kernel_rfl)) (fun v1 w3 a1 hp1 hS => ?_)
  obtain ⟨rfl, rfl⟩ := hp1
  have hR3 := Has.new w2 45 [.slice (some ⟨w1.heap.size, 0, none⟩) 1 1]
  have hB3 : Below w2.heap.size w2 (w2.alloc (.cells #[.slice (some ⟨w1.heap.size, 0, none⟩) 1 1] 45)) := (Below.refl _ _).alloc (Nat.le_refl _) _
  have hz3 : (w2.alloc (.cells #[.slice (some ⟨w1.heap.size, 0, none⟩) 1 1] 45)).heap.size = w2.heap.size + 1 := by simp
  have hR3' : Has (w2.alloc (.cells #[.slice (some ⟨w1.heap.size, 0, none⟩) 1 1] 45)) w2.heap.size 45 [.slice (some ⟨w1.heap.size, 0, none⟩) 1 1] := hR3
  generalize w2.alloc (.cells #[.slice (some ⟨w1.heap.size, 0, none⟩) 1 1] 45) = w3 at *
  refine seq_is hS (by decide) (runs_move rfl) (fun a1 hS => ?_)
  have hBw3 : Below w.heap.size w w3 := (hB1.trans (hB2.mono (by omega))).trans (hB3.mono (by omega))
  have hM3 : Has w3 w1.heap.size 5 (U8 [m]) := hM2.below hB3 (by omega)
  have hH3 : Has w3 w.heap.size 23 (U8 (List.replicate 32 0)) := (hH1.below hB2 (by omega)).below hB3 (by omega)
  have hS0 : ∀ w4 : World, Has w4 w1.heap.size 5 (U8 [m]) → Sl w4 w4.heap.size (.slice (some ⟨w1.heap.size, 0, none⟩) 1 1) [m] := fun w4 h => Sl.new h.all h.lt rfl (by omega) (by unfold maxLen; omega)
  obtain ⟨A, c, vs, rfl, hc1, hc2, hvl, hA, hSl⟩ := hp
  -- all parts, the mark ahead
  have key : ∀ (v' : Value) (w4 : World) (a4 : Act), Below w.heap.size w w4 → Has w4 w.heap.size 23 (U8 (List.replicate 32 0)) → Parts w4 v' ([m] :: ps) → Sees 11 [(9, v'), (4, .pointer (some ⟨w.heap.size, 0, none⟩))] a4 →
      wpList Tryd.prog (ops33 1) (Qx (fun a' w' => Code.ret.wp Tryd.prog (Qx (Rets Tryd.prog Tryd.f49 (fun e w' => e = .returned (.agg (U8 (Sha.sha (m :: ps.flatten))).toArray) ∧ Below w.heap.size w w')) (fun _ _ _ => False) (Rets Tryd.prog Tryd.f49 (fun e w' => e = .returned (.agg (U8 (Sha.sha (m :: ps.flatten))).toArray) ∧ Below w.heap.size w w'))) a' w') (fun _ _ _ => False) (Rets Tryd.prog Tryd.f49 (fun e w' => e = .returned (.agg (U8 (Sha.sha (m :: ps.flatten))).toArray) ∧ Below w.heap.size w w'))) ((ops33 1).toList.drop 5) a4 w4 := fun v' w4 a4 hB4 hH4 hP4 hS => by
    have hof := of_any ([m] :: ps) v' w4 hP4 (fun l hl => by
      rcases List.mem_cons.1 hl with rfl | hl
      · exact bytes_cons hm (fun _ h => by cases h)
      · exact hby l hl) (hk.below hB4 hk.pos) (by rw [show ([m] :: ps).flatten = m :: ps.flatten by simp, List.length_cons]; omega)
    rw [show ([m] :: ps).flatten = m :: ps.flatten by simp] at hof
    have hlen : (Sha.sha (m :: ps.flatten)).length = 32 := Sha.Holds.sumText
    refine seq_op hS (by decide) (runs_call (args := [v']) (Post := fun v w' => v = .agg (U8 (Sha.sha (m :: ps.flatten))).toArray ∧ Below w4.heap.size w4 w') goes59 rfl (hof.mono (by rintro e w' ⟨rfl, h⟩; exact ⟨_, rfl, rfl, h⟩))) (fun v5 w5 a5 hp5 hS => ?_)
    obtain ⟨rfl, hB5⟩ := hp5
    have hH5 := hH4.below hB5 hH4.lt
    refine seq_none hS (runs_storeRow rfl rfl hH5 (by simp [hlen]) (agg_all _) (by rw [infHash]; simp [hlen])) (fun v6 w6 a6 hp6 hS => ?_)
    obtain ⟨rfl, rfl⟩ := hp6
    have hH6 := has_setRow (cs := U8 (Sha.sha (m :: ps.flatten))) hH5
    refine nil_ok (qx_ret (retRow (t := 0) (p := 4) (by kernel_rfl) hS rfl hH6 rfl undHash rfl (by rw [infHash]; simp [hlen]) ⟨rfl, ?_⟩))
    have hB6 : Below w.heap.size w w5 := hB4.trans (hB5.mono hB4.size)
    exact ⟨hB6.os, hB6.tape, hB6.output, by simpa [World.setRow] using hB6.size, fun i hi => (setRow_other w5 w.heap.size i _ (by omega)).trans (hB6.block i hi)⟩
  by_cases h0 : ps.length = 0
  · have hps : ps = [] := List.length_eq_zero_iff.1 h0
    subst hps
    refine seq_is hS (by decide) (runs_appendNone undParts hib rfl (Nat.le_refl _) (by simp) rfl) (fun a4 hS => ?_)
    refine key _ w3 a4 hBw3 hH3 ⟨_, 1, [.slice (some ⟨w1.heap.size, 0, none⟩) 1 1], rfl, by simp, by unfold maxLen; omega, rfl, fun _ => ⟨_, 0, rfl, by omega, hR3'.all⟩, fun i u l hu hl => ?_⟩ (hS.only _ ⟨rfl, rfl, trivial⟩)
    match i, hu, hl with
    | 0, hu, hl => simp at hu hl; subst hu hl; exact hS0 w3 hM3
    | i + 1, hu, hl => simp at hu
  · obtain ⟨b, o, rfl, hb, hra⟩ := hA (by omega)
    have hown : w3.ownsRow w2.heap.size 45 1 (.slice (some ⟨w2.heap.size, 0, none⟩) 1 1) 1 [.slice (some ⟨w1.heap.size, 0, none⟩) 1 1] := ⟨rfl, .inr ⟨_, 1, #[.slice (some ⟨w1.heap.size, 0, none⟩) 1 1], rfl, Nat.le_refl _, hR3', by omega, by unfold maxLen; omega, rfl, rfl⟩⟩
    have hone : ∀ u ∈ vs, u.oneCell' = true := fun u hu => by
      obtain ⟨j, hj, rfl⟩ := List.getElem_of_mem hu
      obtain ⟨A', c', h1, _⟩ := hSl j _ ps[j] (List.getElem?_eq_getElem hj) (List.getElem?_eq_getElem (by omega))
      rw [h1]; rfl
    refine seq_op hS (by decide) (runs_append undParts hib hzb0 hzbs hzbb rfl rfl hown rfl hvl (news := vs) (fun j u hj => by rw [show (⟨b, o, none⟩ : Addr).add j = ⟨b, o + j, none⟩ from by unfold Addr.add; split <;> simp_all]; exact range_below hra hBw3 hb j u hj) hone (by unfold maxLen; omega) (by omega) (by omega) (by omega)) (fun v' w4 a4 hp4 hS => ?_)
    obtain ⟨hown4, hgr4, hne4⟩ := hp4
    obtain ⟨g4, c4, rfl, hg4b, hg4, hc4, hc4m, hr4⟩ := own_form hown4 hne4
    have hB4 : Below w2.heap.size w2 w4 := below_grown hB3 hgr4 (fun g hg => Nat.le_of_eq (by simpa [Value.ownBlock] using hg)) (by omega)
    have hBw4 : Below w.heap.size w w4 := (hB1.trans (hB2.mono (by omega))).trans (hB4.mono (by omega))
    have hM4 : Has w4 w1.heap.size 5 (U8 [m]) := hM2.below hB4 (by omega)
    have hH4 : Has w4 w.heap.size 23 (U8 (List.replicate 32 0)) := (hH1.below hB2 (by omega)).below hB4 (by omega)
    have hlen : 1 + ps.length = ([m] :: ps).length := by simp; omega
    rw [hlen] at hS hc4
    refine key _ w4 a4 hBw4 hH4 ⟨_, c4, .slice (some ⟨w1.heap.size, 0, none⟩) 1 1 :: vs, rfl, hc4, hc4m, by simp [hvl], fun _ => ⟨g4, 0, rfl, hg4, hr4⟩, fun i u l hu hl => ?_⟩ (hS.only _ ⟨rfl, rfl, trivial⟩)
    match i, hu, hl with
    | 0, hu, hl => simp at hu hl; subst hu hl; exact hS0 w4 hM4
    | i + 1, hu, hl =>
      simp at hu hl
      exact (hSl i u l hu hl).kept hBw4 (Nat.le_refl _)
theorem parts_of {w : World} {u : Value} {l : List Nat} (h : Sl w w.heap.size u l) : Parts (w.alloc (.cells #[u] 45)) (.slice (some ⟨w.heap.size, 0, none⟩) 1 1) [l] := by
  refine ⟨_, 1, [u], rfl, by simp, by unfold maxLen; omega, rfl, fun _ => ⟨_, 0, rfl, by simp, (Has.new w 45 [u]).all⟩, fun i v l' hv hl => ?_⟩
  match i, hv, hl with
  | 0, hv, hl => simp at hv hl; subst hv hl; exact h.kept ((Below.refl _ _).alloc (Nat.le_refl _) _) (Nat.le_refl _)
  | i + 1, hv, hl => simp at hv
theorem parts_two {w : World} {u u' : Value} {l l' : List Nat} (h : Sl w w.heap.size u l) (h' : Sl w w.heap.size u' l') : Parts (w.alloc (.cells #[u, u'] 45)) (.slice (some ⟨w.heap.size, 0, none⟩) 2 2) [l, l'] := by
  refine ⟨_, 2, [u, u'], rfl, by simp, by unfold maxLen; omega, rfl, fun _ => ⟨_, 0, rfl, by simp, (Has.new w 45 [u, u']).all⟩, fun i v l1 hv hl => ?_⟩
  match i, hv, hl with
  | 0, hv, hl => simp at hv hl; subst hv hl; exact h.kept ((Below.refl _ _).alloc (Nat.le_refl _) _) (Nat.le_refl _)
  | 1, hv, hl => simp at hv hl; subst hv hl; exact h'.kept ((Below.refl _ _).alloc (Nat.le_refl _) _) (Nat.le_refl _)
  | i + 2, hv, hl => simp at hv
theorem bl_get (s : ByteArray) (j : Nat) (h : j < s.size) : (U8 (bl s))[j]? = some (.int .u8 ((s.data.toList.getD j 0).toNat : Int)) := by
  obtain ⟨⟨l⟩⟩ := s
  have : j < l.length := h
  simp [bl, U8, this]
theorem conv_str (w : World) (s : ByteArray) (hs : s.size ≤ maxLen) : ∃ (W1 : World) (c : Nat), Sem.run Tryd.prog (convert 9 45 (.string s)) w = .ok (.slice (some ⟨w.heap.size, 0, none⟩) s.size c) W1 ∧
    W1.heap.size = w.heap.size + 1 ∧ Below w.heap.size w W1 ∧ Sl W1 W1.heap.size (.slice (some ⟨w.heap.size, 0, none⟩) s.size c) (bl s) := by
  refine ⟨Lib.bytesWorld w 5 s, grownCap w s.size 0 5, Lib.run_convert_string_bytes w 9 45 5 s und9 undBytes und5, Lib.bytesWorld_size w 5 s, ⟨rfl, rfl, rfl, by rw [Lib.bytesWorld_size]; omega, fun i hi => Lib.bytesWorld_at_old w 5 s i hi⟩, ?_⟩
  refine ⟨_, _, by rw [bl_length], by rw [bl_length]; exact grownCap_ge w s.size 0 5, grownCap_le_maxLen w s.size 0 5 hs, fun _ => ⟨w.heap.size, 0, rfl, by rw [Lib.bytesWorld_size]; omega, by rw [Lib.bytesWorld_size]; omega, ?_⟩⟩
  intro j v hv
  have hj : j < s.size := by
    rw [← bl_length, ← U8_length]
    exact (List.getElem?_eq_some_iff.1 hv).1
  rw [bl_get s j hj] at hv
  rw [Nat.zero_add, Lib.bytesWorld_cell w 5 s j hj, ← hv]
/-- The end of a function whose sum is stored in its result's row. -/
theorem below_row {w w5 : World} {g : Nat} (h : Below w.heap.size w w5) (hg : w.heap.size ≤ g) (cs : Array Value) : Below w.heap.size w (w5.setRow g cs) :=
  ⟨h.os, h.tape, h.output, by simpa [World.setRow] using h.size, fun i hi => (setRow_other w5 g i _ (by omega)).trans (h.block i hi)⟩
set_option maxRecDepth 100000 in
set_option maxHeartbeats 1000000 in
theorem leaf_any (s : ByteArray) (w : World) (hs : s.size ≤ 100000) (hk : Kept w) : Calls Tryd.prog 50 #[.string s] w fun e w' => e = .returned (.agg (U8 (Tree.leaf (bl s))).toArray) ∧ Below w.heap.size w w' := by
  refine calls_qx (args := [.string s]) 7 Tryd.func50 rfl (by kernel_rfl) (by simp) (fun a hS => ?_)
  obtain ⟨ib, hib, hzb0, hzbs, hzbb⟩ := info_parts infBytes
  refine qx_seq (reg_seq ?_)
  refine seq_op hS (by decide) alloc_hash (fun v1 w1 a1 hp1 hS => ?_)
  obtain ⟨rfl, rfl⟩ := hp1
  have hH1 := Has.new w 23 (U8 (List.replicate 32 0))
  have hB1 : Below w.heap.size w (w.alloc (.cells (U8 (List.replicate 32 0)).toArray 23)) := (Below.refl _ _).alloc (Nat.le_refl _) _
  have hz1 : (w.alloc (.cells (U8 (List.replicate 32 0)).toArray 23)).heap.size = w.heap.size + 1 := by simp
  generalize w.alloc (.cells (U8 (List.replicate 32 0)).toArray 23) = w1 at *
  obtain ⟨w2, c2, hcv, hz2, hB2, hS2⟩ := conv_str w1 s (by unfold maxLen; omega)
  refine nil_ok (qx_seq (reg_seq ?_))
  refine seq_is hS (by decide) (runs_move rfl) (fun a1 hS => ?_)
  refine seq_is hS (by decide) (runs_conv rfl hcv) (fun a1 hS => ?_)
  refine seq_op hS (by decide) (runs_buildSlice (pv := [(0, .slice (some ⟨w1.heap.size, 0, none⟩) s.size c2)]) rfl undParts hib hzb0 hzbs (by omega) (by omega) (cells := #[.slice (some ⟨w1.heap.size, 0, none⟩) s.size c2]) (by kernel_rfl)) (fun v1 w3 a1 hp1 hS => ?_)
  obtain ⟨rfl, rfl⟩ := hp1
  have hP := parts_of hS2
  have hB3 : Below w2.heap.size w2 (w2.alloc (.cells #[.slice (some ⟨w1.heap.size, 0, none⟩) s.size c2] 45)) := (Below.refl _ _).alloc (Nat.le_refl _) _
  generalize w2.alloc (.cells #[.slice (some ⟨w1.heap.size, 0, none⟩) s.size c2] 45) = w3 at *
  have hBw3 : Below w.heap.size w w3 := (hB1.trans (hB2.mono (by omega))).trans (hB3.mono (by omega))
  have hH3 : Has w3 w.heap.size 23 (U8 (List.replicate 32 0)) := (hH1.below hB2 (by omega)).below hB3 (by omega)
  have hsum := sum_any 0 [bl s] _ w3 (by omega) hP (fun l hl => by rw [List.mem_singleton.1 hl]; exact bl_bytes s) (hk.below hBw3 hk.pos) (by simp [bl_length]; omega) (by simp)
  rw [show [bl s].flatten = bl s by simp] at hsum
  refine seq_op hS (by decide) (runs_call (args := [.int .u8 0, .slice (some ⟨w2.heap.size, 0, none⟩) 1 1]) (Post := fun v w' => v = .agg (U8 (Tree.leaf (bl s))).toArray ∧ Below w3.heap.size w3 w') goes49 rfl (hsum.mono (by rintro e w' ⟨rfl, h⟩; exact ⟨_, rfl, rfl, h⟩))) (fun v5 w5 a5 hp5 hS => ?_)
  obtain ⟨rfl, hB5⟩ := hp5
  have hH5 := hH3.below hB5 hH3.lt
  have hlen := Tree.leaf_len (bl s)
  refine seq_none hS (runs_storeRow rfl rfl hH5 (by simp [hlen]) (agg_all _) (by rw [infHash]; simp [hlen])) (fun v6 w6 a6 hp6 hS => ?_)
  obtain ⟨rfl, rfl⟩ := hp6
  exact nil_ok (qx_ret (retRow (t := 0) (p := 2) (by kernel_rfl) hS rfl (has_setRow (cs := U8 (Tree.leaf (bl s))) hH5) rfl undHash rfl (by rw [infHash]; simp [hlen]) ⟨rfl, below_row (hBw3.trans (hB5.mono hBw3.size)) (Nat.le_refl _) _⟩))
set_option maxRecDepth 100000 in
set_option maxHeartbeats 1000000 in
theorem node_any (x y : List Nat) (w : World) (hx : x.length = 32) (hy : y.length = 32) (hbx : Sha.Bytes x) (hby : Sha.Bytes y) (hk : Kept w) : Calls Tryd.prog 52 #[.agg (U8 x).toArray, .agg (U8 y).toArray] w fun e w' => e = .returned (.agg (U8 (Tree.node x y)).toArray) ∧ Below w.heap.size w w' := by
  refine calls_qx (args := [.agg (U8 x).toArray, .agg (U8 y).toArray]) 9 Tryd.func52 rfl (by kernel_rfl) (by simp) (fun a hS => ?_)
  obtain ⟨ib, hib, hzb0, hzbs, hzbb⟩ := info_parts infBytes
  refine qx_seq (reg_seq ?_)
  refine seq_op hS (by decide) (runs_box rfl) (fun v1 w1 a1 hp1 hS => ?_)
  obtain ⟨rfl, rfl⟩ := hp1
  have hX1 : Has (w.alloc (.cells (Value.agg (U8 x).toArray).cells 23)) w.heap.size 23 (U8 x) := Has.new w 23 (U8 x)
  have hB1 : Below w.heap.size w (w.alloc (.cells (Value.agg (U8 x).toArray).cells 23)) := (Below.refl _ _).alloc (Nat.le_refl _) _
  have hz1 : (w.alloc (.cells (Value.agg (U8 x).toArray).cells 23)).heap.size = w.heap.size + 1 := by simp
  generalize w.alloc (.cells (Value.agg (U8 x).toArray).cells 23) = w1 at *
  refine seq_op hS (by decide) (runs_box rfl) (fun v1 w2 a1 hp1 hS => ?_)
  obtain ⟨rfl, rfl⟩ := hp1
  have hY2 : Has (w1.alloc (.cells (Value.agg (U8 y).toArray).cells 23)) w1.heap.size 23 (U8 y) := Has.new w1 23 (U8 y)
  have hB2 : Below w1.heap.size w1 (w1.alloc (.cells (Value.agg (U8 y).toArray).cells 23)) := (Below.refl _ _).alloc (Nat.le_refl _) _
  have hz2 : (w1.alloc (.cells (Value.agg (U8 y).toArray).cells 23)).heap.size = w1.heap.size + 1 := by simp
  generalize w1.alloc (.cells (Value.agg (U8 y).toArray).cells 23) = w2 at *
  refine seq_op hS (by decide) alloc_hash (fun v1 w3 a1 hp1 hS => ?_)
  obtain ⟨rfl, rfl⟩ := hp1
  have hH3 := Has.new w2 23 (U8 (List.replicate 32 0))
  have hB3 : Below w2.heap.size w2 (w2.alloc (.cells (U8 (List.replicate 32 0)).toArray 23)) := (Below.refl _ _).alloc (Nat.le_refl _) _
  have hz3 : (w2.alloc (.cells (U8 (List.replicate 32 0)).toArray 23)).heap.size = w2.heap.size + 1 := by simp
  generalize w2.alloc (.cells (U8 (List.replicate 32 0)).toArray 23) = w3 at *
  have hX3 : Has w3 w.heap.size 23 (U8 x) := (hX1.below hB2 (by omega)).below hB3 (by omega)
  have hY3 : Has w3 w1.heap.size 23 (U8 y) := hY2.below hB3 (by omega)
  have hBw3 : Below w.heap.size w w3 := (hB1.trans (hB2.mono (by omega))).trans (hB3.mono (by omega))
  refine nil_ok (qx_seq (reg_tail (Drawn w3) 2 3 mixed rfl (by kernel_rfl) hS (Drawn.refl w3) (fun _ h => h.drew) ?_))
  refine qs_is rfl (fun w hw => runs_sliceArr rfl undHash infByte1) ?_
  refine qs_is rfl (fun w hw => runs_sliceArr rfl undHash infByte1) ?_
  refine (fun a4 w4 hS4 hw4 => ?_)
  have hX4 : Has w4 w.heap.size 23 (U8 x) := by unfold Has; rw [hw4.heap]; exact hX3
  have hY4 : Has w4 w1.heap.size 23 (U8 y) := by unfold Has; rw [hw4.heap]; exact hY3
  have hH4 : Has w4 w2.heap.size 23 (U8 (List.replicate 32 0)) := by unfold Has; rw [hw4.heap]; exact hH3
  have hBw4 : Below w.heap.size w w4 := hBw3.trans (hw4.below _)
  refine tail_op 2 (by kernel_rfl) rfl hS4 (by decide) (runs_buildSlice (pv := [(0, .slice (some ⟨w.heap.size, 0, none⟩) 32 32), (1, .slice (some ⟨w1.heap.size, 0, none⟩) 32 32)]) rfl undParts hib hzb0 hzbs (by omega) (by omega) (cells := #[.slice (some ⟨w.heap.size, 0, none⟩) 32 32, .slice (some ⟨w1.heap.size, 0, none⟩) 32 32]) (by kernel_rfl)) (fun v w5 a5 hp hS5 => ⟨trivial, ?_⟩)
  obtain ⟨rfl, rfl⟩ := hp
  have hP := parts_two (Sl.new (c := 32) hX4.all hX4.lt hx (by omega) (by unfold maxLen; omega)) (Sl.new (c := 32) hY4.all hY4.lt hy (by omega) (by unfold maxLen; omega))
  have hB5 : Below w4.heap.size w4 (w4.alloc (.cells #[.slice (some ⟨w.heap.size, 0, none⟩) 32 32, .slice (some ⟨w1.heap.size, 0, none⟩) 32 32] 45)) := (Below.refl _ _).alloc (Nat.le_refl _) _
  generalize w4.alloc (.cells #[.slice (some ⟨w.heap.size, 0, none⟩) 32 32, .slice (some ⟨w1.heap.size, 0, none⟩) 32 32] 45) = w5 at *
  have hBw5 : Below w.heap.size w w5 := hBw4.trans (hB5.mono hBw4.size)
  have hsum := sum_any 1 [x, y] _ w5 (by omega) hP (fun l hl => by
    simp at hl
    rcases hl with rfl | rfl
    · exact hbx
    · exact hby) (hk.below hBw5 hk.pos) (by simp; omega) (by simp)
  rw [show [x, y].flatten = x ++ y by simp] at hsum
  refine tail_op 3 (by kernel_rfl) rfl hS5 (by decide) (runs_call (args := [.int .u8 1, .slice (some ⟨w4.heap.size, 0, none⟩) 2 2]) (Post := fun v w' => v = .agg (U8 (Tree.node x y)).toArray ∧ Below w5.heap.size w5 w') goes49 rfl (hsum.mono (by rintro e w' ⟨rfl, h⟩; exact ⟨_, rfl, rfl, h⟩))) (fun v6 w6 a6 hp6 hS6 => ⟨trivial, ?_⟩)
  obtain ⟨rfl, hB6⟩ := hp6
  have hH6 : Has w6 w2.heap.size 23 (U8 (List.replicate 32 0)) := (hH4.below hB5 hH4.lt).below hB6 (Nat.lt_of_lt_of_le hH4.lt hB5.size)
  have hlen := Tree.node_len x y
  refine tail_none 4 (by kernel_rfl) rfl hS6 (runs_storeRow rfl rfl hH6 (by simp [hlen]) (agg_all _) (by rw [infHash]; simp [hlen])) (fun v7 w7 a7 hp7 hS7 => ⟨trivial, ?_⟩)
  obtain ⟨rfl, rfl⟩ := hp7
  refine wpAnyH_done (by kernel_rfl) ?_ _
  exact qx_ret (retRow (t := 0) (p := 4) (by kernel_rfl) hS7 rfl (has_setRow (cs := U8 (Tree.node x y)) hH6) rfl undHash rfl (by rw [infHash]; simp [hlen]) ⟨rfl, below_row (hBw5.trans (hB6.mono hBw5.size)) (by omega) _⟩)
end Go.Proofs.YtooeahpkhocaeaaDoor
