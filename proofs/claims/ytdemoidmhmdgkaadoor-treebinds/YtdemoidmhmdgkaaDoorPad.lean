/- One byte appended to a row of the call's own, marked or not. Conditions: fewer than a million bytes. -/
import Derived.Test.YtdemoidmhmdgkaaDoorRefSmall
namespace Go.Proofs.YtdemoidmhmdgkaaDoor
open Go.RowKit
set_option maxRecDepth 100000

def OwnB (base : Nat) (V : World) (v : Value) (l : List Nat) : Prop :=
  ∃ (g cap : Nat) (cs : Array Value) (fr : Nat × Nat), v = .slice (some ⟨g, 0, none⟩) l.length cap ∧ base ≤ g ∧ V.heap[g]? = some (.cells cs 5 fr) ∧ (∀ j, j < cap → ¬ (fr.1 ≤ j ∧ j < fr.2)) ∧ cs.size = cap ∧ l.length ≤ cap ∧ cap ≤ maxLen ∧ cs.toList.take l.length = U8 l
theorem info5b : (Tryd.prog.info? 5).map (fun i => (i.zero, i.size, i.bytes)) = some (some (.int .u8 0), 1, 1) := by kernel_rfl
theorem OwnB.cell {base : Nat} {V : World} {v : Value} {l : List Nat} (h : OwnB base V v l) : ∃ g cap, v = .slice (some ⟨g, 0, none⟩) l.length cap ∧ base ≤ g ∧ g < V.heap.size ∧ V.rangeAt g 0 (U8 l) ∧ l.length ≤ cap ∧ cap ≤ maxLen := by
  obtain ⟨g, cap, cs, fr, rfl, hb, hg, hf, hs, hl, hm, ht⟩ := h
  refine ⟨g, cap, rfl, hb, (Array.getElem?_eq_some_iff.1 hg).1, fun j u hu => ?_, hl, hm⟩
  rw [Nat.zero_add, cell_of_row V g j cs 5 fr hg]
  rw [← ht, List.getElem?_take] at hu
  split at hu
  · simpa using hu
  · cases hu
theorem conv_own (w : World) (s : ByteArray) (hs : s.size ≤ maxLen) : ∃ (W1 : World) (c : Nat), Sem.run Tryd.prog (convert 9 37 (.string s)) w = .ok (.slice (some ⟨w.heap.size, 0, none⟩) s.size c) W1 ∧
    W1.heap.size = w.heap.size + 1 ∧ Below w.heap.size w W1 ∧ OwnB w.heap.size W1 (.slice (some ⟨w.heap.size, 0, none⟩) s.size c) (bl s) := by
  have hge := grownCap_ge w s.size 0 5
  have hsz : (Lib.bytesCells w 5 s).size = grownCap w s.size 0 5 := by
    simp only [Lib.bytesCells, Array.size_append, Array.size_map, Array.size_replicate]
    have : s.data.size = s.size := rfl
    omega
  refine ⟨Lib.bytesWorld w 5 s, grownCap w s.size 0 5, Lib.run_convert_string_bytes w 9 37 5 s und9 und27 und5, Lib.bytesWorld_size w 5 s, ⟨rfl, rfl, rfl, by rw [Lib.bytesWorld_size]; omega, fun i hi => Lib.bytesWorld_at_old w 5 s i hi⟩, ?_⟩
  refine ⟨w.heap.size, _, _, _, by rw [bl_length], Nat.le_refl _, Lib.bytesWorld_at_new w 5 s, fun j hj => by rw [hsz]; simp; omega, hsz, by rw [bl_length]; exact hge, grownCap_le_maxLen w s.size 0 5 hs, ?_⟩
  apply List.ext_getElem?
  intro j
  by_cases hj : j < s.size
  · rw [bl_get s j hj, List.getElem?_take, if_pos (by rw [bl_length]; exact hj)]
    have := Lib.bytesWorld_cell w 5 s j hj
    rw [cell_of_row _ w.heap.size j _ 5 _ (Lib.bytesWorld_at_new w 5 s)] at this
    simpa using this
  · rw [List.getElem?_eq_none (by rw [List.length_take, bl_length]; omega), List.getElem?_eq_none (by rw [U8_length, bl_length]; omega)]
theorem run_append_byte {base : Nat} {V : World} {v : Value} {l : List Nat} (h : OwnB base V v l) (x : Nat) (ad : Addr) (c : Nat) (ty : TypeId) (hx : V.cell? ad = some (.int .u8 (x : Int))) (hn : l.length < 1000000) (hB : base ≤ V.heap.size) :
    ∃ v' V', (Builtin.append_ #[37, 37] ty #[v, .slice (some ad) 1 c]).run Tryd.prog V = .ok v' V' ∧ OwnB base V' v' (l ++ [x]) ∧ Below base V V' := by
  obtain ⟨g, cap, cs, fr, rfl, hb, hg, hf, hs, hl, hm, ht⟩ := h
  obtain ⟨i, hi, hz, hsz, hby⟩ := info_parts info5b
  have hnews : ∀ j u, [Value.int .u8 (x : Int)][j]? = some u → V.cell? (ad.add j) = some u := fun j u hu => by
    match j, hu with
    | 0, hu => simp at hu; subst hu; simpa [Addr.add] using hx
  have hgV : g < V.heap.size := (Array.getElem?_eq_some_iff.1 hg).1
  by_cases hroom : l.length + 1 ≤ cap
  · have hfc := run_firstCells_some (P := Tryd.prog) V i.size 1 ad 1 c [.int .u8 (x : Int)] (by simp [hsz]) hnews
    have hst := run_storeCells_cells (P := Tryd.prog) g l.length [.int .u8 (x : Int)] 0 V (fun j hj => by
        simp at hj; subst hj
        rw [Nat.add_zero, cell_of_row V g _ cs 5 fr hg, Array.getElem?_eq_getElem (by omega)]; rfl)
      (fun j hj => by
        simp at hj; subst hj
        have := hf l.length (by omega)
        simp only [World.frozen?, hg]
        simp; omega) (fun v hv => by rw [List.mem_singleton.1 hv]; rfl)
    have hcell : (V.setCells g l.length [.int .u8 (x : Int)]).heap[g]? = some (.cells (cs.setIfInBounds l.length (.int .u8 (x : Int))) 5 fr) := by
      simp [World.setCells, World.setCell, Array.getElem?_modify, hg]
    refine ⟨.slice (some ⟨g, 0, none⟩) (l.length + 1) cap, V.setCells g l.length [.int .u8 (x : Int)], ?_, ?_, ?_⟩
    · rw [hsz] at hfc
      simp [Builtin.append_, run_underlying und27, sizeOf, typeInfo, hi, Builtin.lenOf, hroom, hfc, Addr.add_lit, hsz]
      simp only [Nat.add_zero] at hst
      rw [hst]
      rfl
    · refine ⟨g, cap, _, fr, by simp, hb, hcell, hf, by simpa using hs, by simpa using hroom, hm, ?_⟩
      rw [Array.toList_setIfInBounds, List.length_append, List.length_singleton, U8_append, ← ht]
      apply List.ext_getElem?
      intro j
      have hcl : cs.toList.length = cap := by simpa using hs
      rw [List.getElem?_take]
      by_cases hj : j < l.length
      · rw [if_pos (by omega), List.getElem?_set_ne (by omega), List.getElem?_append_left (by rw [List.length_take]; omega), List.getElem?_take, if_pos hj]
      · by_cases hj2 : j = l.length
        · subst hj2
          rw [if_pos (by omega), List.getElem?_set_self (by omega), List.getElem?_append_right (by rw [List.length_take]; omega), List.length_take, show l.length - min l.length cs.toList.length = 0 by omega]
          rfl
        · rw [if_neg (by omega), List.getElem?_append_right (by rw [List.length_take]; omega), List.length_take, List.getElem?_eq_none]
          simp [U8]; omega
    · exact below_setCells g hb _ _ _ (Below.refl _ _)
  · have holds : ∀ j u, (U8 l)[j]? = some u → V.cell? ((⟨g, 0, none⟩ : Addr).add j) = some u := fun j u hu => by
      obtain ⟨g', cap', e, _, _, hr, _⟩ := OwnB.cell (base := base) (V := V) (l := l) ⟨g, cap, cs, fr, rfl, hb, hg, hf, hs, hl, hm, ht⟩
      injection e with e1 e2 e3
      injection e1 with e1
      injection e1 with e1
      subst e1
      have := hr j u hu
      rw [show (⟨g, 0, none⟩ : Addr).add j = ⟨g, 0 + j, none⟩ from by unfold Addr.add; split <;> simp_all]
      exact this
    have hr := run_append_grow (P := Tryd.prog) V 37 ty 5 i _ und27 hi hz ⟨g, 0, none⟩ l.length cap (U8 l) (by simp [hsz]) holds ad 1 c [.int .u8 (x : Int)] (by simp [hsz]) hnews (by omega) (by omega) (growslice_fits (by omega) (by rw [hby]; omega))
    have hge := grownCap_ge V (l.length + 1) cap 5
    have hcm := grownCap_le_maxLen V (l.length + 1) cap 5 (by unfold maxLen; omega)
    refine ⟨_, _, hr, ?_, ?_⟩
    · refine ⟨V.heap.size, grownCap V (l.length + 1) cap 5, _, (0, 0), by simp, hB, heap_alloc_new V.drew _, fun j _ h => by simp at h, ?_, by simpa using hge, hcm, ?_⟩
      · simp only [Array.size_append, List.size_toArray, U8_length, size_zeroCells, Value.cells]
        simp; omega
      · rw [U8_append]
        simp only [Array.toList_append, List.append_assoc]
        rw [← List.append_assoc, show (l ++ [x]).length = (U8 l ++ [Value.int .u8 (x : Int)]).length by simp]
        exact List.take_left
    · exact ((Below.refl _ _).drew).alloc (by simpa using hB) _
theorem wpList_append_byte {ops : Array Oper} {rest : List Oper} {o : Oper} {a : Act} {Q : Exit → Act → World → Prop} {V : World} (hgd : o.guard = none) (s y : Operand) (ho : o.op = .call { callee := .builtin .append, args := #[s, y], argTypes := #[37, 37] })
    {base : Nat} {v : Value} {l : List Nat} (hs : a.eval s = v) (h : OwnB base V v l) (x : Nat) (ad : Addr) (c : Nat) (hy : a.eval y = .slice (some ad) 1 c) (hx : V.cell? ad = some (.int .u8 (x : Int))) (hn : l.length < 1000000) (hB : base ≤ V.heap.size)
    (hK : ∀ v' V', OwnB base V' v' (l ++ [x]) → Below base V V' → wpList Tryd.prog ops Q rest (a.put o.dst v') V') : wpList Tryd.prog ops Q (o :: rest) a V := by
  refine wpList_plain hgd fun K hK' => ?_
  obtain ⟨v', V', hrun, r1, r2⟩ := run_append_byte h x ad c o.type hx hn hB
  unfold Oper.wp
  simp [execOp, ho, resolve, invoke, builtin, hs, hy, hrun, Result.andThen]
  exact hK' _ _ (hK v' V' r1 r2)
theorem OwnB.kept {base : Nat} {V V' : World} {v : Value} {l : List Nat} (h : OwnB base V v l) (k : Below V.heap.size V V') : OwnB base V' v l := by
  obtain ⟨g, cap, cs, fr, rfl, hb, hg, r⟩ := h
  exact ⟨g, cap, cs, fr, rfl, hb, (k.block g (Array.getElem?_eq_some_iff.1 hg).1).trans hg, r⟩
end Go.Proofs.YtdemoidmhmdgkaaDoor
