/- Layer 5: a graph as a text. Conditions: none of our own. -/
import Derived.Test.YtdbibjcplakelaaDoorGPick
import Derived.Test.YtdbibjcplakelaaDoorGLine
namespace Go.Proofs.YtdbibjcplakelaaDoor
open Go.RowKit
set_option maxRecDepth 100000

theorem goes32 : Goes Tryd.prog 32 := goes_of Tryd.func32 (by kernel_rfl) rfl
theorem goes33 : Goes Tryd.prog 33 := goes_of Tryd.func33 (by kernel_rfl) rfl
theorem goes44 : Goes Tryd.prog 44 := goes_of Tryd.func44 (by kernel_rfl) rfl
theorem goes45 : Goes Tryd.prog 45 := goes_of Tryd.func45 (by kernel_rfl) rfl
theorem goes46 : Goes Tryd.prog 46 := goes_of Tryd.func46 (by kernel_rfl) rfl
theorem goes22 : Goes Tryd.prog 22 := goes_of Tryd.func22 (by kernel_rfl) rfl
theorem gl0 : Tryd.prog.globalNamed "internal/strconv.uint64pow10" = some 0 := by kernel_rfl
theorem Kept.pos {w : World} (h : Kept w) : 2 ≤ w.heap.size := by
  obtain ⟨⟨m, hm⟩, _⟩ := h
  have : 1 < w.heap.size := by
    apply Classical.byContradiction
    intro hn
    simp only [World.cell?] at hm
    rw [Array.getElem?_eq_none (by omega)] at hm
    cases hm
  omega
theorem Kept.below {B : Nat} {w w' : World} (h : Kept w) (hb : Below B w w') (hB : 2 ≤ B) : Kept w' := by
  obtain ⟨⟨m, hm⟩, ht⟩ := h
  refine ⟨⟨m, by rw [hb.cell (p := ⟨1, 0, none⟩) (by show 1 < B; omega)]; exact hm⟩, ?_⟩
  unfold Lib.TabIs World.var? at *
  rw [gl0] at *
  simp only [Option.bind_some] at *
  rw [hb.block 0 (by omega)]
  exact ht
theorem Kept.on {w w' : World} (h : Kept w) (hb : Below w.heap.size w w') : Kept w' := h.below hb h.pos
abbrev Bld (B b : Nat) (l : Bs) (w : World) : Prop := Lib.IsBuilderF 52 5 B b (Lib.byteCells l) w
theorem bld_kept {B b : Nat} {l : Bs} {w w' : World} (h : Bld B b l w) (k : Below w.heap.size w w') : Bld B b l w' := by
  have key : ∀ p, Lib.BuilderAtF 52 5 B b p (Lib.byteCells l) w → Lib.BuilderAtF 52 5 B b p (Lib.byteCells l) w' := by
    rintro p ⟨h1, v, h2, ⟨h3, h4⟩, h5⟩
    refine ⟨h1, v, by rw [k.block b (Array.getElem?_eq_some_iff.1 h2).1]; exact h2, ⟨h3, ?_⟩, h5⟩
    rcases h4 with h4 | ⟨g, cap, cur, fz, e1, e2, e3, e4⟩
    · exact .inl h4
    · exact .inr ⟨g, cap, cur, fz, e1, e2, by rw [k.block g (Array.getElem?_eq_some_iff.1 e3).1]; exact e3, e4⟩
  exact h.elim (fun h => .inl (key _ h)) (fun h => .inr (key _ h))
theorem bld_heap {B b : Nat} {l : Bs} {w : World} (h : Bld B b l w) : ∃ p v, w.heap[b]? = some (.cells #[p, v] 52 (0, 0)) := by
  rcases h with ⟨_, v, h2, _⟩ | ⟨_, v, h2, _⟩
  · exact ⟨_, v, h2⟩
  · exact ⟨_, v, h2⟩
theorem bld_ne {B b g : Nat} {l : Bs} {t : TypeId} {cs : List Value} {w : World} (h : Bld B b l w) (hg : Has w g t cs) (ht : t ≠ 52) : g ≠ b := by
  rintro rfl
  obtain ⟨p, v, h2⟩ := bld_heap h
  unfold Has at hg
  rw [hg] at h2
  simp only [Option.some.injEq, Obj.cells.injEq] at h2
  exact ht h2.2.1
theorem has_others {b g : Nat} {t : TypeId} {cs : List Value} {w w' : World} (h : Lib.OthersKept 5 (some b) w w') (hg : Has w g t cs) (hgb : g ≠ b) (ht : t ≠ 5) : Has w' g t cs :=
  h g _ hg (by simpa using hgb) (fun c fz e => by simp only [Obj.cells.injEq] at e; exact ht e.2.1)
section
variable {L : List (Nat × Value)} {w : World} {ty : TypeId}
theorem runs_wstr {B b : Nat} {l : Bs} {s : ByteArray} {x y : Operand} {ts : Array TypeId} (hx : vals L x = some (.pointer (some ⟨b, 0, none⟩))) (hy : vals L y = some (.string s)) (h : Bld B b l w) (hl : l.length ≤ 10000000) (hs : s.size ≤ 1000) (hBw : B ≤ w.heap.size) :
    Runs Tryd.prog (.call { callee := .value (.func 44), args := #[x, y], argTypes := ts }) ty L w (fun _ w' => Bld B b (l ++ s.data.toList) w' ∧ Below B w w' ∧ Lib.OthersKept 5 (some b) w w') :=
  runs_call (args := [.pointer (some ⟨b, 0, none⟩), .string s]) goes44 (by simp [hx, hy]) ((Builder_WriteString_k B b _ s w h (by rw [Lib.byteCells_length]; omega) hBw).mono (by
    rintro e w' ⟨rfl, h1, h2, h3⟩
    exact ⟨_, rfl, .inr (by rw [Lib.byteCells_append]; exact h1), h2, h3⟩))
theorem runs_wbyte {B b : Nat} {l : Bs} {c : UInt8} {x y : Operand} {ts : Array TypeId} (hx : vals L x = some (.pointer (some ⟨b, 0, none⟩))) (hy : vals L y = some (.int .u8 (c.toNat : Int))) (h : Bld B b l w) (hl : l.length ≤ 10000000) (hBw : B ≤ w.heap.size) :
    Runs Tryd.prog (.call { callee := .value (.func 45), args := #[x, y], argTypes := ts }) ty L w (fun _ w' => Bld B b (l ++ [c]) w' ∧ Below B w w' ∧ Lib.OthersKept 5 (some b) w w') :=
  runs_call (args := [.pointer (some ⟨b, 0, none⟩), .int .u8 (c.toNat : Int)]) goes45 (by simp [hx, hy]) ((Builder_WriteByte_k B b _ _ w h (by rw [Lib.byteCells_length]; omega) hBw).mono (by
    rintro e w' ⟨rfl, h1, h2, h3⟩
    exact ⟨_, rfl, .inr (by rw [Lib.byteCells_append]; exact h1), h2, h3⟩))
theorem runs_itoa {n : Nat} {x y : Operand} {ts : Array TypeId} (hx : vals L x = some (.int .i64 (n : Int))) (hy : vals L y = some (.int .i64 10)) (hn : n < 1000000000) (hk : Kept w) :
    Runs Tryd.prog (.call { callee := .value (.func 46), args := #[x, y], argTypes := ts }) ty L w (fun v w' => v = .string ⟨(Lib.decDigits n).toArray⟩ ∧ Below w.heap.size w w') :=
  runs_call (args := [.int .i64 (n : Int), .int .i64 10]) goes46 (by simp [hx, hy]) ((strconv_FormatInt_10 (n : Int) (by omega) (by omega) w hk.2).mono (by
    rintro e w' ⟨rfl, k, os, rfl⟩
    exact ⟨_, rfl, by rw [Lib.itoa, if_neg (by omega)]; rfl, Grown.below ⟨k, os, rfl⟩⟩))
end
theorem dec_len9 {n : Nat} (h : n < 1000000000) : (Lib.decDigits n).length ≤ 9 := by rw [Lib.decDigits_length]; exact nDigits_le9 h
theorem joinN_snoc (ls : List Nat) (x : Nat) : joinN (ls ++ [x]) = joinN ls ++ 32 :: Lib.decDigits x := by
  simp [joinN, joinC]
theorem joinN_len : ∀ {ls : List Nat}, (∀ x ∈ ls, x < 1000000000) → (joinN ls).length ≤ ls.length * 10
  | [], _ => by simp [joinN, joinC]
  | x :: ls, h => by
    have h1 := dec_len9 (h x (by simp))
    have h2 := joinN_len (ls := ls) (fun y hy => h y (by simp [hy]))
    unfold joinN joinC at h2 ⊢
    simp only [List.map_cons, List.flatMap_cons, List.length_append, List.length_cons]
    omega
set_option maxHeartbeats 1000000 in
theorem wline_any (B b : Nat) (l : Bs) (word : ByteArray) (ns : List Nat) (g : Nat) (w : World) (hk : Kept w) (hB2 : 2 ≤ B) (hBw : B ≤ w.heap.size) (hb : Bld B b l w) (hg : Has w g 2 (ints ns)) (hl : l.length ≤ 1000000) (hw : word.size ≤ 100) (hn : ns.length ≤ 100) (hns : ∀ x ∈ ns, x < 1000000000) : Ans 32 [.pointer (some ⟨b, 0, none⟩), .string word, .slice (some ⟨g, 0, none⟩) ns.length ns.length] w (fun _ w' => Below B w w' ∧ Bld B b (l ++ lineT word.data.toList ns) w') := by
  have hgb := bld_ne hb hg (by decide)
  refine calls_qx (args := [.pointer (some ⟨b, 0, none⟩), .string word, .slice (some ⟨g, 0, none⟩) ns.length ns.length]) 26 Tryd.func32 rfl (by kernel_rfl) (by simp) (fun a hS => ?_)
  refine qx_seq (reg_seq ?_)
  refine seq_is hS (by decide) (runs_move rfl) (fun a1 hS => ?_)
  refine seq_is hS (by decide) (runs_move rfl) (fun a1 hS => ?_)
  refine seq_op hS (by decide) (runs_wstr rfl rfl hb (by omega) (by omega) hBw) (fun v1 w1 a1 hp1 hS => ?_)
  obtain ⟨hb, hB1, hO1⟩ := hp1
  have hg := has_others hO1 hg hgb (by decide)
  have hB := hB1
  have hB0 := hB2
  refine nil_ok (qx_seq (qx_seq (reg_seq ?_)))
  refine seq_is hS (by decide) (runs_move rfl) (fun a1 hS => ?_)
  refine seq_is hS (by decide) (runs_len rfl und69) (fun a1 hS => ?_)
  refine seq_is hS (by decide) (runs_move rfl) (fun a1 hS => ?_)
  refine nil_ok (qx_range (fun m a w' => ∃ i : Nat, i ≤ ns.length ∧ m = ns.length - i ∧ Below B w w' ∧ Has w' g 2 (ints ns) ∧ Bld B b (l ++ word.data.toList ++ joinN (ns.take i)) w' ∧ Sees 26 [(13, .int .i64 (i : Int)), (12, .int .i64 ((ns.length : Nat) : Int)), (11, .slice (some ⟨g, 0, none⟩) ns.length ns.length), (0, .pointer (some ⟨b, 0, none⟩))] a) ns.length ⟨0, by omega, by omega, hB, hg, by rw [List.take_zero]; simpa [joinN, joinC] using hb, hS.only _ ⟨rfl, rfl, rfl, rfl, trivial⟩⟩ ?_)
  rintro m a w' ⟨i, hi, rfl, hB, hg, hb, hS⟩
  have hjl := joinN_len (ls := ns.take i) (fun x hx => hns x (List.mem_of_mem_take hx))
  have hil : (ns.take i).length = i := by simp; omega
  rw [hil] at hjl
  have hwl := size_list word
  have hlen : (l ++ word.data.toList ++ joinN (ns.take i)).length ≤ l.length + 100 + i * 10 := by simp only [List.length_append]; omega
  refine reg_seq ?_
  by_cases hlt : i < ns.length
  · skip
    obtain ⟨x, hx⟩ : ∃ x, ns[i]? = some x := ⟨_, List.getElem?_eq_getElem hlt⟩
    have hx9 := hns x (List.mem_of_getElem? hx)
    have hcx : w'.cell? ⟨g, 0 + i, none⟩ = some (.int .i64 (x : Int)) := by rw [hg.cell, Nat.zero_add, ints, List.getElem?_map, hx]; rfl
    refine seq_is hS (by decide) (runs_lss (r := true) rfl rfl (by rw [decide_eq_true_eq]; omega)) (fun a1 hS => ?_)
    refine nil_ok ⟨_, hS.eval rfl, fun h => by simp at h, fun _ => ?_⟩
    refine qx_seq (qx_block (qx_seq (reg_seq ?_)))
    refine seq_is hS (by decide) (runs_indexAddr (j := i) rfl rfl und69 siz2 rfl hlt) (fun a1 hS => ?_)
    refine seq_is hS (by decide) (runs_load rfl und_plain2 hcx) (fun a1 hS => ?_)
    refine seq_is hS (by decide) (runs_assign rfl) (fun a1 hS => ?_)
    refine nil_ok (qx_seq (reg_seq ?_))
    refine seq_is hS (by decide) (runs_move rfl) (fun a1 hS => ?_)
    refine seq_op hS (by decide) (runs_wbyte (c := 32) rfl rfl hb (by omega) (Nat.le_trans hBw hB.size)) (fun v2 w2 a2 hp2 hS => ?_)
    obtain ⟨hb, hB2, hO2⟩ := hp2
    have hg := has_others hO2 hg hgb (by decide)
    have hB := hB.trans hB2
    refine nil_ok (reg_seq ?_)
    refine seq_is hS (by decide) (runs_move rfl) (fun a1 hS => ?_)
    refine seq_is hS (by decide) (runs_move rfl) (fun a1 hS => ?_)
    refine seq_op hS (by decide) (runs_itoa rfl rfl hx9 (hk.below hB hB0)) (fun v3 w3 a3 hp3 hS => ?_)
    obtain ⟨rfl, hB3⟩ := hp3
    have hg := hg.below hB3 hg.lt
    have hb := bld_kept hb hB3
    have hB := hB.trans (hB3.mono (Nat.le_trans hBw hB.size))
    refine seq_op hS (by decide) (runs_wstr rfl rfl hb (by simp only [List.length_append, List.length_cons, List.length_nil] at hlen ⊢; omega) (by have := dec_len9 hx9; simp [ByteArray.size]; omega) (Nat.le_trans hBw hB.size)) (fun v4 w4 a4 hp4 hS => ?_)
    obtain ⟨hb, hB4, hO4⟩ := hp4
    have hg := has_others hO4 hg hgb (by decide)
    have hB := hB.trans hB4
    refine nil_ok (reg_seq ?_)
    refine seq_is hS (by decide) (runs_add (r := ((i + 1 : Nat) : Int)) rfl rfl (by simp [IntKind.wrap, IntKind.bits, IntKind.signed]; omega)) (fun a1 hS => ?_)
    refine seq_is hS (by decide) (runs_move rfl) (fun a1 hS => ?_)
    refine nil_ok ⟨_, by omega, i + 1, by omega, rfl, hB, hg, ?_, hS.only _ ⟨rfl, rfl, rfl, rfl, trivial⟩⟩
    rw [List.take_add_one, hx, Option.toList_some, joinN_snoc]
    simpa using hb
  · skip
    refine seq_is hS (by decide) (runs_lss (r := false) rfl rfl (by rw [decide_eq_false_iff_not]; omega)) (fun a1 hS => ?_)
    rw [List.take_of_length_le (by omega)] at hb hlen
    refine nil_ok ⟨_, hS.eval rfl, fun _ => ?_, fun h => by simp at h⟩
    refine reg_seq ?_
    refine seq_is hS (by decide) (runs_move rfl) (fun a1 hS => ?_)
    refine seq_op hS (by decide) (runs_wbyte (c := 10) rfl rfl hb (by omega) (Nat.le_trans hBw hB.size)) (fun v5 w5 a5 hp5 hS => ?_)
    obtain ⟨hb, hB5, _⟩ := hp5
    have hB := hB.trans hB5
    exact nil_ok (ret0 (by kernel_rfl) hS ⟨_, rfl, hB, by rw [lineT]; simpa using hb⟩)
end Go.Proofs.YtdbibjcplakelaaDoor
