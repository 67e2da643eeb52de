/- Fields that are read, in a row; strings cut and compared. Conditions: none of our own. -/
import Derived.Test.YtbcmglggplmkfaaDoorYMath
import Derived.Test.YtbcmglggplmkfaaDoorJI
import Derived.Test.YtbcmglggplmkfaaDoorJF
import Derived.Test.YtbcmglggplmkfaaDoorTRef
import Derived.Test.YtbcmglggplmkfaaDoorJG
import Derived.Test.YtbcmglggplmkfaaDoorJE
namespace Go.Proofs.YtbcmglggplmkfaaDoor
open Go.RowKit
set_option maxRecDepth 100000

theorem und65 : Tryd.prog.underlying 64 = some (.slice 66) := by kernel_rfl
theorem inf67 : (Tryd.prog.info? 66).map (fun i => (i.zero, i.size, i.bytes)) = some (some (.agg (fn0 0).cells.toArray), 37, 80) := by kernel_rfl
theorem sz67 : (Tryd.prog.info? 66).map (·.size) = some 37 := by kernel_rfl
theorem zo67 : zeroOf Tryd.prog 66 = some (.agg (fn0 0).cells.toArray) := by kernel_rfl
theorem fo67_2 : fieldOff Tryd.prog 66 2 = some 2 := by kernel_rfl
theorem fo67_3 : fieldOff Tryd.prog 66 3 = some 3 := by kernel_rfl
theorem pl50 : (match Tryd.prog.underlying 50 with | some (.struct _) => true | some (.array _ _) => true | none => true | _ => false) = false := by kernel_rfl
def fldAt (j n : Nat) : Fld := if j = 1 ∨ j = 4 then fi1 (Wire.unfold_ n) else fn0 n
/-- The cells of the fields, from the j-th on. -/
def rowF : Nat → List Nat → List Value
  | _, [] => []
  | j, n :: ns => (fldAt j n).cells ++ rowF (j + 1) ns
theorem rowF_snoc : ∀ (j : Nat) (ns : List Nat) (n : Nat), rowF j (ns ++ [n]) = rowF j ns ++ (fldAt (j + ns.length) n).cells
  | j, [], n => by simp [rowF]
  | j, m :: ns, n => by
    have ih := rowF_snoc (j + 1) ns n
    rw [show j + 1 + ns.length = j + (ns.length + 1) by omega] at ih
    simp [rowF, ih]
theorem toList_bl (a b : ByteArray) : (a.toList == b.toList) = (bl a == bl b) := by
  rw [Bool.eq_iff_iff, beq_iff_eq, beq_iff_eq, ByteArray.toList_eq, ByteArray.toList_eq]
  constructor
  · intro h; unfold bl; rw [h]
  · intro h; rw [bl_inj h]
theorem run_eqStr (a b : ByteArray) (w : World) : (binOp .eql 9 (.string a) (.string b)).run Tryd.prog w = .ok (.bool (bl a == bl b)) w := by
  rw [← toList_bl]; simp [binOp, Op.stringOp]
theorem run_neStr (a b : ByteArray) (w : World) : (binOp .neq 9 (.string a) (.string b)).run Tryd.prog w = .ok (.bool (bl a != bl b)) w := by
  rw [bne, ← toList_bl]; simp [binOp, Op.stringOp]
section
variable {L : List (Nat × Value)} {w : World} {ty : TypeId}
theorem runs_neStr {t' : TypeId} {x y : Operand} {a b : ByteArray} {r : Bool} (hx : vals L x = some (.string a)) (hy : vals L y = some (.string b)) (hr : (bl a != bl b) = r) : Runs Tryd.prog (.binOp .neq 9 x y t') ty L w (Is (.bool r) w) :=
  runs_bin hx hy rfl (by rw [run_neStr, hr])
theorem runs_eqStr {t' : TypeId} {x y : Operand} {a b : ByteArray} {r : Bool} (hx : vals L x = some (.string a)) (hy : vals L y = some (.string b)) (hr : (bl a == bl b) = r) : Runs Tryd.prog (.binOp .eql 9 x y t') ty L w (Is (.bool r) w) :=
  runs_bin hx hy rfl (by rw [run_eqStr, hr])
theorem runs_cutS {x lo : Operand} {s : ByteArray} {i : Nat} (hx : vals L x = some (.string s)) (hlo : vals L lo = some (.int .i64 (i : Int))) (hi : i ≤ s.size) : Runs Tryd.prog (.slice 9 x (some lo) none none) ty L w (Is (.string (cut s i)) w) := fun o a K Q ho _ hL hK => by
  have ex := hL x (by simp [Op.operands]) _ hx
  have el := hL lo (by simp [Op.operands]) _ hlo
  unfold Oper.wp
  have : (execOp a.eval o).run Tryd.prog w = .ok (.value (.string (cut s i))) w := by
    simp [execOp, ho, ex, el, Instr.sliceAt, run_underlying und9, Instr.slice, Instr.sliceBounds, Instr.sliceBound, asIntOf, hi, cut]
  rw [this]
  exact hK _ _ ⟨rfl, rfl⟩
theorem none_ownF {B : Nat} (hB : B ≤ w.heap.size) : Runs Tryd.prog (.buildSlice 64 0 #[]) ty L w (fun v w' => ∃ g, v = .slice (some ⟨g, 0, none⟩) 0 0 ∧ w'.ownsRow B 66 37 v 0 [] ∧ Below w.heap.size w w') := by
  obtain ⟨i, hi, _, _, _⟩ := info_parts inf67
  exact (runs_buildNone und65 hi).mono (by rintro v w3 ⟨rfl, rfl⟩; exact ⟨_, rfl, ⟨by simp, .inr ⟨_, 0, #[], rfl, hB, heap_alloc_new _ _, Nat.le_refl _, by unfold maxLen; omega, by simp, by simp⟩⟩, (Below.refl _ _).alloc (Nat.le_refl _) _⟩)
theorem runs_oneF0 {x : Operand} {n : Nat} (hx : vals L x = some (fn0 n).val) : Runs Tryd.prog (.buildSlice 64 1 #[(0, x)]) ty L w (fun v w' => ∃ g2, v = .slice (some ⟨g2, 0, none⟩) 1 1 ∧ Has w' g2 66 (fn0 n).cells ∧ Below w.heap.size w w') := by
  obtain ⟨i48, hi48, hz48, hs48, hb48⟩ := info_parts inf67
  exact (runs_buildSliceG (sz := 37) (pv := [(0, (fn0 n).val)]) (by simp [hx]) und65 hi48 hz48 hs48 (by omega) (by omega) (cells := (fn0 n).cells.toArray) (by kernel_rfl)).mono (by rintro v w5 ⟨rfl, rfl⟩; exact ⟨_, rfl, Has.new w 66 (fn0 n).cells, (Below.refl _ _).alloc (Nat.le_refl _) _⟩)
theorem runs_oneF1 {x : Operand} {n : Int} (hx : vals L x = some (fi1 n).val) : Runs Tryd.prog (.buildSlice 64 1 #[(0, x)]) ty L w (fun v w' => ∃ g2, v = .slice (some ⟨g2, 0, none⟩) 1 1 ∧ Has w' g2 66 (fi1 n).cells ∧ Below w.heap.size w w') := by
  obtain ⟨i48, hi48, hz48, hs48, hb48⟩ := info_parts inf67
  exact (runs_buildSliceG (sz := 37) (pv := [(0, (fi1 n).val)]) (by simp [hx]) und65 hi48 hz48 hs48 (by omega) (by omega) (cells := (fi1 n).cells.toArray) (by kernel_rfl)).mono (by rintro v w5 ⟨rfl, rfl⟩; exact ⟨_, rfl, Has.new w 66 (fi1 n).cells, (Below.refl _ _).alloc (Nat.le_refl _) _⟩)
theorem push_ownF {B n g2 : Nat} {s x : Operand} {sv : Value} {xs : List Value} {f : Fld} (hs : vals L s = some sv) (hown : w.ownsRow B 66 37 sv n xs) (hx : vals L x = some (.slice (some ⟨g2, 0, none⟩) 1 1)) (hX : Has w g2 66 f.cells) (hf : f.h.length = 32) (hn : n ≤ 10000) (hB : B ≤ w.heap.size) (hcap : 0 < n ∨ ∀ g m c, sv = .slice (some g) m c → c = 0) :
    Runs Tryd.prog (.call { callee := .builtin .append, args := #[s, x], argTypes := #[64, 64] }) ty L w (fun u w2 => (∃ g3 c3, u = .slice (some ⟨g3, 0, none⟩) (n + 1) c3) ∧ w2.ownsRow B 66 37 u (n + 1) (xs ++ f.cells) ∧ KR 66 37 B (xs ++ f.cells) w w2) := by
  obtain ⟨i48, hi48, hz48, hs48, hb48⟩ := info_parts inf67
  exact push_own1 und65 hi48 hz48 hs48 hb48 rfl (by omega) (by omega) hs hown hx hX (by simp [Fld.cells, hf]) (fun v hv => by
    simp only [Fld.cells, List.mem_cons] at hv
    rcases hv with rfl | rfl | rfl | rfl | rfl | hv
    · rfl
    · rfl
    · rfl
    · rfl
    · rfl
    · obtain ⟨n, _, rfl⟩ := List.mem_map.1 hv; rfl) hn hB hcap
end
/-- The document's Get of one number, that is there. -/
theorem rget0_ok {s : ByteArray} {w : World} (hs : s.size ≤ 100000) (h : (Wire.rd (bl s)).2.2 = 0) : Ans 36 [.string s, (fn0 0).val] w (fun u w' => u = .tuple #[(fn0 (Wire.rd (bl s)).1).val, .int .i64 ((Wire.rd (bl s)).2.1 : Int), .int .i64 0] ∧ Below w.heap.size w w') :=
  (refGet_any s (fn0 0) w (fn0_ok 0 (by omega)) hs (by decide) (by decide)).mono (by rintro e w' ⟨rfl, hb⟩; exact ⟨_, rfl, by simp [refRes, refVal, fn0, h], hb⟩)
theorem rget1_ok {s : ByteArray} {w : World} (hs : s.size ≤ 100000) (h : (Wire.rd (bl s)).2.2 = 0) : Ans 36 [.string s, (fi1 0).val] w (fun u w' => u = .tuple #[(fi1 (Wire.unfold_ (Wire.rd (bl s)).1)).val, .int .i64 ((Wire.rd (bl s)).2.1 : Int), .int .i64 0] ∧ Below w.heap.size w w') :=
  (refGet_any s (fi1 0) w (fi1_ok 0 (by omega) (by omega)) hs (by decide) (by decide)).mono (by rintro e w' ⟨rfl, hb⟩; exact ⟨_, rfl, by simp [refRes, refVal, fi1, h], hb⟩)
theorem rget0_bad {s : ByteArray} {w : World} (hs : s.size ≤ 100000) (h : (Wire.rd (bl s)).2.2 ≠ 0) : Ans 36 [.string s, (fn0 0).val] w (fun u w' => u = .tuple #[(fn0 0).val, .int .i64 0, .int .i64 ((Wire.rd (bl s)).2.2 : Int)] ∧ Below w.heap.size w w') :=
  (refGet_any s (fn0 0) w (fn0_ok 0 (by omega)) hs (by decide) (by decide)).mono (by rintro e w' ⟨rfl, hb⟩; exact ⟨_, rfl, by simp [refRes, refVal, fn0, h], hb⟩)
theorem rget1_bad {s : ByteArray} {w : World} (hs : s.size ≤ 100000) (h : (Wire.rd (bl s)).2.2 ≠ 0) : Ans 36 [.string s, (fi1 0).val] w (fun u w' => u = .tuple #[(fn0 0).val, .int .i64 0, .int .i64 ((Wire.rd (bl s)).2.2 : Int)] ∧ Below w.heap.size w w') :=
  (refGet_any s (fi1 0) w (fi1_ok 0 (by omega) (by omega)) hs (by decide) (by decide)).mono (by rintro e w' ⟨rfl, hb⟩; exact ⟨_, rfl, by simp [refRes, refVal, fi1, fn0, h], hb⟩)
end Go.Proofs.YtbcmglggplmkfaaDoor
/- The document of layer 10: which vertices have bytes, and these. Conditions: none of our own. -/
namespace Go.Proofs.YtbcmglggplmkfaaDoor
open Go.RowKit
set_option maxRecDepth 100000

theorem goes11 : Goes Tryd.prog 11 := goes_of Tryd.func11 (by kernel_rfl) rfl
theorem goes12 : Goes Tryd.prog 12 := goes_of Tryd.func12 (by kernel_rfl) rfl
theorem goes29 : Goes Tryd.prog 29 := goes_of Tryd.func29 (by kernel_rfl) rfl
theorem goes30 : Goes Tryd.prog 30 := goes_of Tryd.func30 (by kernel_rfl) rfl
theorem goes31 : Goes Tryd.prog 31 := goes_of Tryd.func31 (by kernel_rfl) rfl
set_option maxHeartbeats 1000000 in
theorem rgreat_any (x : Int) (w : World) : Ans 31 [.int .i64 x] w (Is (.bool (great x)) w) := by
  refine calls_qx (args := [.int .i64 x]) 9 Tryd.func31 rfl (by kernel_rfl) (by simp) (fun a hS => ?_)
  refine qx_seq (reg_seq ?_)
  refine sI hS (runs_assign rfl) fun _ hS => ?_
  refine nil_ok (qx_seq (reg_seq ?_))
  refine sI hS (runs_move rfl) fun _ hS => ?_
  by_cases g1 : 1125899906842624 < x
  · skip
    refine sI hS (gtrT rfl rfl (by omega)) fun _ hS => ?_
    refine sI hS (runs_move rfl) fun _ hS => ?_
    refine sN hS fun _ hS => ?_
    refine sN hS fun _ hS => ?_
    refine sI hS (runs_pick rfl rfl) fun _ hS => ?_
    refine sI hS (runs_assign rfl) fun _ hS => ?_
    exact nil_ok (qx_ret (ret1 (t := 2) (by kernel_rfl) hS rfl ⟨_, rfl, by unfold great; first | (simp; done) | (simp; omega), rfl⟩))
  refine sI hS (gtrF rfl rfl (by omega)) fun _ hS => ?_
  refine sI hS (runs_move rfl) fun _ hS => ?_
  refine sY hS (runs_move rfl) fun _ hS => ?_
  by_cases g2 : x < -1125899906842624
  · skip
    refine sY hS (lssT rfl rfl (by omega)) fun _ hS => ?_
    refine sI hS (runs_pick rfl rfl) fun _ hS => ?_
    refine sI hS (runs_assign rfl) fun _ hS => ?_
    exact nil_ok (qx_ret (ret1 (t := 2) (by kernel_rfl) hS rfl ⟨_, rfl, by unfold great; first | (simp; done) | (simp; omega), rfl⟩))
  refine sY hS (lssF rfl rfl (by omega)) fun _ hS => ?_
  refine sI hS (runs_pick rfl rfl) fun _ hS => ?_
  refine sI hS (runs_assign rfl) fun _ hS => ?_
  exact nil_ok (qx_ret (ret1 (t := 2) (by kernel_rfl) hS rfl ⟨_, rfl, by unfold great; first | (simp; done) | (simp; omega), rfl⟩))
theorem rgreat_is {x : Int} (w : World) {b : Bool} (h : great x = b) : Ans 31 [.int .i64 x] w (Is (.bool b) w) := h ▸ rgreat_any x w
theorem great_zero : great 0 = false := rfl
set_option maxHeartbeats 1000000 in
theorem rright_any (x : Vx) (w : World) : Ans 12 [vv x] w (fun u w' => u = .bool (rightX x) ∧ Below w.heap.size w w') := by
  refine calls_qx (args := [.agg (vc x).toArray]) 32 Tryd.func12 rfl (by kernel_rfl) (by simp) (fun a hS => ?_)
  have hB := Below.refl w.heap.size w
  refine qx_seq (reg_seq ?_)
  refine seq_op hS (by decide) (runs_boxB (cs := vc x) rfl rfl) (fun v1 w1 a1 hp hS => ?_)
  obtain ⟨rfl, hM1, hB1⟩ := hp
  have hB := hB.trans (hB1.mono hB.size)
  refine sI hS (runs_assign rfl) fun _ hS => ?_
  refine nil_ok (qx_seq (reg_seq ?_))
  refine sI hS (runs_fieldK fo28_0 rfl) fun _ hS => ?_
  refine sI hS (runs_load rfl pl3 (hM1.at rfl)) fun _ hS => ?_
  by_cases h1 : 0 ≤ x.id
  · skip
    refine sI hS (geqT rfl rfl (by omega)) fun _ hS => ?_
    refine sI hS (runs_move rfl) fun _ hS => ?_
    refine sY hS (runs_fieldK fo28_0 rfl) fun _ hS => ?_
    refine sY hS (runs_load rfl pl3 (hM1.at rfl)) fun _ hS => ?_
    by_cases h2 : x.id < 64
    · skip
      refine sY hS (lssT rfl rfl (by omega)) fun _ hS => ?_
      refine sI hS (runs_pick rfl rfl) fun _ hS => ?_
      refine sI hS (runs_move rfl) fun _ hS => ?_
      refine sY hS (runs_fieldK fo28_1 rfl) fun _ hS => ?_
      refine sY hS (runs_load rfl pl2 (hM1.at rfl)) fun _ hS => ?_
      by_cases h3 : great x.val = true
      · skip
        refine sY hS (runs_call (args := [.int .i64 x.val]) goes31 rfl (rgreat_is w1 h3)) fun _ hS => ?_
        refine sY hS (runs_not (b := true) rfl) fun _ hS => ?_
        refine sI hS (runs_pick rfl rfl) fun _ hS => ?_
        refine sI hS (runs_move rfl) fun _ hS => ?_
        refine sN hS fun _ hS => ?_
        refine sN hS fun _ hS => ?_
        refine sN hS fun _ hS => ?_
        refine sN hS fun _ hS => ?_
        refine sI hS (runs_pick rfl rfl) fun _ hS => ?_
        refine sI hS (runs_move rfl) fun _ hS => ?_
        refine sN hS fun _ hS => ?_
        refine sN hS fun _ hS => ?_
        refine sN hS fun _ hS => ?_
        refine sU hS fun _ hS => ?_
        refine sU hS fun _ hS => ?_
        refine sU hS fun _ hS => ?_
        refine sN hS fun _ hS => ?_
        refine sI hS (runs_pick rfl rfl) fun _ hS => ?_
        refine sI hS (runs_assign rfl) fun _ hS => ?_
        exact nil_ok (qx_ret (ret1 (t := 2) (by kernel_rfl) hS rfl ⟨_, rfl, by simp [rightX, h1, h2, h3], hB⟩))
      refine sY hS (runs_call (args := [.int .i64 x.val]) goes31 rfl (rgreat_is w1 (Bool.eq_false_iff.2 h3))) fun _ hS => ?_
      refine sY hS (runs_not (b := false) rfl) fun _ hS => ?_
      refine sI hS (runs_pick rfl rfl) fun _ hS => ?_
      refine sI hS (runs_move rfl) fun _ hS => ?_
      refine sY hS (runs_fieldK fo28_4 rfl) fun _ hS => ?_
      refine sY hS (runs_load rfl pl2 (hM1.at rfl)) fun _ hS => ?_
      by_cases h4 : great x.inn = true
      · skip
        refine sY hS (runs_call (args := [.int .i64 x.inn]) goes31 rfl (rgreat_is w1 h4)) fun _ hS => ?_
        refine sY hS (runs_not (b := true) rfl) fun _ hS => ?_
        refine sI hS (runs_pick rfl rfl) fun _ hS => ?_
        refine sI hS (runs_move rfl) fun _ hS => ?_
        refine sN hS fun _ hS => ?_
        refine sN hS fun _ hS => ?_
        refine sN hS fun _ hS => ?_
        refine sU hS fun _ hS => ?_
        refine sU hS fun _ hS => ?_
        refine sU hS fun _ hS => ?_
        refine sN hS fun _ hS => ?_
        refine sI hS (runs_pick rfl rfl) fun _ hS => ?_
        refine sI hS (runs_assign rfl) fun _ hS => ?_
        exact nil_ok (qx_ret (ret1 (t := 2) (by kernel_rfl) hS rfl ⟨_, rfl, by simp [rightX, h1, h2, h3, h4], hB⟩))
      refine sY hS (runs_call (args := [.int .i64 x.inn]) goes31 rfl (rgreat_is w1 (Bool.eq_false_iff.2 h4))) fun _ hS => ?_
      refine sY hS (runs_not (b := false) rfl) fun _ hS => ?_
      refine sI hS (runs_pick rfl rfl) fun _ hS => ?_
      refine sI hS (runs_move rfl) fun _ hS => ?_
      refine sY hS (runs_fieldK fo28_3 rfl) fun _ hS => ?_
      refine sY hS (runs_load rfl pl4 (hM1.at rfl)) fun _ hS => ?_
      by_cases h5 : x.has = true
      · skip
        rw [h5] at hS
        refine sY hS (runs_move rfl) fun _ hS => ?_
        refine sN hS fun _ hS => ?_
        refine sN hS fun _ hS => ?_
        refine sN hS fun _ hS => ?_
        refine sY hS (runs_pick rfl rfl) fun _ hS => ?_
        refine sI hS (runs_pick rfl rfl) fun _ hS => ?_
        refine sI hS (runs_assign rfl) fun _ hS => ?_
        exact nil_ok (qx_ret (ret1 (t := 2) (by kernel_rfl) hS rfl ⟨_, rfl, by simp [rightX, h1, h2, h3, h4, h5], hB⟩))
      · skip
        rw [Bool.eq_false_iff.2 h5] at hS
        refine sY hS (runs_move rfl) fun _ hS => ?_
        refine sY hS (runs_fieldK fo28_4 rfl) fun _ hS => ?_
        refine sY hS (runs_load rfl pl2 (hM1.at rfl)) fun _ hS => ?_
        by_cases h6 : x.inn = 0
        · skip
          refine sY hS (runs_eql (r := true) rfl rfl (by first | rfl | (simp; done) | (simp; omega))) fun _ hS => ?_
          refine sY hS (runs_pick rfl rfl) fun _ hS => ?_
          refine sI hS (runs_pick rfl rfl) fun _ hS => ?_
          refine sI hS (runs_assign rfl) fun _ hS => ?_
          exact nil_ok (qx_ret (ret1 (t := 2) (by kernel_rfl) hS rfl ⟨_, rfl, by simp [rightX, great_zero, h1, h2, h3, h5, h6], hB⟩))
        refine sY hS (runs_eql (r := false) rfl rfl (by first | rfl | (simp; done) | (simp; omega))) fun _ hS => ?_
        refine sY hS (runs_pick rfl rfl) fun _ hS => ?_
        refine sI hS (runs_pick rfl rfl) fun _ hS => ?_
        refine sI hS (runs_assign rfl) fun _ hS => ?_
        exact nil_ok (qx_ret (ret1 (t := 2) (by kernel_rfl) hS rfl ⟨_, rfl, by simp [rightX, h1, h2, h3, h4, h5, h6], hB⟩))
    refine sY hS (lssF rfl rfl (by omega)) fun _ hS => ?_
    refine sI hS (runs_pick rfl rfl) fun _ hS => ?_
    refine sI hS (runs_move rfl) fun _ hS => ?_
    refine sN hS fun _ hS => ?_
    refine sN hS fun _ hS => ?_
    refine sN hS fun _ hS => ?_
    refine sN hS fun _ hS => ?_
    refine sI hS (runs_pick rfl rfl) fun _ hS => ?_
    refine sI hS (runs_move rfl) fun _ hS => ?_
    refine sN hS fun _ hS => ?_
    refine sN hS fun _ hS => ?_
    refine sN hS fun _ hS => ?_
    refine sN hS fun _ hS => ?_
    refine sI hS (runs_pick rfl rfl) fun _ hS => ?_
    refine sI hS (runs_move rfl) fun _ hS => ?_
    refine sN hS fun _ hS => ?_
    refine sN hS fun _ hS => ?_
    refine sN hS fun _ hS => ?_
    refine sU hS fun _ hS => ?_
    refine sU hS fun _ hS => ?_
    refine sU hS fun _ hS => ?_
    refine sN hS fun _ hS => ?_
    refine sI hS (runs_pick rfl rfl) fun _ hS => ?_
    refine sI hS (runs_assign rfl) fun _ hS => ?_
    exact nil_ok (qx_ret (ret1 (t := 2) (by kernel_rfl) hS rfl ⟨_, rfl, by simp [rightX, h1, h2], hB⟩))
  refine sI hS (geqF rfl rfl (by omega)) fun _ hS => ?_
  refine sI hS (runs_move rfl) fun _ hS => ?_
  refine sN hS fun _ hS => ?_
  refine sN hS fun _ hS => ?_
  refine sN hS fun _ hS => ?_
  refine sI hS (runs_pick rfl rfl) fun _ hS => ?_
  refine sI hS (runs_move rfl) fun _ hS => ?_
  refine sN hS fun _ hS => ?_
  refine sN hS fun _ hS => ?_
  refine sN hS fun _ hS => ?_
  refine sN hS fun _ hS => ?_
  refine sI hS (runs_pick rfl rfl) fun _ hS => ?_
  refine sI hS (runs_move rfl) fun _ hS => ?_
  refine sN hS fun _ hS => ?_
  refine sN hS fun _ hS => ?_
  refine sN hS fun _ hS => ?_
  refine sN hS fun _ hS => ?_
  refine sI hS (runs_pick rfl rfl) fun _ hS => ?_
  refine sI hS (runs_move rfl) fun _ hS => ?_
  refine sN hS fun _ hS => ?_
  refine sN hS fun _ hS => ?_
  refine sN hS fun _ hS => ?_
  refine sU hS fun _ hS => ?_
  refine sU hS fun _ hS => ?_
  refine sU hS fun _ hS => ?_
  refine sN hS fun _ hS => ?_
  refine sI hS (runs_pick rfl rfl) fun _ hS => ?_
  refine sI hS (runs_assign rfl) fun _ hS => ?_
  exact nil_ok (qx_ret (ret1 (t := 2) (by kernel_rfl) hS rfl ⟨_, rfl, by simp [rightX, h1], hB⟩))
/-- What Put tells. -/
def putX (x : Vx) : ByteArray := S (if rightX x then bytesX x else [])
theorem numS_le {n : Nat} (h : n < 18446744073709551616) : (S (Wire.num n)).size ≤ 10 := by rw [S_size]; exact Wire.num_len10 n h
set_option maxHeartbeats 1000000 in
theorem rbit_any (b : Bool) (w : World) : Ans 30 [.bool b] w (Is (.string (S [bitN b])) w) := by
  refine calls_qx (args := [.bool b]) 4 Tryd.func30 rfl (by kernel_rfl) (by simp) (fun a hS => ?_)
  refine qx_seq (reg_seq ?_)
  refine sI hS (runs_assign rfl) fun _ hS => ?_
  refine nil_ok (qx_seq (qx_seq (reg_seq ?_)))
  refine sI hS (runs_move rfl) fun _ hS => ?_
  refine nil_ok (?_)
  by_cases hb : b = true
  · skip
    rw [hb] at hS
    refine wp_cond_true (hS.eval rfl) (qx_seq (reg_seq ?_))
    refine sI hS (runs_assign rfl) fun _ hS => ?_
    exact nil_ok (qx_ret (ret1 (t := 2) (by kernel_rfl) hS rfl ⟨_, rfl, by simp [bitN, hb]; rfl, rfl⟩))
  · skip
    rw [Bool.eq_false_iff.2 hb] at hS
    refine wp_cond_false (hS.eval rfl) (wp_skip (qx_seq (reg_seq ?_)))
    refine sI hS (runs_assign rfl) fun _ hS => ?_
    exact nil_ok (qx_ret (ret1 (t := 2) (by kernel_rfl) hS rfl ⟨_, rfl, by simp [bitN, hb]; rfl, rfl⟩))
set_option maxHeartbeats 1000000 in
theorem rput_any (x : Vx) (w : World) : Ans 11 [vv x] w (fun u w' => u = .string (putX x) ∧ Below w.heap.size w w') := by
  refine calls_qx (args := [.agg (vc x).toArray]) 26 Tryd.func11 rfl (by kernel_rfl) (by simp) (fun a hS => ?_)
  have hB := Below.refl w.heap.size w
  refine qx_seq (reg_seq ?_)
  refine seq_op hS (by decide) (runs_boxB (cs := vc x) rfl rfl) (fun v1 w1 a1 hp hS => ?_)
  obtain ⟨rfl, hM1, hB1⟩ := hp
  have hB := hB.trans (hB1.mono hB.size)
  refine sI hS (runs_assign rfl) fun _ hS => ?_
  refine nil_ok (qx_seq (qx_seq (reg_seq ?_)))
  refine sI hS (runs_loadRow rfl hM1 Tryd.underlying23 rfl (by rw [sz28]; rfl)) fun _ hS => ?_
  refine seq_op hS (by decide) (runs_call (args := [.agg (vc x).toArray]) goes12 rfl (rright_any x w1)) (fun v3 w3 a1 hp hS => ?_)
  obtain ⟨rfl, hB3⟩ := hp
  have hB := hB.trans (hB3.mono hB.size)
  have hM1 := hM1.below hB3 hM1.lt
  by_cases hr : rightX x = true
  · skip
    rw [hr] at hS
    refine sI hS (runs_not (b := true) rfl) fun _ hS => ?_
    refine nil_ok (wp_cond_false (hS.eval rfl) (wp_skip (qx_seq (?_))))
    obtain ⟨g1, g2, g3, g4, g5⟩ := right_parts hr
    have hid : x.id = ((x.id.toNat : Nat) : Int) := by omega
    have n1 : x.id.toNat < 18446744073709551616 := by omega
    have v1 := great_no g3
    have v2 := great_no g4
    have z1 := numS_le n1
    have z2 := numS_le (Wire.fold_lt x.val (by omega) (by omega))
    have z3 := numS_le (Wire.fold_lt x.inn (by omega) (by omega))
    have zb : ∀ b : Bool, (S [bitN b]).size = 1 := fun b => by rw [S_size]; rfl
    refine reg_guard (fun w' => Below w3.heap.size w3 w') [.inl (.pointer (some ⟨w.heap.size, 0 + 0, none⟩)), .inl (.int .i64 x.id), .inl (.int .u64 ((x.id.toNat : Nat) : Int)), .inl (.string (S (Wire.num x.id.toNat))), .inl (.pointer (some ⟨w.heap.size, 0 + 1, none⟩)), .inl (.int .i64 x.val), .inl (.string (S (Wire.num (Wire.fold x.val)))), .inl (.string (S (Wire.num x.id.toNat ++ Wire.num (Wire.fold x.val)))), .inl (.pointer (some ⟨w.heap.size, 0 + 2, none⟩)), .inl (.bool x.act), .inl (.string (S [bitN x.act])), .inl (.string (S (Wire.num x.id.toNat ++ Wire.num (Wire.fold x.val) ++ [bitN x.act]))), .inl (.pointer (some ⟨w.heap.size, 0 + 3, none⟩)), .inl (.bool x.has), .inl (.string (S [bitN x.has])), .inl (.string (S (Wire.num x.id.toNat ++ Wire.num (Wire.fold x.val) ++ [bitN x.act] ++ [bitN x.has]))), .inl (.pointer (some ⟨w.heap.size, 0 + 4, none⟩)), .inl (.int .i64 x.inn), .inl (.string (S (Wire.num (Wire.fold x.inn)))), .inl (.string (S (bytesX x)))] 20 1 mixed rfl (by kernel_rfl) hS (Below.refl _ _) (fun _ h => h.drew) ?_
    refine hs_is rfl (fun w' hw => runs_fieldK fo28_0 rfl) ?_
    refine hs_is rfl (fun w' hw => runs_load rfl pl3 ((hM1.below hw hM1.lt).at rfl)) ?_
    refine hs_is rfl (fun w' hw => runs_to64 (a := x.id.toNat) (by rw [← hid]; rfl) (by decide) n1) ?_
    refine hs_val rfl (fun w' hw hq => (runs_call (args := [.int .u64 ((x.id.toNat : Nat) : Int)]) goes28 rfl (str_post (fun w2 => Below w'.heap.size w' w2) (refNum_any _ w' n1) (fun _ h => h))).mono (by rintro u w3 ⟨rfl, h1⟩; exact ⟨rfl, hw.trans (h1.mono hw.size), h1⟩)) ?_
    refine hs_is rfl (fun w' hw => runs_fieldK fo28_1 rfl) ?_
    refine hs_is rfl (fun w' hw => runs_load rfl pl2 ((hM1.below hw hM1.lt).at rfl)) ?_
    refine hs_val rfl (fun w' hw hq => (runs_call (args := [.int .i64 x.val]) goes29 rfl (str_post (fun w2 => Below w'.heap.size w' w2) (refInt_any _ w' (by omega) (by omega)) (fun _ h => h))).mono (by rintro u w3 ⟨rfl, h1⟩; exact ⟨rfl, hw.trans (h1.mono hw.size), h1⟩)) ?_
    refine hs_is rfl (fun w' hw => runs_catG rfl rfl (S_append _ _).symm (by first | omega | (simp only [S_append, ByteArray.size_append, zb]; omega))) ?_
    refine hs_is rfl (fun w' hw => runs_fieldK fo28_2 rfl) ?_
    refine hs_is rfl (fun w' hw => runs_load rfl pl4 ((hM1.below hw hM1.lt).at rfl)) ?_
    refine hs_is rfl (fun w' hw => runs_call (args := [.bool x.act]) goes30 rfl (rbit_any _ w')) ?_
    refine hs_is rfl (fun w' hw => runs_catG rfl rfl (S_append _ _).symm (by first | omega | (simp only [S_append, ByteArray.size_append, zb]; omega))) ?_
    refine hs_is rfl (fun w' hw => runs_fieldK fo28_3 rfl) ?_
    refine hs_is rfl (fun w' hw => runs_load rfl pl4 ((hM1.below hw hM1.lt).at rfl)) ?_
    refine hs_is rfl (fun w' hw => runs_call (args := [.bool x.has]) goes30 rfl (rbit_any _ w')) ?_
    refine hs_is rfl (fun w' hw => runs_catG rfl rfl (S_append _ _).symm (by first | omega | (simp only [S_append, ByteArray.size_append, zb]; omega))) ?_
    refine hs_is rfl (fun w' hw => runs_fieldK fo28_4 rfl) ?_
    refine hs_is rfl (fun w' hw => runs_load rfl pl2 ((hM1.below hw hM1.lt).at rfl)) ?_
    refine hs_val rfl (fun w' hw hq => (runs_call (args := [.int .i64 x.inn]) goes29 rfl (str_post (fun w2 => Below w'.heap.size w' w2) (refInt_any _ w' (by omega) (by omega)) (fun _ h => h))).mono (by rintro u w3 ⟨rfl, h1⟩; exact ⟨rfl, hw.trans (h1.mono hw.size), h1⟩)) ?_
    refine hs_is rfl (fun w' hw => runs_catG rfl rfl (S_append _ _).symm (by first | omega | (simp only [S_append, ByteArray.size_append, zb]; omega))) ?_
    refine (fun a5 w5 hS hB5 hq => ?_)
    clear hq
    have hB := hB.trans (hB5.mono hB.size)
    refine tail_op 20 (by kernel_rfl) rfl hS (by decide) (runs_assign rfl) (fun v7 w7 a7 hp hS => ⟨trivial, ?_⟩)
    obtain ⟨rfl, rfl⟩ := hp
    refine wpAnyH_done (by kernel_rfl) ?_ _
    exact qx_ret (ret1 (t := 2) (by kernel_rfl) hS rfl ⟨_, rfl, by simp [putX, hr]; try rfl, hB⟩)
  · skip
    rw [Bool.eq_false_iff.2 hr] at hS
    refine sI hS (runs_not (b := false) rfl) fun _ hS => ?_
    refine nil_ok (wp_cond_true (hS.eval rfl) (qx_seq (reg_seq ?_)))
    refine sI hS (runs_assign rfl) fun _ hS => ?_
    exact nil_ok (qx_ret (ret1 (t := 2) (by kernel_rfl) hS rfl ⟨_, rfl, by simp [putX, hr]; try rfl, hB⟩))
end Go.Proofs.YtbcmglggplmkfaaDoor
/- The writer and the reader of layer 2, as calls that keep what lies below B. Conditions: numbers of 64 bits. -/
namespace Go.Proofs.YtbcmglggplmkfaaDoor
open Go.RowKit
set_option maxRecDepth 100000

theorem goes24 : Goes Tryd.prog 24 := goes_of Tryd.func24 (by kernel_rfl) rfl
theorem goes35 : Goes Tryd.prog 35 := goes_of Tryd.func35 (by kernel_rfl) rfl
theorem goes52 : Goes Tryd.prog 52 := goes_of Tryd.func52 (by kernel_rfl) rfl
theorem goes53 : Goes Tryd.prog 53 := goes_of Tryd.func53 (by kernel_rfl) rfl
theorem goes54 : Goes Tryd.prog 54 := goes_of Tryd.func54 (by kernel_rfl) rfl
/-- Block b is a writer that holds l; it and its row lie at B or behind. -/
def Wr (B : Nat) (w : World) (b : Nat) (l : List Nat) : Prop := B ≤ b ∧ B ≤ w.heap.size ∧ ∃ v, Out w b v l ∧ ∀ k, v.ownBlock = some k → B ≤ k
theorem Wr.below {B b : Nat} {w w' : World} {l : List Nat} (h : Wr B w b l) (k : Below w.heap.size w w') : Wr B w' b l := by
  obtain ⟨h1, h2, v, h3, h4⟩ := h
  exact ⟨h1, Nat.le_trans h2 k.size, v, h3.below k, h4⟩
theorem Wr.wrote {B b : Nat} {w w' : World} {v : Value} {l l' : List Nat} (h1 : B ≤ b) (h2 : B ≤ w.heap.size) (_h3 : Out w b v l) (h4 : ∀ k, v.ownBlock = some k → B ≤ k) (k : Wrote w b v l' w') : Wr B w' b l' ∧ Below B w w' := by
  obtain ⟨v', k1, k2, k3⟩ := k
  refine ⟨⟨h1, Nat.le_trans h2 k2.size, v', k1, fun i hi => ?_⟩, k2.below h1 h2 h4⟩
  rcases k3 with k3 | ⟨x, k3, hx⟩
  · exact h4 i (by rw [← k3, hi])
  · rw [k3] at hi; cases hi; omega
theorem wr_new (w : World) : Ans 22 [] w (fun u w' => u = .pointer (some ⟨w.heap.size, 0, none⟩) ∧ Wr w.heap.size w' w.heap.size [] ∧ Below w.heap.size w w') :=
  (newOut_any w).mono (by
    rintro e w' ⟨rfl, rfl⟩
    exact ⟨_, rfl, rfl, ⟨Nat.le_refl _, by simp, .slice none 0 0, ⟨Has.new _ _ _, rfl, .inl ⟨rfl, rfl⟩⟩, fun k hk => by simp [Value.ownBlock] at hk⟩, (Below.refl _ _).alloc (Nat.le_refl _) _⟩)
theorem Wr.mono {B B' b : Nat} {w : World} {l : List Nat} (h : Wr B w b l) (hB : B' ≤ B) : Wr B' w b l := by
  obtain ⟨h1, h2, v, h3, h4⟩ := h
  exact ⟨Nat.le_trans hB h1, Nat.le_trans hB h2, v, h3, fun k hk => Nat.le_trans hB (h4 k hk)⟩
theorem wr_num {B b n : Nat} {w : World} {l : List Nat} (h : Wr B w b l) (hn : n < 18446744073709551616) (hl : l.length ≤ 100000) : Ans 23 [.pointer (some ⟨b, 0, none⟩), .int .u64 (n : Int)] w (fun _ w' => Wr B w' b (l ++ Wire.num n) ∧ Below B w w') := by
  obtain ⟨h1, h2, v, h3, h4⟩ := h
  exact (outNum_any b n v l w hn h3 hl).mono (by rintro e w' ⟨rfl, k⟩; exact ⟨_, rfl, Wr.wrote h1 h2 h3 h4 k⟩)
theorem wr_int {B b : Nat} {n : Int} {w : World} {l : List Nat} (h : Wr B w b l) (n1 : -9223372036854775808 ≤ n) (n2 : n ≤ 9223372036854775807) (hl : l.length ≤ 100000) : Ans 24 [.pointer (some ⟨b, 0, none⟩), .int .i64 n] w (fun _ w' => Wr B w' b (l ++ Wire.num (Wire.fold n)) ∧ Below B w w') := by
  obtain ⟨h1, h2, v, h3, h4⟩ := h
  exact (outInt_any b n v l w n1 n2 h3 hl).mono (by rintro e w' ⟨rfl, k⟩; exact ⟨_, rfl, Wr.wrote h1 h2 h3 h4 k⟩)
theorem wr_done {B b : Nat} {w : World} {l : List Nat} (h : Wr B w b l) : Ans 26 [.pointer (some ⟨b, 0, none⟩)] w (Is (.string (S l)) w) := by
  obtain ⟨_, _, v, h3, _⟩ := h
  exact (done_any b v l w h3).mono (by rintro e w' ⟨rfl, rfl⟩; exact ⟨_, rfl, rfl, rfl⟩)
/-- Block b is a reader at B or behind: what is left, and what was wrong. -/
def Rd (B : Nat) (w : World) (b : Nat) (s : ByteArray) (e : Nat) : Prop := B ≤ b ∧ B ≤ w.heap.size ∧ In w b s e
theorem Rd.below {B b e : Nat} {w w' : World} {s : ByteArray} (h : Rd B w b s e) (k : Below w.heap.size w w') : Rd B w' b s e :=
  ⟨h.1, Nat.le_trans h.2.1 k.size, Has.below h.2.2 k (Has.lt h.2.2)⟩
theorem Rd.mono {B B' b e : Nat} {w : World} {s : ByteArray} (h : Rd B w b s e) (hB : B' ≤ B) : Rd B' w b s e := ⟨Nat.le_trans hB h.1, Nat.le_trans hB h.2.1, h.2.2⟩
theorem Rd.did {B b e e' : Nat} {w w' : World} {s s' : ByteArray} (h : Rd B w b s e) (k : Did w b s' e' w') : Rd B w' b s' e' ∧ Below B w w' :=
  ⟨⟨h.1, Nat.le_trans h.2.1 k.2.size, k.1⟩, k.2.below h.1 h.2.1 (fun k hk => by simp [nul, Value.ownBlock] at hk)⟩
theorem rd_new (s : ByteArray) (w : World) : Ans 52 [.string s] w (fun u w' => u = .pointer (some ⟨w.heap.size, 0, none⟩) ∧ Rd w.heap.size w' w.heap.size s 0 ∧ Below w.heap.size w w') :=
  (newIn_any s w).mono (by
    rintro e w' ⟨rfl, rfl⟩
    exact ⟨_, rfl, rfl, ⟨Nat.le_refl _, by simp, in_new w s⟩, (Below.refl _ _).alloc (Nat.le_refl _) _⟩)
theorem rd_num {B b e : Nat} {w : World} {s : ByteArray} (h : Rd B w b s e) : Ans 54 [.pointer (some ⟨b, 0, none⟩)] w (fun u w' => u = .int .u64 ((numRes s e).1 : Int) ∧ Rd B w' b (numRes s e).2.1 (numRes s e).2.2 ∧ Below B w w') :=
  (inNum_any b s e w h.2.2).mono (by rintro x w' ⟨rfl, k⟩; exact ⟨_, rfl, rfl, h.did k⟩)
/-- So many reads, one behind the other: the numbers, what is left, what was wrong. -/
def rdn : Nat → ByteArray → Nat → List Nat × ByteArray × Nat
  | 0, s, e => ([], s, e)
  | k + 1, s, e => ((numRes s e).1 :: (rdn k (numRes s e).2.1 (numRes s e).2.2).1, (rdn k (numRes s e).2.1 (numRes s e).2.2).2)
theorem rdn_wrong : ∀ (k : Nat) (s : ByteArray) (e : Nat), e ≠ 0 → (rdn k s e).2.2 = e
  | 0, _, _, _ => rfl
  | k + 1, s, e, h => by
    have h1 : numRes s e = (0, s, e) := by unfold numRes; rw [if_pos h]
    simp only [rdn, h1]
    exact rdn_wrong k s e h
/-- What a reader tells is what the document's way of reading tells. -/
theorem rdn_rdk : ∀ (k : Nat) (s : ByteArray), ((rdk k (bl s)).2.2 = 0 → (rdn k s 0).1 = (rdk k (bl s)).1 ∧ bl (rdn k s 0).2.1 = (rdk k (bl s)).2.1 ∧ (rdn k s 0).2.2 = 0) ∧ ((rdk k (bl s)).2.2 ≠ 0 → (rdn k s 0).2.2 = (rdk k (bl s)).2.2)
  | 0, s => ⟨fun _ => ⟨rfl, rfl, rfl⟩, fun h => absurd rfl h⟩
  | k + 1, s => by
    by_cases h0 : (Wire.rd (bl s)).2.2 = 0
    · have h1 : numRes s 0 = ((Wire.rd (bl s)).1, cut s (Wire.rd (bl s)).2.1, 0) := by unfold numRes; simp [h0]
      have ih := rdn_rdk k (cut s (Wire.rd (bl s)).2.1)
      rw [bl_cut] at ih
      simp only [rdn, rdk, h1, h0, if_true]
      refine ⟨fun h => ?_, fun h => ih.2 h⟩
      obtain ⟨a, b, c⟩ := ih.1 h
      exact ⟨by rw [a], b, c⟩
    · have h1 : numRes s 0 = (0, s, (Wire.rd (bl s)).2.2) := by unfold numRes; simp [h0]
      simp only [rdn, rdk, h1, h0, if_false]
      exact ⟨fun h => h.elim, fun _ => rdn_wrong k s _ h0⟩
end Go.Proofs.YtbcmglggplmkfaaDoor
