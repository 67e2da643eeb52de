/- Layer 12: the document's Get. Conditions: at most 20000 bytes. -/
import Derived.Test.YtooeahpkhocaeaaDoorCRow
import Derived.Test.YtooeahpkhocaeaaDoorJ20
import Derived.Test.YtooeahpkhocaeaaDoorJ21
import Derived.Test.YtooeahpkhocaeaaDoorJ22
namespace Go.Proofs.YtooeahpkhocaeaaDoor
open Go.RowKit
set_option maxRecDepth 100000

theorem goes15 : Goes Tryd.prog 15 := goes_of Tryd.func15 (by kernel_rfl) rfl
theorem goes29 : Goes Tryd.prog 29 := goes_of Tryd.func29 (by kernel_rfl) rfl
/-- The field that is asked for at place i, and how far the reading is behind i of them. -/
def fldC (i : Nat) : Fld := if i = 2 then fh3 Z32 else fn0 0
def kindC (i : Nat) : Int := if i = 2 then 3 else 0
theorem fldC_ok (i : Nat) : (fldC i).Ok ∧ 0 ≤ (fldC i).kind ∧ (fldC i).kind ≤ 3 := by
  unfold fldC
  by_cases h : i = 2
  · rw [if_pos h]; exact ⟨fh3_ok _ rfl Z32_bytes, by decide, by decide⟩
  · rw [if_neg h]; exact ⟨fn0_ok 0 (by omega), by decide, by decide⟩
def rowF (fs : List Fld) : List Value := fs.flatMap Fld.cells
theorem rowF_snoc (fs : List Fld) (f : Fld) : rowF (fs ++ [f]) = rowF fs ++ f.cells := by simp [rowF, List.flatMap_append]
def P4 (L : List Nat) : Nat → List Fld → List Nat → Prop
  | 0, fs, l => fs = [] ∧ l = L
  | 1, fs, l => ∃ a, fs = [fn0 a] ∧ a < 18446744073709551616 ∧ getC0 L = getC1 a l
  | 2, fs, l => ∃ a b, fs = [fn0 a, fn0 b] ∧ a < 18446744073709551616 ∧ b < 18446744073709551616 ∧ getC0 L = getC2 a b l
  | 3, fs, l => ∃ a b r, fs = [fn0 a, fn0 b, fh3 r] ∧ a < 18446744073709551616 ∧ b < 18446744073709551616 ∧ r.length = 32 ∧ Sha.Bytes r ∧ getC0 L = getC3 a b r l
  | _, fs, l => ∃ a b r n, fs = [fn0 a, fn0 b, fh3 r, fn0 n] ∧ a < 18446744073709551616 ∧ b < 18446744073709551616 ∧ r.length = 32 ∧ Sha.Bytes r ∧ n < 18446744073709551616 ∧ getC0 L = getC4 a b r n l
theorem refC_num {s : ByteArray} {i : Nat} (hi : i ≠ 2) {f : Fld} {n e : Nat} (h : refRes s (fldC i) = (f, n, e)) : (e ≠ 0 → e = (Wire.rd (bl s)).2.2) ∧ (e = 0 → (Wire.rd (bl s)).2.2 = 0 ∧ f = fn0 (Wire.rd (bl s)).1 ∧ n = (Wire.rd (bl s)).2.1) := by
  unfold refRes fldC at h
  rw [if_neg hi, if_neg (show ¬ (fn0 0).kind = 3 by decide)] at h
  by_cases hr : (Wire.rd (bl s)).2.2 = 0
  · rw [if_neg (by simp [hr]), if_pos (show (fn0 0).kind = 0 from rfl)] at h
    simp only [Prod.mk.injEq] at h
    exact ⟨fun k => absurd h.2.2.symm k, fun _ => ⟨hr, h.1.symm, h.2.1.symm⟩⟩
  · rw [if_pos hr] at h
    simp only [Prod.mk.injEq] at h
    exact ⟨fun _ => h.2.2.symm, fun k => absurd (h.2.2.trans k) hr⟩
theorem refC_sum {s : ByteArray} {f : Fld} {n e : Nat} (h : refRes s (fldC 2) = (f, n, e)) : (e ≠ 0 → e = 20 ∧ (bl s).length < 32) ∧ (e = 0 → 32 ≤ (bl s).length ∧ f = fh3 ((bl s).take 32) ∧ n = 32) := by
  unfold refRes fldC at h
  rw [if_pos rfl, if_pos (show (fh3 Z32).kind = 3 from rfl)] at h
  by_cases hr : s.size < 32
  · rw [if_pos hr] at h
    simp only [Prod.mk.injEq] at h
    exact ⟨fun _ => ⟨h.2.2.symm, by rw [bl_length]; exact hr⟩, fun k => absurd (h.2.2.trans k) (by decide)⟩
  · rw [if_neg hr] at h
    simp only [Prod.mk.injEq] at h
    exact ⟨fun k => absurd h.2.2.symm k, fun _ => ⟨by rw [bl_length]; omega, h.1.symm, h.2.1.symm⟩⟩
theorem rd_lt64 (s : ByteArray) (h : (Wire.rd (bl s)).2.2 = 0) : (Wire.rd (bl s)).1 < 18446744073709551616 ∧ (Wire.rd (bl s)).2.1 ≤ s.size := by
  obtain ⟨h1, _, _, h4⟩ := Wire.rd_back (bl s) (Wire.rd (bl s)).1 (Wire.rd (bl s)).2.1 (bl_bytes s) (by rw [← h])
  rw [bl_length] at h1
  exact ⟨h4, h1⟩
theorem P4.step {L : List Nat} {i : Nat} {fs : List Fld} {s : ByteArray} {f : Fld} {n e : Nat} (h : P4 L i fs (bl s)) (hi : i < 4) (hF : refRes s (fldC i) = (f, n, e)) :
    (e ≠ 0 → getC0 L = (noCm, e)) ∧ (e = 0 → P4 L (i + 1) (fs ++ [f]) ((bl s).drop n) ∧ f.h.length = 32 ∧ n ≤ s.size) := by
  match i, hi, h, hF with
  | 0, _, h, hF =>
    obtain ⟨rfl, h2⟩ := h
    obtain ⟨k1, k2⟩ := refC_num (by decide) hF
    rw [h2] at k1 k2
    refine ⟨fun he => ?_, fun he => ?_⟩
    · have := k1 he; unfold getC0; rw [if_pos (by rw [← this]; exact he), ← this]
    · obtain ⟨a, rfl, rfl⟩ := k2 he
      obtain ⟨q1, q2⟩ := rd_lt64 s (by rw [h2]; exact a)
      rw [h2] at q1 q2
      exact ⟨⟨_, rfl, q1, by unfold getC0; rw [if_neg (by simp [a]), h2]⟩, rfl, q2⟩
  | 1, _, h, hF =>
    obtain ⟨x, rfl, hx, h2⟩ := h
    obtain ⟨k1, k2⟩ := refC_num (by decide) hF
    refine ⟨fun he => ?_, fun he => ?_⟩
    · have := k1 he; rw [h2]; unfold getC1; rw [if_pos (by rw [← this]; exact he), ← this]
    · obtain ⟨a, rfl, rfl⟩ := k2 he
      obtain ⟨q1, q2⟩ := rd_lt64 s a
      exact ⟨⟨_, _, rfl, hx, q1, by rw [h2]; unfold getC1; rw [if_neg (by simp [a])]⟩, rfl, q2⟩
  | 2, _, h, hF =>
    obtain ⟨x, y, rfl, hx, hy, h2⟩ := h
    obtain ⟨k1, k2⟩ := refC_sum hF
    refine ⟨fun he => ?_, fun he => ?_⟩
    · obtain ⟨a, b⟩ := k1 he; rw [h2, a]; unfold getC2; rw [if_pos b]
    · obtain ⟨a, rfl, rfl⟩ := k2 he
      have hl : ((bl s).take 32).length = 32 := by rw [List.length_take]; omega
      exact ⟨⟨_, _, _, rfl, hx, hy, hl, fun c hc => bl_bytes s c (List.mem_of_mem_take hc), by rw [h2]; unfold getC2; rw [if_neg (by omega)]⟩, hl, by rw [bl_length] at a; exact a⟩
  | 3, _, h, hF =>
    obtain ⟨x, y, r, rfl, hx, hy, hr1, hr2, h2⟩ := h
    obtain ⟨k1, k2⟩ := refC_num (by decide) hF
    refine ⟨fun he => ?_, fun he => ?_⟩
    · have := k1 he; rw [h2]; unfold getC3; rw [if_pos (by rw [← this]; exact he), ← this]
    · obtain ⟨a, rfl, rfl⟩ := k2 he
      obtain ⟨q1, q2⟩ := rd_lt64 s a
      exact ⟨⟨_, _, _, _, rfl, hx, hy, hr1, hr2, q1, by rw [h2]; unfold getC3; rw [if_neg (by simp [a])]⟩, rfl, q2⟩
theorem undInts : Tryd.prog.underlying 60 = some (.slice 3) := by kernel_rfl
theorem infInt3 : (Tryd.prog.info? 3).map (fun i => (i.zero, i.size, i.bytes)) = some (some (.int .i64 0), 1, 8) := by kernel_rfl
theorem szInt3 : (Tryd.prog.info? 3).map (·.size) = some 1 := by kernel_rfl
theorem kinds_at {i : Nat} (h : i < 4) : ([.int .i64 0, .int .i64 0, .int .i64 3, .int .i64 0] : List Value)[i]? = some (.int .i64 (kindC i)) := by
  obtain rfl | rfl | rfl | rfl : i = 0 ∨ i = 1 ∨ i = 2 ∨ i = 3 := by omega
  all_goals rfl
section
variable {L : List (Nat × Value)} {w : World} {ty : TypeId}
theorem runs_kinds : Runs Tryd.prog (.buildSlice 60 4 #[(0, .const (.int .i64 0)), (1, .const (.int .i64 0)), (2, .const (.int .i64 3)), (3, .const (.int .i64 0))]) ty L w (fun v w' => v = .slice (some ⟨w.heap.size, 0, none⟩) 4 4 ∧ Has w' w.heap.size 3 [.int .i64 0, .int .i64 0, .int .i64 3, .int .i64 0] ∧ Below w.heap.size w w') := by
  obtain ⟨i48, hi48, hz48, hs48, hb48⟩ := info_parts infInt3
  exact (runs_buildSliceG (sz := 1) (pv := [(0, .int .i64 0), (1, .int .i64 0), (2, .int .i64 3), (3, .int .i64 0)]) (by simp [vals]) undInts hi48 hz48 hs48 (by omega) (by omega) (cells := #[.int .i64 0, .int .i64 0, .int .i64 3, .int .i64 0]) (by kernel_rfl)).mono (by rintro v w5 ⟨rfl, rfl⟩; exact ⟨rfl, Has.new w 3 _, (Below.refl _ _).alloc (Nat.le_refl _) _⟩)
theorem runs_fldC {x : Operand} {i : Nat} (hx : vals L x = some (.int .i64 (kindC i))) : Runs Tryd.prog (.build 63 #[(0, x)]) ty L w (Is (fldC i).val w) := by
  unfold kindC at hx
  unfold fldC
  by_cases h : i = 2
  · rw [if_pos h] at hx ⊢
    exact runs_buildK (pv := [(0, .int .i64 3)]) (cells := (fh3 Z32).cells.toArray) (by simp [hx]) (by kernel_rfl)
  · rw [if_neg h] at hx ⊢
    exact runs_buildK (pv := [(0, .int .i64 0)]) (cells := (fn0 0).cells.toArray) (by simp [hx]) (by kernel_rfl)
theorem runs_oneFx {x : Operand} {f : Fld} (hx : vals L x = some f.val) (hf : f.h.length = 32) : Runs Tryd.prog (.buildSlice 61 1 #[(0, x)]) ty L w (fun v w' => ∃ g2, v = .slice (some ⟨g2, 0, none⟩) 1 1 ∧ Has w' g2 63 f.cells ∧ Below w.heap.size w w') := by
  obtain ⟨i48, hi48, hz48, hs48, hb48⟩ := info_parts inf67
  exact (runs_buildRow hx und65 hi48 hz48 (by simp [hs48, Fld.cells, hf]) (by simp [Fld.cells, hf]) (by simp [Fld.cells])).mono (by rintro v w5 ⟨rfl, rfl⟩; exact ⟨_, rfl, Has.new w 63 f.cells, (Below.refl _ _).alloc (Nat.le_refl _) _⟩)
end
theorem rgetS_any {i : Nat} {s : ByteArray} {f : Fld} {n e : Nat} (hF : refRes s (fldC i) = (f, n, e)) (hs : s.size ≤ 100000) (w : World) : Ans 29 [.string s, (fldC i).val] w (fun u w' => u = .tuple #[f.val, .int .i64 (n : Int), .int .i64 (e : Int)] ∧ Below w.heap.size w w') := by
  obtain ⟨h1, h2, h3⟩ := fldC_ok i
  exact (refGet_any s (fldC i) w h1 hs h2 h3).mono (by rintro x w' ⟨rfl, hb⟩; rw [hF]; exact ⟨_, rfl, rfl, hb⟩)
theorem refC_h {s : ByteArray} {i : Nat} {f : Fld} {n e : Nat} (h : refRes s (fldC i) = (f, n, e)) : f.h.length = 32 := by
  by_cases hi : i = 2
  · subst hi
    obtain ⟨k1, k2⟩ := refC_sum h
    by_cases he : e = 0
    · obtain ⟨h1, rfl, _⟩ := k2 he
      show ((bl s).take 32).length = 32
      rw [List.length_take]; omega
    · unfold refRes fldC at h
      rw [if_pos rfl, if_pos (show (fh3 Z32).kind = 3 from rfl), if_pos (by rw [← bl_length]; exact (k1 he).2)] at h
      simp only [Prod.mk.injEq] at h
      rw [← h.1]; rfl
  · obtain ⟨k1, k2⟩ := refC_num hi h
    by_cases he : e = 0
    · obtain ⟨_, rfl, _⟩ := k2 he; rfl
    · unfold refRes fldC at h
      rw [if_neg hi, if_neg (show ¬ (fn0 0).kind = 3 by decide), if_pos (by rw [← k1 he]; exact he)] at h
      simp only [Prod.mk.injEq] at h
      rw [← h.1]; rfl
theorem fld_one2 (f : Fld) : f.cells.all (·.oneCell') = true := by have := fld_one f; simpa using this
theorem fo67_5 : fieldOff Tryd.prog 63 5 = some 5 := by kernel_rfl
theorem row_n {a b n : Nat} {r : List Nat} (h : r.length = 32) : (rowF [fn0 a, fn0 b, fh3 r, fn0 n])[3 * 37 + 2]? = some (.int .u64 (n : Int)) := by
  have e : rowF [fn0 a, fn0 b, fh3 r, fn0 n] = (fn0 a).cells ++ (fn0 b).cells ++ (fh3 r).cells ++ (fn0 n).cells := by simp [rowF]
  rw [e, List.getElem?_append_right (by simp [Fld.cells, fn0, fh3, h, Z32])]
  simp [Fld.cells, fn0, fh3, h, Z32]
theorem row_h {w : World} {g a b n : Nat} {r : List Nat} (h : r.length = 32) (hr : w.rangeAt g 0 (rowF [fn0 a, fn0 b, fh3 r, fn0 n])) : w.rangeAt g (0 + 2 * 37 + 5) (U8 r) := by
  have h1 := range_sub hr (2 * 37 + 5) 32
  have e : ((rowF [fn0 a, fn0 b, fh3 r, fn0 n]).drop (2 * 37 + 5)).take 32 = U8 r := by
    have e : rowF [fn0 a, fn0 b, fh3 r, fn0 n] = ((fn0 a).cells ++ (fn0 b).cells ++ [.int .i64 3, .int .i64 0, .int .u64 ((0 : Nat) : Int), .int .i64 0, .string nil]) ++ (U8 r ++ (fn0 n).cells) := by simp [rowF, Fld.cells, fh3]
    rw [e, List.drop_left' (by simp [Fld.cells, fn0, Z32]), List.take_left' (by rw [U8_length, h])]
  rw [e] at h1
  exact h1
theorem fld_hash {w : World} {g : Nat} {f : Fld} (h : Has w g 63 f.cells) (hf : f.h.length = 32) : w.rangeAt g (0 + 5) (U8 f.h) := by
  have h1 := h.range 5 32
  rw [show (f.cells.drop 5).take 32 = U8 f.h by show (U8 f.h).take 32 = _; rw [List.take_of_length_le (by rw [U8_length]; omega)]] at h1
  exact h1
set_option maxHeartbeats 1000000 in
theorem rgetC_c : RGetC := fun s w hs => by
  show Ans 15 [.string s] w _
  refine calls_qx (args := [.string s]) 129 Tryd.func15 rfl (by kernel_rfl) (by simp) (fun a hS => ?_)
  have hB := Below.refl w.heap.size w
  refine qx_seq (reg_seq ?_)
  refine seq_op hS (by decide) (runs_allocB (cs := cmc noCm (.slice none 0 0)) zoC rfl) (fun v1 w1 a1 hp hS => ?_)
  obtain ⟨rfl, hM1, hB1⟩ := hp
  have hB := hB.trans (hB1.mono hB.size)
  refine sI hS (runs_assign rfl) fun _ hS => ?_
  refine nil_ok (qx_seq (qx_seq (?_)))
  have hBpre0 := hB
  have hB := Below.refl w1.heap.size w1
  have hM1b := hM1
  refine reg_seq ?_
  refine sI hS (runs_move rfl) fun _ hS => ?_
  refine sI hS (runs_lens rfl und9) fun _ hS => ?_
  by_cases h0 : s.size = 0
  · skip
    refine sI hS (runs_eql (r := true) rfl rfl (by simp [h0])) fun _ hS => ?_
    refine sI hS (runs_move rfl) fun _ hS => ?_
    refine sN hS fun _ hS => ?_
    refine sN hS fun _ hS => ?_
    refine sN hS fun _ hS => ?_
    refine sI hS (runs_pick rfl rfl) fun _ hS => ?_
    refine nil_ok (wp_cond_true (hS.eval rfl) (qx_seq (reg_seq ?_)))
    refine sI hS (runs_buildK (pv := []) (cells := (cmc noCm (.slice none 0 0)).toArray) rfl built_0) fun _ hS => ?_
    refine seq_none hS (runs_storeB (cs := cmc noCm (.slice none 0 0)) rfl rfl hM1 ((cmc_len noCm_len).trans (cmc_len noCm_len).symm) (cm_one rfl) (by rw [szC, cmc_len noCm_len])) (fun v3 w3 a1 hp hS => ?_)
    obtain ⟨hM1, hU3⟩ := hp
    have hT := But.new (hBpre0.trans ((hB).mono hBpre0.size)) hU3 (fun i e => by rw [e]; exact Nat.le_refl _) (Nat.le_refl _)
    refine sI hS (runs_assign rfl) fun _ hS => ?_
    have hfin : getC (bl s) = (noCm, 120) := by
      have : bl s = [] := List.length_eq_zero_iff.1 (by rw [bl_length]; exact h0)
      rw [this]; rfl
    exact nil_ok (qx_ret (retRow2 (p := 2) (t := 3) (ty := 26) (by kernel_rfl) hS rfl rfl hM1 Tryd.underlying26 rfl (by rw [szC]; rfl) ⟨_, rfl, _, by rw [hfin] <;> rfl, by rw [hfin]; exact cmv_no _, hT⟩))
  refine sI hS (runs_eql (r := false) rfl rfl (by rw [beq_eq_false_iff_ne]; omega)) fun _ hS => ?_
  refine sI hS (runs_move rfl) fun _ hS => ?_
  refine sY hS (runs_move rfl) fun _ hS => ?_
  obtain ⟨b0, hb0⟩ : ∃ b, s[0]? = some b := ⟨s[0]'(by omega), by rw [getElem?_pos s 0 (by omega)]⟩
  have hbl := bl_head hb0
  refine sY hS (runs_indexG9 rfl rfl rfl und9 hb0) fun _ hS => ?_
  by_cases h67 : b0.toNat ≠ 67
  · skip
    refine sY hS (runs_neq (r := true) rfl rfl (by simp; omega)) fun _ hS => ?_
    refine sI hS (runs_pick rfl rfl) fun _ hS => ?_
    refine nil_ok (wp_cond_true (hS.eval rfl) (qx_seq (reg_seq ?_)))
    refine sI hS (runs_buildK (pv := []) (cells := (cmc noCm (.slice none 0 0)).toArray) rfl built_0) fun _ hS => ?_
    refine seq_none hS (runs_storeB (cs := cmc noCm (.slice none 0 0)) rfl rfl hM1 ((cmc_len noCm_len).trans (cmc_len noCm_len).symm) (cm_one rfl) (by rw [szC, cmc_len noCm_len])) (fun v4 w4 a1 hp hS => ?_)
    obtain ⟨hM1, hU4⟩ := hp
    have hT := But.new (hBpre0.trans ((hB).mono hBpre0.size)) hU4 (fun i e => by rw [e]; exact Nat.le_refl _) (Nat.le_refl _)
    refine sI hS (runs_assign rfl) fun _ hS => ?_
    have hfin : getC (bl s) = (noCm, 120) := by rw [hbl]; simp [getC, h67]
    exact nil_ok (qx_ret (retRow2 (p := 2) (t := 3) (ty := 26) (by kernel_rfl) hS rfl rfl hM1 Tryd.underlying26 rfl (by rw [szC]; rfl) ⟨_, rfl, _, by rw [hfin] <;> rfl, by rw [hfin]; exact cmv_no _, hT⟩))
  refine sY hS (runs_neq (r := false) rfl rfl (by simp; omega)) fun _ hS => ?_
  refine sI hS (runs_pick rfl rfl) fun _ hS => ?_
  refine nil_ok (wp_cond_false (hS.eval rfl) (wp_skip (qx_seq (reg_seq ?_))))
  refine sI hS (runs_move rfl) fun _ hS => ?_
  refine sI hS (runs_cutS (i := 1) rfl rfl (by omega)) fun _ hS => ?_
  refine sI hS (runs_assign rfl) fun _ hS => ?_
  refine nil_ok (qx_seq (?_))
  obtain ⟨cur0, hcur0⟩ : ∃ c, cut s 1 = c := ⟨_, rfl⟩
  rw [hcur0] at hS hbl
  have hcs0 : cur0.size ≤ s.size := by rw [← hcur0, cut, ByteArray.size_extract]; omega
  replace h67 := Classical.not_not.1 h67
  have hg0 : getC (bl s) = getC0 (bl cur0) := by rw [hbl, h67, getC_67]
  refine reg_seq ?_
  refine seq_op hS (by decide) (runs_kinds) (fun v5 w5 a1 hp hS => ?_)
  obtain ⟨rfl, hKd, hB5⟩ := hp
  have hB := hB.trans (hB5.mono hB.size)
  have hM1 := hM1b.below hB hM1b.lt
  refine sI hS (runs_assign rfl) fun _ hS => ?_
  refine nil_ok (qx_seq (?_))
  have hBpre1 := hB
  have hB := Below.refl w5.heap.size w5
  have hM1b := hM1
  have hKdb := hKd
  refine reg_seq ?_
  refine seq_op hS (by decide) (none_ownF (B := w5.heap.size) hB.size) (fun v7 w7 a1 hp hS => ?_)
  obtain ⟨g0, rfl, h00, hB7⟩ := hp
  have hB := hB.trans (hB7.mono hB.size)
  have hM1 := hM1b.below hB hM1b.lt
  have hKd := hKdb.below hB hKdb.lt
  refine sI hS (runs_assign rfl) fun _ hS => ?_
  refine nil_ok (qx_seq (qx_seq (reg_seq ?_)))
  refine sI hS (runs_assign rfl) fun _ hS => ?_
  refine nil_ok (?_)
  refine qx_for (fun mm a w' => ∃ (i : Nat) (fs : List Fld) (cur : ByteArray) (ov : Value), i ≤ 4 ∧ mm = 4 - i ∧ Below w5.heap.size w5 w' ∧ fs.length = i ∧ cur.size ≤ s.size ∧ P4 (bl cur0) i fs (bl cur) ∧ w'.ownsRow w5.heap.size 63 37 ov i (rowF fs) ∧ (i = 0 → ∀ g m c, ov = .slice (some g) m c → c = 0) ∧ Sees 129 [(6, .int .i64 (i : Int)), (5, ov), (4, .slice (some ⟨w1.heap.size, 0, none⟩) 4 4), (2, .pointer (some ⟨w.heap.size, 0, none⟩)), (0, .string cur)] a) 4 ⟨0, [], cur0, _, by omega, by omega, hB, rfl, hcs0, ⟨rfl, rfl⟩, h00, (fun _ g m c e => by cases e; rfl), hS.only _ ⟨rfl, rfl, rfl, rfl, rfl, trivial⟩⟩ ?_
  clear hS 
  rintro mm a wl1 ⟨i, fs, cur, ov, hi1, rfl, hBb1, hlen, hcs, hP4, hown, hz, hS⟩
  have hBsz1 := hBb1.size
  have hM1 := hM1b.below hBb1 hM1b.lt
  have hKd := hKdb.below hBb1 hKdb.lt
  have hB := Below.refl wl1.heap.size wl1
  have hM1b1 := hM1
  refine reg_seq ?_
  refine sI hS (runs_move rfl) fun _ hS => ?_
  by_cases hlt1 : i < 4
  · skip
    refine sI hS (lssT rfl rfl (by omega)) fun _ hS => ?_
    refine nil_ok ⟨_, hS.eval rfl, fun h => by simp at h, fun _ => ?_⟩
    refine qx_seq (qx_block (qx_seq (reg_seq ?_)))
    refine sI hS (runs_move rfl) fun _ hS => ?_
    refine sI hS (runs_move rfl) fun _ hS => ?_
    refine sI hS (runs_move rfl) fun _ hS => ?_
    refine sI hS (runs_indexAddrG (j := i) rfl rfl undInts szInt3 rfl hlt1) fun _ hS => ?_
    refine sI hS (runs_load rfl pl3 (by rw [show 0 + i * 1 = i by omega]; exact hKd.at (kinds_at hlt1))) fun _ hS => ?_
    refine sI hS (runs_fldC rfl) fun _ hS => ?_
    obtain ⟨fd, fn, fe, hF⟩ : ∃ a b c, refRes cur (fldC i) = (a, b, c) := ⟨_, _, _, rfl⟩
    have hfh := refC_h hF
    obtain ⟨hbad, hgood⟩ := hP4.step hlt1 hF
    refine seq_op hS (by decide) (runs_call (args := [.string cur, (fldC i).val]) goes29 rfl (rgetS_any hF (by omega) wl1)) (fun v9 w9 a1 hp hS => ?_)
    obtain ⟨rfl, hB9⟩ := hp
    have hB := hB.trans (hB9.mono hB.size)
    have hM1 := hM1b1.below hB hM1b1.lt
    refine sI hS (runs_move rfl) fun _ hS => ?_
    refine sI hS (runs_extract rfl rfl) fun _ hS => ?_
    refine sI hS (runs_extract rfl rfl) fun _ hS => ?_
    refine sI hS (runs_extract rfl rfl) fun _ hS => ?_
    refine seq_op hS (by decide) (runs_allocB (cs := (fn0 0).cells) zo67 rfl) (fun v11 w11 a1 hp hS => ?_)
    obtain ⟨rfl, hM11, hB11⟩ := hp
    have hLhM11 : wl1.heap.size ≤ w9.heap.size := hB.size
    have hB := hB.trans (hB11.mono hB.size)
    have hM1 := hM1b1.below hB hM1b1.lt
    refine seq_none hS (runs_storeB (cs := fd.cells) rfl rfl hM11 (by simp [Fld.cells, hfh, fn0, Z32]) (fld_one2 fd) (by rw [sz67]; simp [Fld.cells, hfh])) (fun v13 w13 a1 hp hS => ?_)
    obtain ⟨hM11, hU13⟩ := hp
    have hB := But.new hB hU13 (fun i e => by rw [e]; exact hLhM11) (Nat.le_refl _)
    have hM1 := hM1b1.below hB hM1b1.lt
    refine sI hS (runs_assign rfl) fun _ hS => ?_
    refine sI hS (runs_assign rfl) fun _ hS => ?_
    refine nil_ok (qx_seq (qx_seq (reg_seq ?_)))
    refine sI hS (runs_move rfl) fun _ hS => ?_
    by_cases hfe : fe ≠ 0
    · skip
      refine sI hS (runs_neq (r := true) rfl rfl (by simpa using hfe)) fun _ hS => ?_
      refine nil_ok (wp_cond_true (hS.eval rfl) (qx_seq (reg_seq ?_)))
      refine sI hS (runs_buildK (pv := []) (cells := (cmc noCm (.slice none 0 0)).toArray) rfl built_0) fun _ hS => ?_
      refine sI hS (runs_move rfl) fun _ hS => ?_
      refine seq_none hS (runs_storeB (cs := cmc noCm (.slice none 0 0)) rfl rfl hM1 ((cmc_len noCm_len).trans (cmc_len noCm_len).symm) (cm_one rfl) (by rw [szC, cmc_len noCm_len])) (fun v15 w15 a1 hp hS => ?_)
      obtain ⟨hM1, hU15⟩ := hp
      have hT := But.new (hBpre0.trans ((hBpre1.trans ((hBb1.trans ((hB).mono hBb1.size)).mono hBpre1.size)).mono hBpre0.size)) hU15 (fun i e => by rw [e]; exact Nat.le_refl _) (Nat.le_refl _)
      refine sI hS (runs_assign rfl) fun _ hS => ?_
      have hfin : getC (bl s) = (noCm, fe) := by rw [hg0]; exact hbad hfe
      exact nil_ok (qx_ret (retRow2 (p := 2) (t := 3) (ty := 26) (by kernel_rfl) hS rfl rfl hM1 Tryd.underlying26 rfl (by rw [szC]; rfl) ⟨_, rfl, _, by rw [hfin] <;> rfl, by rw [hfin]; exact cmv_no _, hT⟩))
    refine sI hS (runs_neq (r := false) rfl rfl (by simpa using hfe)) fun _ hS => ?_
    refine nil_ok (wp_cond_false (hS.eval rfl) (wp_skip (?_)))
    replace hfe := Classical.not_not.1 hfe
    obtain ⟨hP4n, -, hnle⟩ := hgood hfe
    have hownW := owns_kept hown hB
    have hszW : w5.heap.size ≤ w13.heap.size := Nat.le_trans hBsz1 hB.size
    have hcap : 0 < i ∨ ∀ g m c, ov = .slice (some g) m c → c = 0 := (Nat.eq_zero_or_pos i).elim (fun h => .inr (hz h)) .inl
    refine reg_x (KR 63 37 w5.heap.size (rowF fs ++ fd.cells)) (fun w' => KR 63 37 w5.heap.size (rowF fs ++ fd.cells) w13 w') [.inl (ov), .inl (fd.val), .inr (fun v w' => ∃ g5, v = .slice (some ⟨g5, 0, none⟩) 1 1 ∧ Has w' g5 63 fd.cells), .inr (fun v w' => (∃ g3 c3, v = .slice (some ⟨g3, 0, none⟩) (i + 1) c3) ∧ w'.ownsRow w5.heap.size 63 37 v (i + 1) (rowF fs ++ fd.cells)), .inl (.string cur), .inl (.int .i64 (fn : Int)), .inl (.string (cut cur fn)), .inr (fun v w' => (∃ g3 c3, v = .slice (some ⟨g3, 0, none⟩) (i + 1) c3) ∧ w'.ownsRow w5.heap.size 63 37 v (i + 1) (rowF fs ++ fd.cells)), .inl (.string (cut cur fn))] 9 0 mixed rfl (by kernel_rfl) hS KR.refl (fun _ h => h.drew) ?_
    refine ks_is rfl (fun w' hw => runs_move rfl) ?_
    refine ks_is rfl (fun w' hw => runs_loadRow rfl (hw.2.2.2 _ _ (by simp [Fld.cells, hfh]) hM11) Tryd.underlying63 rfl (by rw [sz67]; simp [Fld.cells, hfh])) ?_
    refine ks_pr rfl (fun _ _ _ h hk => by obtain ⟨g5, h1, h2⟩ := h; exact ⟨g5, h1, hk.2.2.2 _ _ (by simp [Fld.cells, hfh]) h2⟩) (fun w' hw hq => (runs_oneFx rfl hfh).mono (by rintro v w5 ⟨g5, h1, h2, hb⟩; exact ⟨⟨g5, h1, h2⟩, hw.trans (KR.of_below hb (Nat.le_trans hszW hw.1.size)), KR.of_below hb (Nat.le_trans hszW hw.1.size)⟩)) (fun u2 => ?_)
    refine ks_pr rfl (fun _ _ _ h hk => ⟨h.1, hk.2.1 _ _ _ (List.prefix_refl _) h.2⟩) (fun w' hw hq => (by obtain ⟨g5, rfl, hX⟩ := (hq (2, _) List.mem_cons_self (by kernel_rfl)); exact (push_ownF rfl (hw.2.1 _ _ _ (List.prefix_append _ _) hownW) rfl hX hfh (by omega) (Nat.le_trans hszW hw.1.size) hcap).mono (by rintro v w5 ⟨h1, h2, h3⟩; exact ⟨⟨h1, h2⟩, hw.trans h3, h3⟩))) (fun u3 => ?_)
    refine ks_is rfl (fun w' hw => runs_move rfl) ?_
    refine ks_is rfl (fun w' hw => runs_move rfl) ?_
    refine ks_is rfl (fun w' hw => runs_cutS rfl rfl hnle) ?_
    refine ks_pr rfl (fun _ _ _ h hk => ⟨h.1, hk.2.1 _ _ _ (List.prefix_refl _) h.2⟩) (fun w' hw hq => (by have h := (hq (3, _) List.mem_cons_self (by kernel_rfl)); exact (runs_assign rfl).mono (by rintro v w5 ⟨rfl, rfl⟩; exact ⟨h, hw, KR.refl⟩))) (fun u7 => ?_)
    refine ks_is rfl (fun w' hw => runs_assign rfl) ?_
    refine (fun a16 w16 hS hK16 hq => ?_)


    obtain ⟨⟨g3, c3, rfl⟩, h41⟩ := (hq (7, _) List.mem_cons_self)
    clear hq
    refine wpAnyH_done (by kernel_rfl) ?_ _
    refine reg_seq ?_
    refine sI hS (runs_move rfl) fun _ hS => ?_
    refine sI hS (runs_add (r := ((i + 1 : Nat) : Int)) rfl rfl (by simp [IntKind.wrap, IntKind.bits, IntKind.signed]; omega)) fun _ hS => ?_
    refine sI hS (runs_assign rfl) fun _ hS => ?_
    exact nil_ok ⟨_, by omega, i + 1, fs ++ [fd], cut cur fn, _, by omega, rfl, hBb1.trans ((hB.mono hBb1.size).trans hK16.1), by simp [hlen], by rw [cut, ByteArray.size_extract]; omega, by rw [bl_cut]; exact hP4n, by rw [rowF_snoc]; exact h41, (fun h => by omega), hS.only _ ⟨rfl, rfl, rfl, rfl, rfl, trivial⟩⟩
  refine sI hS (lssF rfl rfl (by omega)) fun _ hS => ?_
  obtain rfl : i = 4 := by omega
  refine nil_ok ⟨_, hS.eval rfl, fun _ => ?_, fun h => by simp at h⟩
  have hB := hBb1
  obtain ⟨na, nb, rt, nk, rfl, hna, hnb, hr1, hr2, hnk, hget⟩ := hP4
  obtain ⟨gr, cr, rfl, hgr, hgrl, hR⟩ := owns_rowK hown (by omega)
  obtain ⟨cur1, hcur1⟩ : ∃ c, c = cur := ⟨_, rfl⟩
  subst hcur1
  have hcs1 := hcs
  refine qx_seq (qx_seq (?_))
  obtain ⟨wA, hwA⟩ : ∃ a, a = wl1 := ⟨_, rfl⟩
  subst hwA
  have hBpre2 := hB
  have hB := Below.refl wA.heap.size wA
  have hM1b := hM1
  refine reg_seq ?_
  refine sI hS (runs_move rfl) fun _ hS => ?_
  refine sI hS (runs_indexAddrG (j := 0) rfl rfl und65 sz67 rfl (by omega)) fun _ hS => ?_
  refine sI hS (runs_fieldK fo67_2 rfl) fun _ hS => ?_
  refine sI hS (runs_load rfl pl50 (hR 2 (.int .u64 (na : Int)) rfl)) fun _ hS => ?_
  by_cases q1 : 63 < na
  · skip
    refine sI hS (gtrT rfl rfl (by omega)) fun _ hS => ?_
    refine sI hS (runs_move rfl) fun _ hS => ?_
    refine sN hS fun _ hS => ?_
    refine sN hS fun _ hS => ?_
    refine sN hS fun _ hS => ?_
    refine sN hS fun _ hS => ?_
    refine sN hS fun _ hS => ?_
    refine sI hS (runs_pick rfl rfl) fun _ hS => ?_
    refine sI hS (runs_move rfl) fun _ hS => ?_
    refine sN hS fun _ hS => ?_
    refine sN hS fun _ hS => ?_
    refine sN hS fun _ hS => ?_
    refine sN hS fun _ hS => ?_
    refine sN hS fun _ hS => ?_
    refine sI hS (runs_pick rfl rfl) fun _ hS => ?_
    refine sI hS (runs_move rfl) fun _ hS => ?_
    refine sN hS fun _ hS => ?_
    refine sN hS fun _ hS => ?_
    refine sN hS fun _ hS => ?_
    refine sN hS fun _ hS => ?_
    refine sN hS fun _ hS => ?_
    refine sI hS (runs_pick rfl rfl) fun _ hS => ?_
    refine nil_ok (wp_cond_true (hS.eval rfl) (qx_seq (reg_seq ?_)))
    refine sI hS (runs_buildK (pv := []) (cells := (cmc noCm (.slice none 0 0)).toArray) rfl built_0) fun _ hS => ?_
    refine seq_none hS (runs_storeB (cs := cmc noCm (.slice none 0 0)) rfl rfl hM1 ((cmc_len noCm_len).trans (cmc_len noCm_len).symm) (cm_one rfl) (by rw [szC, cmc_len noCm_len])) (fun v17 w17 a1 hp hS => ?_)
    obtain ⟨hM1, hU17⟩ := hp
    have hT := But.new (hBpre0.trans ((hBpre1.trans ((hBpre2.trans ((hB).mono hBpre2.size)).mono hBpre1.size)).mono hBpre0.size)) hU17 (fun i e => by rw [e]; exact Nat.le_refl _) (Nat.le_refl _)
    refine sI hS (runs_assign rfl) fun _ hS => ?_
    have hfin : getC (bl s) = (noCm, 120) := by rw [hg0, hget]; unfold getC4; rw [if_pos (by omega)]
    exact nil_ok (qx_ret (retRow2 (p := 2) (t := 3) (ty := 26) (by kernel_rfl) hS rfl rfl hM1 Tryd.underlying26 rfl (by rw [szC]; rfl) ⟨_, rfl, _, by rw [hfin] <;> rfl, by rw [hfin]; exact cmv_no _, hT⟩))
  refine sI hS (gtrF rfl rfl (by omega)) fun _ hS => ?_
  refine sI hS (runs_move rfl) fun _ hS => ?_
  refine sY hS (runs_move rfl) fun _ hS => ?_
  refine sY hS (runs_indexAddrG (j := 1) rfl rfl und65 sz67 rfl (by omega)) fun _ hS => ?_
  refine sY hS (runs_fieldK fo67_2 rfl) fun _ hS => ?_
  refine sY hS (runs_load rfl pl50 (hR 39 (.int .u64 (nb : Int)) rfl)) fun _ hS => ?_
  by_cases q2 : 63 < nb
  · skip
    refine sY hS (gtrT rfl rfl (by omega)) fun _ hS => ?_
    refine sI hS (runs_pick rfl rfl) fun _ hS => ?_
    refine sI hS (runs_move rfl) fun _ hS => ?_
    refine sN hS fun _ hS => ?_
    refine sN hS fun _ hS => ?_
    refine sN hS fun _ hS => ?_
    refine sN hS fun _ hS => ?_
    refine sN hS fun _ hS => ?_
    refine sI hS (runs_pick rfl rfl) fun _ hS => ?_
    refine sI hS (runs_move rfl) fun _ hS => ?_
    refine sN hS fun _ hS => ?_
    refine sN hS fun _ hS => ?_
    refine sN hS fun _ hS => ?_
    refine sN hS fun _ hS => ?_
    refine sN hS fun _ hS => ?_
    refine sI hS (runs_pick rfl rfl) fun _ hS => ?_
    refine nil_ok (wp_cond_true (hS.eval rfl) (qx_seq (reg_seq ?_)))
    refine sI hS (runs_buildK (pv := []) (cells := (cmc noCm (.slice none 0 0)).toArray) rfl built_0) fun _ hS => ?_
    refine seq_none hS (runs_storeB (cs := cmc noCm (.slice none 0 0)) rfl rfl hM1 ((cmc_len noCm_len).trans (cmc_len noCm_len).symm) (cm_one rfl) (by rw [szC, cmc_len noCm_len])) (fun v18 w18 a1 hp hS => ?_)
    obtain ⟨hM1, hU18⟩ := hp
    have hT := But.new (hBpre0.trans ((hBpre1.trans ((hBpre2.trans ((hB).mono hBpre2.size)).mono hBpre1.size)).mono hBpre0.size)) hU18 (fun i e => by rw [e]; exact Nat.le_refl _) (Nat.le_refl _)
    refine sI hS (runs_assign rfl) fun _ hS => ?_
    have hfin : getC (bl s) = (noCm, 120) := by rw [hg0, hget]; unfold getC4; rw [if_pos (by omega)]
    exact nil_ok (qx_ret (retRow2 (p := 2) (t := 3) (ty := 26) (by kernel_rfl) hS rfl rfl hM1 Tryd.underlying26 rfl (by rw [szC]; rfl) ⟨_, rfl, _, by rw [hfin] <;> rfl, by rw [hfin]; exact cmv_no _, hT⟩))
  refine sY hS (gtrF rfl rfl (by omega)) fun _ hS => ?_
  refine sI hS (runs_pick rfl rfl) fun _ hS => ?_
  refine sI hS (runs_move rfl) fun _ hS => ?_
  refine sY hS (runs_move rfl) fun _ hS => ?_
  refine sY hS (runs_indexAddrG (j := 3) rfl rfl und65 sz67 rfl (by omega)) fun _ hS => ?_
  refine sY hS (runs_fieldK fo67_2 rfl) fun _ hS => ?_
  refine sY hS (runs_load rfl pl50 (hR (3 * 37 + 2) (.int .u64 (nk : Int)) (row_n hr1))) fun _ hS => ?_
  by_cases q3 : nk < 1
  · skip
    refine sY hS (lssT rfl rfl (by omega)) fun _ hS => ?_
    refine sI hS (runs_pick rfl rfl) fun _ hS => ?_
    refine sI hS (runs_move rfl) fun _ hS => ?_
    refine sN hS fun _ hS => ?_
    refine sN hS fun _ hS => ?_
    refine sN hS fun _ hS => ?_
    refine sN hS fun _ hS => ?_
    refine sN hS fun _ hS => ?_
    refine sI hS (runs_pick rfl rfl) fun _ hS => ?_
    refine nil_ok (wp_cond_true (hS.eval rfl) (qx_seq (reg_seq ?_)))
    refine sI hS (runs_buildK (pv := []) (cells := (cmc noCm (.slice none 0 0)).toArray) rfl built_0) fun _ hS => ?_
    refine seq_none hS (runs_storeB (cs := cmc noCm (.slice none 0 0)) rfl rfl hM1 ((cmc_len noCm_len).trans (cmc_len noCm_len).symm) (cm_one rfl) (by rw [szC, cmc_len noCm_len])) (fun v19 w19 a1 hp hS => ?_)
    obtain ⟨hM1, hU19⟩ := hp
    have hT := But.new (hBpre0.trans ((hBpre1.trans ((hBpre2.trans ((hB).mono hBpre2.size)).mono hBpre1.size)).mono hBpre0.size)) hU19 (fun i e => by rw [e]; exact Nat.le_refl _) (Nat.le_refl _)
    refine sI hS (runs_assign rfl) fun _ hS => ?_
    have hfin : getC (bl s) = (noCm, 120) := by rw [hg0, hget]; unfold getC4; rw [if_pos (by omega)]
    exact nil_ok (qx_ret (retRow2 (p := 2) (t := 3) (ty := 26) (by kernel_rfl) hS rfl rfl hM1 Tryd.underlying26 rfl (by rw [szC]; rfl) ⟨_, rfl, _, by rw [hfin] <;> rfl, by rw [hfin]; exact cmv_no _, hT⟩))
  refine sY hS (lssF rfl rfl (by omega)) fun _ hS => ?_
  refine sI hS (runs_pick rfl rfl) fun _ hS => ?_
  refine sI hS (runs_move rfl) fun _ hS => ?_
  refine sY hS (runs_move rfl) fun _ hS => ?_
  refine sY hS (runs_indexAddrG (j := 3) rfl rfl und65 sz67 rfl (by omega)) fun _ hS => ?_
  refine sY hS (runs_fieldK fo67_2 rfl) fun _ hS => ?_
  refine sY hS (runs_load rfl pl50 (hR (3 * 37 + 2) (.int .u64 (nk : Int)) (row_n hr1))) fun _ hS => ?_
  by_cases q4 : 64 < nk
  · skip
    refine sY hS (gtrT rfl rfl (by omega)) fun _ hS => ?_
    refine sI hS (runs_pick rfl rfl) fun _ hS => ?_
    refine nil_ok (wp_cond_true (hS.eval rfl) (qx_seq (reg_seq ?_)))
    refine sI hS (runs_buildK (pv := []) (cells := (cmc noCm (.slice none 0 0)).toArray) rfl built_0) fun _ hS => ?_
    refine seq_none hS (runs_storeB (cs := cmc noCm (.slice none 0 0)) rfl rfl hM1 ((cmc_len noCm_len).trans (cmc_len noCm_len).symm) (cm_one rfl) (by rw [szC, cmc_len noCm_len])) (fun v20 w20 a1 hp hS => ?_)
    obtain ⟨hM1, hU20⟩ := hp
    have hT := But.new (hBpre0.trans ((hBpre1.trans ((hBpre2.trans ((hB).mono hBpre2.size)).mono hBpre1.size)).mono hBpre0.size)) hU20 (fun i e => by rw [e]; exact Nat.le_refl _) (Nat.le_refl _)
    refine sI hS (runs_assign rfl) fun _ hS => ?_
    have hfin : getC (bl s) = (noCm, 120) := by rw [hg0, hget]; unfold getC4; rw [if_pos (by omega)]
    exact nil_ok (qx_ret (retRow2 (p := 2) (t := 3) (ty := 26) (by kernel_rfl) hS rfl rfl hM1 Tryd.underlying26 rfl (by rw [szC]; rfl) ⟨_, rfl, _, by rw [hfin] <;> rfl, by rw [hfin]; exact cmv_no _, hT⟩))
  refine sY hS (gtrF rfl rfl (by omega)) fun _ hS => ?_
  refine sI hS (runs_pick rfl rfl) fun _ hS => ?_
  refine nil_ok (wp_cond_false (hS.eval rfl) (wp_skip (qx_seq (?_))))
  have hB15 := hB
  refine reg_guard (fun w' => Below wA.heap.size wA w') [.inl (.slice (some ⟨gr, 0, none⟩) 4 cr), .inl (.pointer (some ⟨gr, 0 + 0 * 37, none⟩)), .inl (.pointer (some ⟨gr, 0 + 0 * 37 + 2, none⟩)), .inl (.int .u64 (na : Int)), .inl (.int .i64 (na : Int)), .inl (.slice (some ⟨gr, 0, none⟩) 4 cr), .inl (.pointer (some ⟨gr, 0 + 1 * 37, none⟩)), .inl (.pointer (some ⟨gr, 0 + 1 * 37 + 2, none⟩)), .inl (.int .u64 (nb : Int)), .inl (.int .i64 (nb : Int)), .inl (.slice (some ⟨gr, 0, none⟩) 4 cr), .inl (.pointer (some ⟨gr, 0 + 2 * 37, none⟩)), .inl (.pointer (some ⟨gr, 0 + 2 * 37 + 5, none⟩)), .inl (.agg (U8 rt).toArray), .inl (.agg (cmc (mkC na nb rt []) (.slice none 0 0)).toArray), .inr (fun v w' => ∃ g, v = .pointer (some ⟨g, 0, none⟩) ∧ wA.heap.size ≤ g ∧ Has w' g 26 (cmc noCm (.slice none 0 0)))] 16 1 mixed rfl (by kernel_rfl) hS (Below.refl _ _) (fun _ h => h.drew) ?_
  refine hs_is rfl (fun w' hw => runs_move rfl) ?_
  refine hs_is rfl (fun w' hw => runs_indexAddrG (j := 0) rfl rfl und65 sz67 rfl (by omega)) ?_
  refine hs_is rfl (fun w' hw => runs_fieldK fo67_2 rfl) ?_
  refine hs_is rfl (fun w' hw => runs_load rfl pl50 ((range_below hR hw hgrl) 2 (.int .u64 (na : Int)) rfl)) ?_
  refine hs_is rfl (fun w' hw => runs_convInt (r := (na : Int)) rfl (by decide) und3 (by simp [IntKind.wrap, IntKind.bits, IntKind.signed]; omega)) ?_
  refine hs_is rfl (fun w' hw => runs_move rfl) ?_
  refine hs_is rfl (fun w' hw => runs_indexAddrG (j := 1) rfl rfl und65 sz67 rfl (by omega)) ?_
  refine hs_is rfl (fun w' hw => runs_fieldK fo67_2 rfl) ?_
  refine hs_is rfl (fun w' hw => runs_load rfl pl50 ((range_below hR hw hgrl) 39 (.int .u64 (nb : Int)) rfl)) ?_
  refine hs_is rfl (fun w' hw => runs_convInt (r := (nb : Int)) rfl (by decide) und3 (by simp [IntKind.wrap, IntKind.bits, IntKind.signed]; omega)) ?_
  refine hs_is rfl (fun w' hw => runs_move rfl) ?_
  refine hs_is rfl (fun w' hw => runs_indexAddrG (j := 2) rfl rfl und65 sz67 rfl (by omega)) ?_
  refine hs_is rfl (fun w' hw => runs_fieldK fo67_5 rfl) ?_
  refine hs_is rfl (fun w' hw => runs_loadMid rfl (row_h hr1 (range_below hR hw hgrl)) Tryd.underlying23 rfl (by rw [infHash, U8_length, hr1])) ?_
  refine hs_is rfl (fun w' hw => runs_buildK (pv := [(0, .int .i64 (na : Int)), (1, .int .i64 (nb : Int)), (2, .agg (U8 rt).toArray)]) (cells := (cmc (mkC na nb rt []) (.slice none 0 0)).toArray) rfl (built_C3 hr1)) ?_
  refine hs_pr rfl (fun _ _ _ h hk => by obtain ⟨g, h1, h2, h3⟩ := h; exact ⟨g, h1, h2, h3.below hk h3.lt⟩) (fun w' hw hq => (runs_allocB (cs := cmc noCm (.slice none 0 0)) zoC rfl).mono (by rintro v w5 ⟨rfl, h2, h3⟩; exact ⟨⟨_, rfl, hw.size, h2⟩, hw.trans (h3.mono hw.size), h3⟩)) (fun u15 => ?_)
  refine (fun a21 w21 hS hB21 hq => ?_)
  obtain ⟨gq, rfl, hgq, hQ⟩ := (hq (15, _) List.mem_cons_self)
  clear hq
  have hB := hB.trans (hB21.mono hB.size)
  have hM1 := hM1b.below hB hM1b.lt
  refine tail_none 16 (by kernel_rfl) rfl hS (runs_storeB (cs := cmc (mkC na nb rt []) (.slice none 0 0)) rfl rfl hQ ((cmc_len noCm_len).trans (cmc_len (c := mkC na nb rt []) hr1).symm) (cm_one rfl) (by rw [szC, cmc_len (c := mkC na nb rt []) hr1])) (fun v23 w23 a23 hp hS => ⟨trivial, ?_⟩)
  obtain ⟨hQ, hU23⟩ := hp
  have hB := But.new hB hU23 (fun i e => by rw [e]; exact Nat.le_trans (hB15.size) hgq) (Nat.le_refl _)
  have hM1 := hM1b.below hB hM1b.lt
  refine wpAnyH_done (by kernel_rfl) ?_ _
  refine qx_seq (qx_seq (reg_seq ?_))
  refine sI hS (runs_assign rfl) fun _ hS => ?_
  refine nil_ok (?_)
  refine qx_for (fun mm a w' => ∃ (i : Nat) (ys : List (List Nat)) (cur : ByteArray) (ov : Value), i ≤ nk ∧ mm = nk - i ∧ Below wA.heap.size wA w' ∧ ys.length = i ∧ cur.size ≤ s.size ∧ RdHsI nk (bl cur1) i ys (bl cur) ∧ (∀ h ∈ ys, h.length = 32 ∧ Sha.Bytes h) ∧ w'.ownsRow wA.heap.size 23 32 ov i (U8 ys.flatten) ∧ (i = 0 → ∀ g m c, ov = .slice (some g) m c → c = 0) ∧ Has w' gq 26 (cmc (mkC na nb rt ys) ov) ∧ Sees 129 [(11, .int .u64 ((i : Nat) : Int)), (10, .pointer (some ⟨gq, 0, none⟩)), (5, .slice (some ⟨gr, 0, none⟩) 4 cr), (2, .pointer (some ⟨w.heap.size, 0, none⟩)), (0, .string cur)] a) nk ⟨0, [], cur1, _, by omega, by omega, hB, rfl, hcs1, RdHsI.zero _ _, (by simp), ⟨rfl, .inl ⟨rfl, rfl⟩⟩, (fun _ g m c e => by cases e), hQ, hS.only _ ⟨rfl, rfl, rfl, rfl, rfl, trivial⟩⟩ ?_
  clear hS 
  rintro mm a wl1 ⟨i, ys, cur, ov, hi1, rfl, hBb1, hlenY, hcs, hrdI, hyo, howY, hzY, hQY, hS⟩
  have hBsz1 := hBb1.size
  have hM1 := hM1b.below hBb1 hM1b.lt
  have hB := Below.refl wl1.heap.size wl1
  have hM1b1 := hM1
  refine reg_seq ?_
  refine sI hS (runs_move rfl) fun _ hS => ?_
  refine sI hS (runs_move rfl) fun _ hS => ?_
  refine sI hS (runs_indexAddrG (j := 3) rfl rfl und65 sz67 rfl (by omega)) fun _ hS => ?_
  refine sI hS (runs_fieldK fo67_2 rfl) fun _ hS => ?_
  refine sI hS (runs_load rfl pl50 (range_below hR hBb1 hgrl (3 * 37 + 2) (.int .u64 (nk : Int)) (row_n hr1))) fun _ hS => ?_
  by_cases hlt1 : i < nk
  · skip
    refine sI hS (lssT rfl rfl (by omega)) fun _ hS => ?_
    refine nil_ok ⟨_, hS.eval rfl, fun h => by simp at h, fun _ => ?_⟩
    refine qx_seq (qx_block (qx_seq (reg_seq ?_)))
    refine sI hS (runs_move rfl) fun _ hS => ?_
    refine sI hS (runs_buildK (pv := [(0, .int .i64 3)]) (cells := (fh3 Z32).cells.toArray) rfl (by kernel_rfl)) fun _ hS => ?_
    obtain ⟨fd, fn, fe, hF⟩ : ∃ a b c, refRes cur (fldC 2) = (a, b, c) := ⟨_, _, _, rfl⟩
    have hfh := refC_h hF
    obtain ⟨hbad, hgood⟩ := refC_sum hF
    refine seq_op hS (by decide) (runs_call (args := [.string cur, (fldC 2).val]) goes29 rfl (rgetS_any hF (by omega) wl1)) (fun v24 w24 a1 hp hS => ?_)
    obtain ⟨rfl, hB24⟩ := hp
    have hB := hB.trans (hB24.mono hB.size)
    have hM1 := hM1b1.below hB hM1b1.lt
    refine sI hS (runs_move rfl) fun _ hS => ?_
    refine sI hS (runs_extract rfl rfl) fun _ hS => ?_
    refine sI hS (runs_extract rfl rfl) fun _ hS => ?_
    refine sI hS (runs_extract rfl rfl) fun _ hS => ?_
    refine seq_op hS (by decide) (runs_allocB (cs := (fn0 0).cells) zo67 rfl) (fun v26 w26 a1 hp hS => ?_)
    obtain ⟨rfl, hM26, hB26⟩ := hp
    have hLhM26 : wl1.heap.size ≤ w24.heap.size := hB.size
    have hB := hB.trans (hB26.mono hB.size)
    have hM1 := hM1b1.below hB hM1b1.lt
    refine seq_none hS (runs_storeB (cs := fd.cells) rfl rfl hM26 (by simp [Fld.cells, hfh, fn0, Z32]) (fld_one2 fd) (by rw [sz67]; simp [Fld.cells, hfh])) (fun v28 w28 a1 hp hS => ?_)
    obtain ⟨hM26, hU28⟩ := hp
    have hB := But.new hB hU28 (fun i e => by rw [e]; exact hLhM26) (Nat.le_refl _)
    have hM1 := hM1b1.below hB hM1b1.lt
    refine sI hS (runs_assign rfl) fun _ hS => ?_
    refine sI hS (runs_assign rfl) fun _ hS => ?_
    refine nil_ok (qx_seq (qx_seq (reg_seq ?_)))
    refine sI hS (runs_move rfl) fun _ hS => ?_
    by_cases hge : fe ≠ 0
    · skip
      refine sI hS (runs_neq (r := true) rfl rfl (by simpa using hge)) fun _ hS => ?_
      refine nil_ok (wp_cond_true (hS.eval rfl) (qx_seq (reg_seq ?_)))
      refine sI hS (runs_buildK (pv := []) (cells := (cmc noCm (.slice none 0 0)).toArray) rfl built_0) fun _ hS => ?_
      refine sI hS (runs_move rfl) fun _ hS => ?_
      refine seq_none hS (runs_storeB (cs := cmc noCm (.slice none 0 0)) rfl rfl hM1 ((cmc_len noCm_len).trans (cmc_len noCm_len).symm) (cm_one rfl) (by rw [szC, cmc_len noCm_len])) (fun v30 w30 a1 hp hS => ?_)
      obtain ⟨hM1, hU30⟩ := hp
      have hT := But.new (hBpre0.trans ((hBpre1.trans ((hBpre2.trans ((hBb1.trans ((hB).mono hBb1.size)).mono hBpre2.size)).mono hBpre1.size)).mono hBpre0.size)) hU30 (fun i e => by rw [e]; exact Nat.le_refl _) (Nat.le_refl _)
      refine sI hS (runs_assign rfl) fun _ hS => ?_
      have hfin : getC (bl s) = (noCm, fe) := by
        have h20 := hrdI.err hlt1 (hbad hge).2
        rw [hg0, hget, (hbad hge).1]; unfold getC4; rw [if_neg (by omega), if_pos (by rw [h20]; decide), h20]
      exact nil_ok (qx_ret (retRow2 (p := 2) (t := 3) (ty := 26) (by kernel_rfl) hS rfl rfl hM1 Tryd.underlying26 rfl (by rw [szC]; rfl) ⟨_, rfl, _, by rw [hfin] <;> rfl, by rw [hfin]; exact cmv_no _, hT⟩))
    refine sI hS (runs_neq (r := false) rfl rfl (by simpa using hge)) fun _ hS => ?_
    refine nil_ok (wp_cond_false (hS.eval rfl) (wp_skip (?_)))
    replace hge := Classical.not_not.1 hge
    obtain ⟨g32, hfd, hfn⟩ := hgood hge
    have hfdh : fd.h = (bl cur).take 32 := by rw [hfd]; rfl
    have hfnl : fn ≤ cur.size := by rw [hfn, ← bl_length]; exact g32
    have hownW := owns_kept howY hB
    have hQc := hQY.below hB hQY.lt
    have hszW : wA.heap.size ≤ w28.heap.size := Nat.le_trans hBsz1 hB.size
    have hcap : 0 < i ∨ ∀ g m c, ov = .slice (some g) m c → c = 0 := (Nat.eq_zero_or_pos i).elim (fun h => .inr (hzY h)) .inl
    refine reg_t (KI wA.heap.size (U8 ys.flatten ++ U8 fd.h)) (QC (fun w' => KI wA.heap.size (U8 ys.flatten ++ U8 fd.h) w28 w' ∧ Has w' gq 26 (cmc (mkC na nb rt ys) ov)) (fun w' => ∃ g3 c3, KI wA.heap.size (U8 ys.flatten ++ U8 fd.h) w28 w' ∧ Has w' gq 26 (cmc (mkC na nb rt ys) (.slice (some ⟨g3, 0, none⟩) (i + 1) c3)) ∧ w'.ownsRow wA.heap.size 23 32 (.slice (some ⟨g3, 0, none⟩) (i + 1) c3) (i + 1) (U8 ys.flatten ++ U8 fd.h))) [.inl (.pointer (some ⟨gq, 0 + 34, none⟩)), .inl (ov), .inl (.pointer (some ⟨w24.heap.size, 0 + 5, none⟩)), .inl (.agg (U8 fd.h).toArray), .inr (fun v w' => ∃ g5, v = .slice (some ⟨g5, 0, none⟩) 1 1 ∧ Has w' g5 23 (U8 fd.h)), .inr (fun v w' => (∃ g3 c3, v = .slice (some ⟨g3, 0, none⟩) (i + 1) c3) ∧ w'.ownsRow wA.heap.size 23 32 v (i + 1) (U8 ys.flatten ++ U8 fd.h)), .inl (.string cur), .inl (.int .i64 (fn : Int)), .inl (.string (cut cur fn)), .inl (.pointer (some ⟨gq, 0 + 34, none⟩)), .inl undef] #[false, false, false, false, false, false, false, false, false, false, true] 11 1 10 mixed rfl (by kernel_rfl) hS ⟨KI.refl, hQc⟩ (fun h => ⟨h.1.drew, h.2⟩) ?_
    refine ts_is rfl rfl (fun b_ w' hw => runs_fieldK foC_3 rfl) ?_
    refine ts_cis false rfl rfl (by kernel_rfl) (fun w' hw => runs_load rfl pl924 (hw.2.at (cm_v (c := (mkC na nb rt ys)) hr1))) ?_
    refine ts_is rfl rfl (fun b_ w' hw => runs_fieldK fo67_5 rfl) ?_
    refine ts_cis false rfl rfl (by kernel_rfl) (fun w' hw => runs_loadMid rfl (fld_hash (hw.1.2.2.1 _ _ _ (by decide) (by decide) (by decide) hM26) hfh) Tryd.underlying23 rfl (by rw [infHash, U8_length, hfh])) ?_
    refine ts_cpr false rfl rfl (by kernel_rfl) (fun _ _ _ h hk => by obtain ⟨g5, h1, h2⟩ := h; exact ⟨g5, h1, hk.2.2.2 _ _ (by rw [U8_length, hfh]) h2⟩) (fun w' hw hq => (runs_oneHs rfl hfh).mono (by rintro v w5 ⟨g5, h1, h2, hb⟩; have hk := KI.of_kr (KR.of_below (T := 23) (sz := 32) (Y := (U8 ys.flatten ++ U8 fd.h)) hb (Nat.le_trans hszW hw.1.1.size)); exact ⟨⟨g5, h1, h2⟩, ⟨hw.1.trans hk, hw.2.below hb hw.2.lt⟩, hk⟩)) (fun u4 => ?_)
    refine ts_cpr false rfl rfl (by kernel_rfl) (fun _ _ _ h hk => ⟨h.1, hk.2.1 _ _ _ (List.prefix_refl _) h.2⟩) (fun w' hw hq => (by obtain ⟨g5, rfl, hX⟩ := (hq (4, _) List.mem_cons_self (by kernel_rfl)); exact (push_ownHs rfl (hw.1.2.1 _ _ _ (List.prefix_append _ _) hownW) rfl hX hfh (by omega) (Nat.le_trans hszW hw.1.1.size) hcap).mono (by rintro v w5 ⟨h1, h2, h3⟩; exact ⟨⟨h1, h2⟩, ⟨hw.1.trans (KI.of_kr h3), h3.2.2.1 _ _ _ (by decide) hw.2⟩, KI.of_kr h3⟩))) (fun u5 => ?_)
    refine ts_is rfl rfl (fun b_ w' hw => runs_move rfl) ?_
    refine ts_is rfl rfl (fun b_ w' hw => runs_move rfl) ?_
    refine ts_is rfl rfl (fun b_ w' hw => runs_cutS rfl rfl hfnl) ?_
    refine ts_is rfl rfl (fun b_ w' hw => runs_fieldK foC_3 rfl) ?_
    refine ts_store rfl rfl (fun w' hw hq => (by obtain ⟨⟨g3, c3, rfl⟩, h51⟩ := (hq (5, _) List.mem_cons_self (by kernel_rfl)); exact (runs_storeC (u := ov) rfl rfl rfl s1_924 hw.2 (cm_v (c := (mkC na nb rt ys)) hr1)).mono (by rintro _ w5 ⟨hQ2, hU⟩; rw [cm_set (c := (mkC na nb rt ys)) hr1] at hQ2; have hk := KI.of_but (B := wA.heap.size) (Y := (U8 ys.flatten ++ U8 fd.h)) hU hw.2 (.inr rfl) hgq (Nat.le_trans hszW hw.1.1.size); exact ⟨⟨g3, c3, hw.1.trans hk, hQ2, owns_but h51 hU (fun i old ho e => by subst e; exact has_ne ho hw.2 (by decide) rfl)⟩, hk⟩))) ?_
    refine (fun a31 w31 hS hK31 hq => ?_)


    clear hq
    obtain ⟨g3, c3, hK1, hQ2, h52⟩ := hK31
    refine tail_op 11 (by kernel_rfl) rfl hS (by decide) (runs_assign rfl) (fun v32 w32 a32 hp hS => ⟨trivial, ?_⟩)
    obtain ⟨rfl, rfl⟩ := hp
    refine wpAnyH_done (by kernel_rfl) ?_ _
    refine reg_seq ?_
    refine sI hS (runs_move rfl) fun _ hS => ?_
    refine sI hS (runs_add (r := ((i + 1 : Nat) : Int)) rfl rfl (by simp [IntKind.wrap, IntKind.bits, IntKind.signed]; omega)) fun _ hS => ?_
    refine sI hS (runs_assign rfl) fun _ hS => ?_
    exact nil_ok ⟨_, by omega, i + 1, ys ++ [fd.h], cut cur fn, .slice (some ⟨g3, 0, none⟩) (i + 1) c3, by omega, rfl, hBb1.trans ((hB.mono hBb1.size).trans hK1.1), by simp [hlenY], by rw [cut, ByteArray.size_extract]; omega, by rw [bl_cut, hfn, hfdh]; exact hrdI.step hlt1 g32, (fun y hy => by rcases List.mem_append.1 hy with h | h; exact hyo y h; rw [List.mem_singleton] at h; rw [h]; exact ⟨hfh, by rw [hfdh]; exact fun c hc => bl_bytes cur c (List.mem_of_mem_take hc)⟩), by rw [List.flatten_append, List.flatten_singleton, show U8 (ys.flatten ++ fd.h) = U8 ys.flatten ++ U8 fd.h by simp [U8]]; exact h52, (fun h => by omega), hQ2, hS.only _ ⟨rfl, rfl, rfl, rfl, rfl, trivial⟩⟩
  refine sI hS (lssF rfl rfl (by omega)) fun _ hS => ?_
  obtain rfl : i = nk := by omega
  refine nil_ok ⟨_, hS.eval rfl, fun _ => ?_, fun h => by simp at h⟩
  have hB := hBb1
  have hall := hrdI.all
  have hov : ov.oneCell' = true := own_cell howY
  refine qx_seq (qx_seq (reg_seq ?_))
  refine sI hS (runs_move rfl) fun _ hS => ?_
  by_cases hmore : bl cur ≠ []
  · skip
    refine sI hS (runs_neStr (r := true) rfl rfl (by rw [show bl (⟨#[]⟩ : ByteArray) = [] from rfl]; simpa using hmore)) fun _ hS => ?_
    refine nil_ok (wp_cond_true (hS.eval rfl) (qx_seq (reg_seq ?_)))
    refine sI hS (runs_buildK (pv := []) (cells := (cmc noCm (.slice none 0 0)).toArray) rfl built_0) fun _ hS => ?_
    refine seq_none hS (runs_storeB (cs := cmc noCm (.slice none 0 0)) rfl rfl hM1 ((cmc_len noCm_len).trans (cmc_len noCm_len).symm) (cm_one rfl) (by rw [szC, cmc_len noCm_len])) (fun v33 w33 a1 hp hS => ?_)
    obtain ⟨hM1, hU33⟩ := hp
    have hT := But.new (hBpre0.trans ((hBpre1.trans ((hBpre2.trans ((hB).mono hBpre2.size)).mono hBpre1.size)).mono hBpre0.size)) hU33 (fun i e => by rw [e]; exact Nat.le_refl _) (Nat.le_refl _)
    refine sI hS (runs_assign rfl) fun _ hS => ?_
    have hfin : getC (bl s) = (noCm, 22) := by rw [hg0, hget]; unfold getC4; rw [if_neg (by omega), hall]; simp [hmore]
    exact nil_ok (qx_ret (retRow2 (p := 2) (t := 3) (ty := 26) (by kernel_rfl) hS rfl rfl hM1 Tryd.underlying26 rfl (by rw [szC]; rfl) ⟨_, rfl, _, by rw [hfin] <;> rfl, by rw [hfin]; exact cmv_no _, hT⟩))
  refine sI hS (runs_neStr (r := false) rfl rfl (by rw [show bl (⟨#[]⟩ : ByteArray) = [] from rfl]; simp [Classical.not_not.1 hmore])) fun _ hS => ?_
  refine nil_ok (wp_cond_false (hS.eval rfl) (wp_skip (qx_seq (reg_seq ?_))))
  refine sI hS (runs_loadRow rfl hQY Tryd.underlying26 rfl (by rw [szC, cmc_len (c := (mkC na nb rt ys)) hr1])) fun _ hS => ?_
  have hMo := hM1
  refine seq_none hS (runs_storeB (cs := cmc (mkC na nb rt ys) ov) rfl rfl hM1 ((cmc_len noCm_len).trans (cmc_len (c := (mkC na nb rt ys)) hr1).symm) (cm_one hov) (by rw [szC, cmc_len (c := (mkC na nb rt ys)) hr1])) (fun v34 w34 a1 hp hS => ?_)
  obtain ⟨hM1, hU34⟩ := hp
  have hownF := owns_but howY hU34 (fun i old ho e => by subst e; exact has_ne ho hMo (by decide) rfl)
  have hT := But.new (hBpre0.trans ((hBpre1.trans ((hBpre2.trans ((hB).mono hBpre2.size)).mono hBpre1.size)).mono hBpre0.size)) hU34 (fun i e => by rw [e]; exact Nat.le_refl _) (Nat.le_refl _)
  refine sI hS (runs_assign rfl) fun _ hS => ?_
  have hfin : getC (bl s) = ((mkC na nb rt ys), 0) := by rw [hg0, hget]; unfold getC4; rw [if_neg (by omega), hall]; simp [Classical.not_not.1 hmore, mkC]
  have hHf := hashes_own (hs := ys) (hlenY ▸ hownF) hyo
  exact nil_ok (qx_ret (retRow2 (p := 2) (t := 3) (ty := 26) (by kernel_rfl) hS rfl rfl hM1 Tryd.underlying26 rfl (by rw [szC, cmc_len (c := (mkC na nb rt ys)) hr1]) ⟨_, rfl, _, by rw [hfin] <;> rfl, by rw [hfin]; exact ⟨ov, rfl, hHf, hr1, hr2⟩, hT⟩))
end Go.Proofs.YtooeahpkhocaeaaDoor
