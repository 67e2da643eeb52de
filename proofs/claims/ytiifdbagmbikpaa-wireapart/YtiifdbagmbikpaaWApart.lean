/- The walk of WireApart. Conditions: two fields. -/
import Derived.Test.YtiifdbagmbikpaaWSizes
import Derived.Test.YtiifdbagmbikpaaOneMath
import Derived.Test.YtiifdbagmbikpaaEq
namespace Go.Proofs.Ytiifdbagmbikpaa
open Go.RowKit

theorem S_inj {x y : List Nat} (hx : ∀ c ∈ x, c < 256) (hy : ∀ c ∈ y, c < 256) (h : S x = S y) : x = y := by rw [← bl_S hx, h, bl_S hy]
theorem text_inj {s t : ByteArray} (hs : s.size ≤ 300) (ht : t.size ≤ 300) (h : Wire.num s.size ++ bl s = Wire.num t.size ++ bl t) : s = t := by
  have h1 := Wire.rd_num s.size (bl s) (by omega)
  have h2 := Wire.rd_num t.size (bl t) (by omega)
  rw [h, h2] at h1
  simp only [Prod.mk.injEq] at h1
  rw [h1.1] at h
  exact bl_inj (List.append_cancel_left h)
/-- Whether two fields of a kind are the same. -/
def sameB (a b : Fld) : Bool := if a.kind = 0 then ((a.n : Int) == (b.n : Int)) else if a.kind = 1 then (a.i == b.i) else if a.kind = 2 then decide (a.s = b.s) else (a.h == b.h)
theorem same_bytes (a b : Fld) (ha : a.Ok) (hb : b.Ok) (h1 : a.s.size ≤ 300) (h2 : b.s.size ≤ 300) (hk : a.kind = b.kind) : S a.bytes = S b.bytes ↔ sameB a b = true := by
  have hinj : S a.bytes = S b.bytes ↔ a.bytes = b.bytes := ⟨S_inj (Fld.bytes_lt ha) (Fld.bytes_lt hb), fun h => by rw [h]⟩
  rw [hinj]
  unfold Fld.bytes sameB
  rw [← hk]
  by_cases k0 : a.kind = 0
  · simp only [if_pos k0, beq_iff_eq]
    exact ⟨fun h => by rw [Wire.num_inj _ _ h], fun h => by rw [Int.ofNat.inj h]⟩
  · simp only [if_neg k0]
    by_cases k1 : a.kind = 1
    · simp only [if_pos k1, beq_iff_eq]
      exact ⟨fun h => Wire.fold_inj _ _ (Wire.num_inj _ _ h), fun h => by rw [h]⟩
    · simp only [if_neg k1]
      by_cases k2 : a.kind = 2
      · simp only [if_pos k2, decide_eq_true_eq]
        exact ⟨fun h => text_inj h1 h2 h, fun h => by rw [h]⟩
      · simp only [if_neg k2, beq_iff_eq]
theorem str_ne {A B : ByteArray} (h : A ≠ B) : (A == B) = false ∧ (A.toList == B.toList) = false := by
  have h2 : (A.toList == B.toList) = false := by
    rw [beq_eq_false_iff_ne]
    intro e
    rw [ByteArray.toList_eq, ByteArray.toList_eq] at e
    exact h (ByteArray.ext (Array.ext' e))
  exact ⟨by rw [beq_toListBytes]; exact h2, h2⟩
structure ApHead (w w3 : World) (a b : Fld) : Prop where
  boxA : Has w3 w.heap.size 32 a.cells
  boxB : Has w3 (w.heap.size + 1) 32 b.cells
  one : OB w w3 (w.heap.size + 2) (.slice none 0 0) []
  two : OB w w3 (w.heap.size + 3) (.slice none 0 0) []
theorem ApHead.kept {w w3 w4 : World} {a b : Fld} (h : ApHead w w3 a b) (hb : Below w3.heap.size w3 w4) : ApHead w w4 a b :=
  ⟨h.boxA.below hb h.boxA.lt, h.boxB.below hb h.boxB.lt, ⟨h.one.out.below hb, h.one.hb, h.one.own, h.one.below.trans (hb.mono h.one.below.size)⟩, ⟨h.two.out.below hb, h.two.hb, h.two.own, h.two.below.trans (hb.mono h.two.below.size)⟩⟩
theorem ap_head (w : World) (a b : Fld) : ApHead w ((((w.alloc (.cells a.cells.toArray 32)).alloc (.cells b.cells.toArray 32)).alloc (.cells #[.slice none 0 0] 61)).alloc (.cells #[.slice none 0 0] 61)) a b := by
  have hb : Below w.heap.size w ((w.alloc (.cells a.cells.toArray 32)).alloc (.cells b.cells.toArray 32)) := ((Below.refl _ _).alloc (Nat.le_refl _) _).alloc (by simp) _
  have h1 := OB.new hb
  rw [show ((w.alloc (.cells a.cells.toArray 32)).alloc (.cells b.cells.toArray 32)).heap.size = w.heap.size + 2 by simp] at h1
  have h2 := OB.new h1.below
  rw [show (((w.alloc (.cells a.cells.toArray 32)).alloc (.cells b.cells.toArray 32)).alloc (.cells #[.slice none 0 0] 61)).heap.size = w.heap.size + 3 by simp] at h2
  refine ⟨(((Has.new w 32 a.cells).alloc _).alloc _).alloc _, ((Has.new' _ 32 b.cells _ _ rfl (by simp)).alloc _).alloc _, ?_, h2⟩
  exact ⟨h1.out.below ((Below.refl _ _).alloc (Nat.le_refl _) _), h1.hb, h1.own, h2.below⟩
/-- Behind both. -/
structure ApMid (w w5 : World) (a b : Fld) (v u : Value) : Prop where
  boxA : Has w5 w.heap.size 32 a.cells
  boxB : Has w5 (w.heap.size + 1) 32 b.cells
  one : Out w5 (w.heap.size + 2) v a.bytes
  two : Out w5 (w.heap.size + 3) u b.bytes
  below : Below w.heap.size w w5
theorem wpList_load_midg {ops : Array Oper} {rest : List Oper} {op : Oper} {a : Act} {w : World} {Q : Exit → Act → World → Prop} (ty : TypeId) (x : Operand) (ho : op.op = .load ty x) (hw : Region.wanted op (yielded ops a.tmps) = true)
    (b o : Nat) (hx : a.eval x = .pointer (some ⟨b, o, none⟩)) (cs : List Value) (d : TypeDesc) (hc : w.rangeAt b o cs)
    (hu : Try.prog.underlying ty = some d) (hd : d.isRow = true) (hi : (Try.prog.info? ty).map (·.size) = some cs.length)
    (h : wpList Try.prog ops Q rest (a.put op.dst (.agg cs.toArray)) w) : wpList Try.prog ops Q (op :: rest) a w := by
  unfold wpList
  rw [if_pos hw]
  exact .inl (wp_load_mid ty x ho b o hx cs d hc hu hd hi h)
theorem fld_range {w : World} {p : Nat} {f : Fld} (h : Has w p 32 f.cells) : w.rangeAt p 5 (U8 f.h) := by
  have := h.range 5 f.h.length
  rwa [show (f.cells.drop 5).take f.h.length = U8 f.h by unfold Fld.cells; simp [U8]; exact List.take_of_length_le (by simp)] at this
set_option maxRecDepth 100000 in
set_option maxHeartbeats 4000000 in
theorem apart_walk (a : Fld) (ha : a.Ok) (b : Fld) (hb : b.Ok) (w : World) :
    Calls Try.prog 6 #[a.val, b.val] w fun e w' => e = .returned (.bool true) ∧ Below w.heap.size w w' := by
  have HA := Lib.hid ha
  have HB := Lib.hid hb
  have HH := Lib.hid (ap_head w a b)
  unfold Fld.val
  go_enter Try.func6, Try.ntmps6
  go_wp2_with fail
  refine (newOut_any _).mono ?_
  rintro e w1 ⟨rfl, hw1⟩
  rw [show ((w.alloc (.cells a.cells.toArray 32)).alloc (.cells b.cells.toArray 32)).heap.size = w.heap.size + 2 by simp]
  have HW1 := Lib.hid hw1
  clear hw1
  go_wp2_with fail
  refine (newOut_any w1).mono ?_
  rintro e w2 ⟨rfl, hw2⟩
  have hz1 : w1.heap.size = w.heap.size + 3 := by rw [HW1.out]; simp
  rw [hz1]
  have H2 : Hid (ApHead w w2 a b) := by show ApHead w w2 a b; rw [hw2, HW1.out]; exact HH.out
  clear hw2 HW1 hz1 HH
  go_wp2_with fail
  refine (awake_any w2).mono ?_
  rintro e w3 ⟨rfl, hb3⟩
  have H3 := Lib.hid (H2.out.kept hb3)
  clear hb3 H2
  have a0 : w3.cell? ⟨w.heap.size, 0, none⟩ = some (.int .i64 a.kind) := H3.out.boxA.cell 0
  have b0 : w3.cell? ⟨w.heap.size + 1, 0, none⟩ = some (.int .i64 b.kind) := H3.out.boxB.cell 0
  have a4 : w3.cell? ⟨w.heap.size, 4, none⟩ = some (.string a.s) := H3.out.boxA.cell 4
  have b4 : w3.cell? ⟨w.heap.size + 1, 4, none⟩ = some (.string b.s) := H3.out.boxB.cell 4
  by_cases hg : a.s.size ≤ 300 ∧ b.s.size ≤ 300 ∧ a.kind = b.kind ∧ 0 ≤ a.kind ∧ a.kind ≤ 3
  · obtain ⟨h1, h2, h3, h4, h5⟩ := hg
    have HS := Lib.hid (same_bytes a b ha hb h1 h2 h3)
    have t1 : decide ((a.s.size : Int) > 300) = false := by simp; omega
    have t2 : decide ((b.s.size : Int) > 300) = false := by simp; omega
    have t3 : (a.kind != b.kind) = false := by simp [h3]
    have t4 : decide (a.kind < 0) = false := by simp; omega
    have t5 : decide (a.kind > 3) = false := by simp; omega
    have HSa := Lib.hid (info32 ha.hl)
    have HSb := Lib.hid (info32 hb.hl)
    have HK := Lib.hid h3
    clear ha hb h3
    go_wp2_with (refine wpList_load_row rfl 32 (.tmp 2) rfl w.heap.size rfl 32 _ (0, 0) _ H3.out.boxA Try.underlying32 rfl HSa.out ?_)
    refine (put_any (w.heap.size + 2) a _ _ w3 HA.out h1 H3.out.one.out (by simp)).mono ?_
    rintro e w4 ⟨rfl, hw⟩
    obtain ⟨v4, ho4, hf4, hl4⟩ := H3.out.one.wrote hw
    rw [List.nil_append] at ho4
    have hsz : w.heap.size + 3 < w3.heap.size := H3.out.two.out.1.lt
    have H4 := Lib.hid ho4
    have HN4 := Lib.hid (later_ne hl4 rfl hsz)
    have HA4 := Lib.hid (H3.out.boxA.fr hf4 (by omega) (by simp [Value.ownBlock]))
    have HB4 := Lib.hid (H3.out.boxB.fr hf4 (by omega) (by simp [Value.ownBlock]))
    have hO2 := H3.out.two.out.off hf4 rfl (by omega) (by simp [Value.ownBlock])
    have HO2 := Lib.hid (show OB w w4 (w.heap.size + 3) (.slice none 0 0) [] from ⟨hO2, H3.out.two.hb, H3.out.two.own, ho4.below⟩)
    clear hw ho4 hf4 hl4 hO2 hsz H3 a0 b0 a4 b4 t1 t2 t3 t4 t5
    go_wp2_with (refine wpList_load_row rfl 32 (.tmp 3) rfl (w.heap.size + 1) rfl 32 _ (0, 0) _ HB4.out Try.underlying32 rfl HSb.out ?_)
    refine (put_any (w.heap.size + 3) b _ _ w4 HB.out h2 HO2.out.out (by simp)).mono ?_
    rintro e w5 ⟨rfl, hw⟩
    obtain ⟨v5, ho5, hf5, hl5⟩ := HO2.out.wrote hw
    rw [List.nil_append] at ho5
    have HM := Lib.hid (show ApMid w w5 a b v4 v5 from ⟨HA4.out.fr hf5 (by omega) (by simp [Value.ownBlock]), HB4.out.fr hf5 (by omega) (by simp [Value.ownBlock]), H4.out.out.off hf5 rfl (by omega) HN4.out, ho5.out, ho5.below⟩)
    clear hw ho5 hf5 hl5 H4 HN4 HA4 HB4 HO2 HSa HSb h1 h2
    have a0 : w5.cell? ⟨w.heap.size, 0, none⟩ = some (.int .i64 a.kind) := HM.out.boxA.cell 0
    have b0 : w5.cell? ⟨w.heap.size + 1, 0, none⟩ = some (.int .i64 b.kind) := HM.out.boxB.cell 0
    have a2 : w5.cell? ⟨w.heap.size, 2, none⟩ = some (.int .u64 (a.n : Int)) := HM.out.boxA.cell 2
    have b2 : w5.cell? ⟨w.heap.size + 1, 2, none⟩ = some (.int .u64 (b.n : Int)) := HM.out.boxB.cell 2
    have a3 : w5.cell? ⟨w.heap.size, 3, none⟩ = some (.int .i64 a.i) := HM.out.boxA.cell 3
    have b3 : w5.cell? ⟨w.heap.size + 1, 3, none⟩ = some (.int .i64 b.i) := HM.out.boxB.cell 3
    have a4 : w5.cell? ⟨w.heap.size, 4, none⟩ = some (.string a.s) := HM.out.boxA.cell 4
    have b4 : w5.cell? ⟨w.heap.size + 1, 4, none⟩ = some (.string b.s) := HM.out.boxB.cell 4
    rw [← HK.out] at b0
    obtain ⟨A, hA⟩ : ∃ A, S a.bytes = A := ⟨_, rfl⟩
    obtain ⟨B, hB⟩ : ∃ B, S b.bytes = B := ⟨_, rfl⟩
    have HSA := Lib.hid hA
    have HSB := Lib.hid hB
    have hiff := HS.out
    rw [hA, hB] at hiff
    have HIff := Lib.hid hiff
    clear hA hB hiff HS
    obtain h0 | h0 | h0 | h0 : a.kind = 0 ∨ a.kind = 1 ∨ a.kind = 2 ∨ a.kind = 3 := by omega
    · rw [h0] at a0 b0
      have hsb : sameB a b = ((a.n : Int) == (b.n : Int)) := by unfold sameB; rw [if_pos h0]
      rw [hsb] at HIff
      clear h0 h4 h5 hsb a3 b3 a4 b4
      by_cases hs : a.n = b.n
      · obtain rfl : A = B := HIff.out.2 (by rw [hs]; simp)
        rw [hs] at a2
        go_wp2_with fail
        refine (done_as (w.heap.size + 2) v4 _ A w5 HSA.out HM.out.one).mono ?_
        rintro e w6 ⟨rfl, rfl⟩
        go_wp2_with fail
        refine (done_as (w.heap.size + 3) v5 _ A w5 HSB.out HM.out.two).mono ?_
        rintro e w6 ⟨rfl, rfl⟩
        go_wp2
        go_ret
        exact ⟨rfl, HM.out.below⟩
      · have hs2 : ((a.n : Int) == (b.n : Int)) = false := by rw [beq_eq_false_iff_ne]; omega
        have hne : A ≠ B := fun e => by have := HIff.out.1 e; rw [hs2] at this; cases this
        obtain ⟨hne2, hne3⟩ := str_ne hne
        clear hs hne
        go_wp2_with fail
        refine (done_as (w.heap.size + 2) v4 _ A w5 HSA.out HM.out.one).mono ?_
        rintro e w6 ⟨rfl, rfl⟩
        go_wp2_with fail
        refine (done_as (w.heap.size + 3) v5 _ B w5 HSB.out HM.out.two).mono ?_
        rintro e w6 ⟨rfl, rfl⟩
        go_wp2
        go_ret
        exact ⟨rfl, HM.out.below⟩
    · rw [h0] at a0 b0
      have hsb : sameB a b = (a.i == b.i) := by unfold sameB; rw [if_neg (by omega), if_pos h0]
      rw [hsb] at HIff
      clear h0 h4 h5 hsb a2 b2 a4 b4
      by_cases hs : a.i = b.i
      · obtain rfl : A = B := HIff.out.2 (by rw [hs]; simp)
        rw [hs] at a3
        go_wp2_with fail
        refine (done_as (w.heap.size + 2) v4 _ A w5 HSA.out HM.out.one).mono ?_
        rintro e w6 ⟨rfl, rfl⟩
        go_wp2_with fail
        refine (done_as (w.heap.size + 3) v5 _ A w5 HSB.out HM.out.two).mono ?_
        rintro e w6 ⟨rfl, rfl⟩
        go_wp2
        go_ret
        exact ⟨rfl, HM.out.below⟩
      · have hs2 : (a.i == b.i) = false := by rw [beq_eq_false_iff_ne]; exact hs
        have hne : A ≠ B := fun e => by have := HIff.out.1 e; rw [hs2] at this; cases this
        obtain ⟨hne2, hne3⟩ := str_ne hne
        clear hs hne
        go_wp2_with fail
        refine (done_as (w.heap.size + 2) v4 _ A w5 HSA.out HM.out.one).mono ?_
        rintro e w6 ⟨rfl, rfl⟩
        go_wp2_with fail
        refine (done_as (w.heap.size + 3) v5 _ B w5 HSB.out HM.out.two).mono ?_
        rintro e w6 ⟨rfl, rfl⟩
        go_wp2
        go_ret
        exact ⟨rfl, HM.out.below⟩
    · rw [h0] at a0 b0
      have hsb : sameB a b = decide (a.s = b.s) := by unfold sameB; rw [if_neg (by omega), if_neg (by omega), if_pos h0]
      rw [hsb] at HIff
      clear h0 h4 h5 hsb a2 b2 a3 b3
      by_cases hs : a.s = b.s
      · obtain rfl : A = B := HIff.out.2 (by rw [hs]; simp)
        rw [hs] at a4
        go_wp2_with fail
        refine (done_as (w.heap.size + 2) v4 _ A w5 HSA.out HM.out.one).mono ?_
        rintro e w6 ⟨rfl, rfl⟩
        go_wp2_with fail
        refine (done_as (w.heap.size + 3) v5 _ A w5 HSB.out HM.out.two).mono ?_
        rintro e w6 ⟨rfl, rfl⟩
        go_wp2
        go_ret
        exact ⟨rfl, HM.out.below⟩
      · have hs2 : decide (a.s = b.s) = false := by simpa using hs
        obtain ⟨hs3, hs4⟩ := str_ne hs
        have hne : A ≠ B := fun e => by have := HIff.out.1 e; rw [hs2] at this; cases this
        obtain ⟨hne2, hne3⟩ := str_ne hne
        clear hs hne
        go_wp2_with fail
        refine (done_as (w.heap.size + 2) v4 _ A w5 HSA.out HM.out.one).mono ?_
        rintro e w6 ⟨rfl, rfl⟩
        go_wp2_with fail
        refine (done_as (w.heap.size + 3) v5 _ B w5 HSB.out HM.out.two).mono ?_
        rintro e w6 ⟨rfl, rfl⟩
        go_wp2
        go_ret
        exact ⟨rfl, HM.out.below⟩
    · rw [h0] at a0 b0
      have hsb : sameB a b = (a.h == b.h) := by unfold sameB; rw [if_neg (by omega), if_neg (by omega), if_neg (by omega)]
      rw [hsb] at HIff
      have HRA := Lib.hid (fld_range HM.out.boxA)
      have HRB := Lib.hid (fld_range HM.out.boxB)
      have HSza : Hid ((Try.prog.info? 30).map (·.size) = some (U8 a.h).length) := by show _ = _; rw [size30, U8_length, HA.out.hl]
      have HSzb : Hid ((Try.prog.info? 30).map (·.size) = some (U8 b.h).length) := by show _ = _; rw [size30, U8_length, HB.out.hl]
      have heq : (Op.equalIn 10000 30 (.agg (U8 a.h).toArray) (.agg (U8 b.h).toArray)).run Try.prog w5 = .ok (a.h == b.h) w5 := run_eqArr 9998 a.h b.h HA.out.hl HB.out.hl w5
      clear h0 h4 h5 hsb a2 b2 a3 b3 a4 b4
      by_cases hs : a.h = b.h
      · obtain rfl : A = B := HIff.out.2 (by rw [hs]; simp)
        have hs2 : (a.h == b.h) = true := by rw [hs]; simp
        rw [hs2] at heq
        clear hs hs2
        go_wp2_with (first
          | (refine wpList_load_midg 30 (.tmp 95) rfl (by rfl) w.heap.size 5 rfl (U8 a.h) (.array 32 5) HRA.out und30 rfl HSza.out ?_)
          | (refine wpList_load_midg 30 (.tmp 97) rfl (by rfl) (w.heap.size + 1) 5 rfl (U8 b.h) (.array 32 5) HRB.out und30 rfl HSzb.out ?_))
        refine (done_as (w.heap.size + 2) v4 _ A w5 HSA.out HM.out.one).mono ?_
        rintro e w6 ⟨rfl, rfl⟩
        go_wp2_with fail
        refine (done_as (w.heap.size + 3) v5 _ A w5 HSB.out HM.out.two).mono ?_
        rintro e w6 ⟨rfl, rfl⟩
        go_wp2
        go_ret
        exact ⟨rfl, HM.out.below⟩
      · have hs2 : (a.h == b.h) = false := by rw [beq_eq_false_iff_ne]; exact hs
        rw [hs2] at heq
        have hne : A ≠ B := fun e => by have := HIff.out.1 e; rw [hs2] at this; cases this
        obtain ⟨hne2, hne3⟩ := str_ne hne
        clear hs hne
        go_wp2_with (first
          | (refine wpList_load_midg 30 (.tmp 95) rfl (by rfl) w.heap.size 5 rfl (U8 a.h) (.array 32 5) HRA.out und30 rfl HSza.out ?_)
          | (refine wpList_load_midg 30 (.tmp 97) rfl (by rfl) (w.heap.size + 1) 5 rfl (U8 b.h) (.array 32 5) HRB.out und30 rfl HSzb.out ?_))
        refine (done_as (w.heap.size + 2) v4 _ A w5 HSA.out HM.out.one).mono ?_
        rintro e w6 ⟨rfl, rfl⟩
        go_wp2_with fail
        refine (done_as (w.heap.size + 3) v5 _ B w5 HSB.out HM.out.two).mono ?_
        rintro e w6 ⟨rfl, rfl⟩
        go_wp2
        go_ret
        exact ⟨rfl, HM.out.below⟩
  · have hor : (300 < a.s.size) ∨ (¬ 300 < a.s.size ∧ 300 < b.s.size) ∨ (¬ 300 < a.s.size ∧ ¬ 300 < b.s.size ∧ a.kind ≠ b.kind) ∨ (¬ 300 < a.s.size ∧ ¬ 300 < b.s.size ∧ a.kind = b.kind ∧ a.kind < 0) ∨ (¬ 300 < a.s.size ∧ ¬ 300 < b.s.size ∧ a.kind = b.kind ∧ ¬ a.kind < 0 ∧ 3 < a.kind) := by omega
    clear hg ha hb
    rcases hor with h1 | ⟨h1, h2⟩ | ⟨h1, h2, h3⟩ | ⟨h1, h2, h3, h4⟩ | ⟨h1, h2, h3, h4, h5⟩
    · have t1 : decide ((a.s.size : Int) > 300) = true := by simp; omega
      go_wp2_with fail
      refine (awake_any w3).mono ?_
      rintro e w4 ⟨rfl, hb⟩
      go_wp2
      go_ret
      exact ⟨rfl, (H3.out.kept hb).one.below⟩
    · have t1 : decide ((a.s.size : Int) > 300) = false := by simp; omega
      have t2 : decide ((b.s.size : Int) > 300) = true := by simp; omega
      go_wp2_with fail
      refine (awake_any w3).mono ?_
      rintro e w4 ⟨rfl, hb⟩
      go_wp2
      go_ret
      exact ⟨rfl, (H3.out.kept hb).one.below⟩
    · have t1 : decide ((a.s.size : Int) > 300) = false := by simp; omega
      have t2 : decide ((b.s.size : Int) > 300) = false := by simp; omega
      have t3 : (a.kind != b.kind) = true := by simpa using h3
      clear h3
      go_wp2_with fail
      refine (awake_any w3).mono ?_
      rintro e w4 ⟨rfl, hb⟩
      go_wp2
      go_ret
      exact ⟨rfl, (H3.out.kept hb).one.below⟩
    · have t1 : decide ((a.s.size : Int) > 300) = false := by simp; omega
      have t2 : decide ((b.s.size : Int) > 300) = false := by simp; omega
      have t3 : (a.kind != b.kind) = false := by simp [h3]
      have t4 : decide (a.kind < 0) = true := by simp; omega
      clear h3
      go_wp2_with fail
      refine (awake_any w3).mono ?_
      rintro e w4 ⟨rfl, hb⟩
      go_wp2
      go_ret
      exact ⟨rfl, (H3.out.kept hb).one.below⟩
    · have t1 : decide ((a.s.size : Int) > 300) = false := by simp; omega
      have t2 : decide ((b.s.size : Int) > 300) = false := by simp; omega
      have t3 : (a.kind != b.kind) = false := by simp [h3]
      have t4 : decide (a.kind < 0) = false := by simp; omega
      have t5 : decide (a.kind > 3) = true := by simp; omega
      clear h3
      go_wp2_with fail
      refine (awake_any w3).mono ?_
      rintro e w4 ⟨rfl, hb⟩
      go_wp2
      go_ret
      exact ⟨rfl, (H3.out.kept hb).one.below⟩
end Go.Proofs.Ytiifdbagmbikpaa
