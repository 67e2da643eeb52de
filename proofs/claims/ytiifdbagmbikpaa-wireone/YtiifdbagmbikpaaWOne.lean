/- The walk of WireOne. Conditions: a field. -/
import Derived.Test.YtiifdbagmbikpaaAwake
import Derived.Test.YtiifdbagmbikpaaOneMath
namespace Go.Proofs.Ytiifdbagmbikpaa
open Go.RowKit

theorem done_by (b : Nat) (v : Value) (l : List Nat) (s : ByteArray) (w : World) (hs : S l = s) (h : Out w b v l) :
    Calls Try.prog 16 #[.pointer (some ⟨b, 0, none⟩)] w fun e w' => e = .returned (.string s) ∧ w = w' := by
  rw [← hs]; exact done_any b v l w h
/-- The head of WireOne: the field in a box, what is read, what is written, the anchor. -/
structure OneHead (w w3 : World) (f : Fld) (s : ByteArray) : Prop where
  box : Has w3 w.heap.size 32 f.cells
  inn : In w3 (w.heap.size + 1) s 0
  out : OB w w3 (w.heap.size + 2) (.slice none 0 0) []
theorem OneHead.below {w w3 w4 : World} {f : Fld} {s : ByteArray} (h : OneHead w w3 f s) (hb : Below w3.heap.size w3 w4) : OneHead w w4 f s :=
  ⟨h.box.below hb h.box.lt, Has.below h.inn hb h.inn.lt, ⟨h.out.out.below hb, h.out.hb, h.out.own, h.out.below.trans (hb.mono h.out.below.size)⟩⟩
theorem one_head (w : World) (f : Fld) (s : ByteArray) : OneHead w (((w.alloc (.cells f.cells.toArray 32)).alloc (.cells #[.string s, .int .i64 0] 68)).alloc (.cells #[.slice none 0 0] 61)) f s := by
  have hb : Below w.heap.size w ((w.alloc (.cells f.cells.toArray 32)).alloc (.cells #[.string s, .int .i64 0] 68)) := ((Below.refl _ _).alloc (Nat.le_refl _) _).alloc (by simp) _
  refine ⟨((Has.new w 32 f.cells).alloc _).alloc _, ?_, ?_⟩
  · have := in_new (w.alloc (.cells f.cells.toArray 32)) s
    rw [show (w.alloc (.cells f.cells.toArray 32)).heap.size = w.heap.size + 1 by simp] at this
    exact Has.alloc this _
  · have := OB.new hb
    rwa [show ((w.alloc (.cells f.cells.toArray 32)).alloc (.cells #[.string s, .int .i64 0] 68)).heap.size = w.heap.size + 2 by simp] at this
/-- Behind the reading: what was read lies in a box of its own. -/
structure OneMid (w w6 : World) (g : Fld) (p : Nat) (s : ByteArray) (x : Nat) : Prop where
  box : Has w6 p 32 g.cells
  inn : In w6 (w.heap.size + 1) s x
  out : OB w w6 (w.heap.size + 2) (.slice none 0 0) []
theorem one_mid {w w3 w4 : World} {f g : Fld} {s t : ByteArray} {x : Nat} (h : OneHead w w3 f s) (hd : Did w3 (w.heap.size + 1) t x w4) : OneMid w ((w4.alloc (.cells (fn0 0).cells.toArray 32)).setRow w4.heap.size g.cells.toArray) g w4.heap.size t x := by
  have hz : Has (w4.alloc (.cells (fn0 0).cells.toArray 32)) w4.heap.size 32 (fn0 0).cells := Has.new _ _ _
  have hO : OB w w4 (w.heap.size + 2) (.slice none 0 0) [] := h.out.did hd.2 (by omega) (by omega) (by simp [Value.ownBlock])
  have hb : Below w4.heap.size w4 ((w4.alloc (.cells (fn0 0).cells.toArray 32)).setRow w4.heap.size g.cells.toArray) := by
    have h1 : Below w4.heap.size w4 (w4.alloc (.cells (fn0 0).cells.toArray 32)) := (Below.refl _ _).alloc (Nat.le_refl _) _
    exact ⟨h1.os, h1.tape, h1.output, by simp, fun k hk => by rw [setRow_other _ _ k _ (by omega)]; exact h1.block k hk⟩
  exact ⟨setRow_heap _ _ _ _ 32 (0, 0) hz, Has.below hd.1 hb hd.1.lt, ⟨hO.out.below hb, hO.hb, hO.own, hO.below.trans (hb.mono hO.below.size)⟩⟩
set_option maxRecDepth 100000 in
set_option maxHeartbeats 2000000 in
theorem one_walk (s : ByteArray) (f : Fld) (hf : f.Ok) (w : World) :
    Calls Try.prog 5 #[.string s, f.val] w fun e w' => e = .returned (.bool true) ∧ Below w.heap.size w w' := by
  have HOk := Lib.hid hf
  have HH := Lib.hid (one_head w f s)
  unfold Fld.val
  by_cases hg : s.size ≤ 300 ∧ 0 ≤ f.kind ∧ f.kind ≤ 3
  · obtain ⟨h1, h2, h3⟩ := hg
    have t1 : decide ((s.size : Int) > 300) = false := by simp; omega
    have t2 : decide (f.kind < 0) = false := by simp; omega
    have t3 : decide (f.kind > 3) = false := by simp; omega
    go_enter Try.func5, Try.ntmps5
    go_wp2_with fail
    refine (newIn_any s _).mono ?_
    rintro e w1 ⟨rfl, hw1⟩
    rw [show (w.alloc (.cells f.cells.toArray 32)).heap.size = w.heap.size + 1 by simp]
    have HW1 := Lib.hid hw1
    clear hw1
    go_wp2_with fail
    refine (newOut_any w1).mono ?_
    rintro e w2 ⟨rfl, hw2⟩
    have hz1 : w1.heap.size = w.heap.size + 2 := by rw [HW1.out]; simp
    rw [hz1]
    have H2 : Hid (OneHead w w2 f s) := by show OneHead w w2 f s; rw [hw2, HW1.out]; exact HH.out
    clear hw2 HW1 hz1 HH
    go_wp2_with fail
    refine (awake_any w2).mono ?_
    rintro e w3 ⟨rfl, hb⟩
    have H3 := Lib.hid (H2.out.below hb)
    clear hb H2
    have c0 : w3.cell? ⟨w.heap.size, 0, none⟩ = some (.int .i64 f.kind) := H3.out.box.cell 0
    have HSz := Lib.hid (info32 HOk.out.hl)
    go_wp2_with (refine wpList_load_row rfl 32 (.tmp 3) rfl w.heap.size rfl 32 _ (0, 0) _ H3.out.box Try.underlying32 rfl HSz.out ?_)
    refine (get_any (w.heap.size + 1) s 0 f w3 HOk.out (by omega) H3.out.inn).mono ?_
    rintro e w4 ⟨rfl, hd⟩
    have hgo := get_ok s 0 f
    have HBack := Lib.hid (one_back s f)
    have HG := Lib.hid hgo
    have HM := Lib.hid (one_mid (g := (getRes s 0 f).1) H3.out hd)
    have HZ : Hid (Has (w4.alloc (.cells (fn0 0).cells.toArray 32)) w4.heap.size 32 (fn0 0).cells) := Has.new _ _ _
    have HSg := Lib.hid (info32 hgo.1.hl)
    have HEq := Lib.hid ((fld_size (f := fn0 0) rfl).trans (fld_size hgo.1.hl).symm)
    have HSs : Hid (s.size ≤ 300) := h1
    clear hd hgo H3 c0 HSz HOk h1 h2 h3 t1 t2 t3
    generalize getRes s 0 f = r at *
    unfold Fld.val
    go_wp2_with (refine wpList_store_row rfl 32 (.tmp 7) (.tmp 39) rfl w4.heap.size r.1.cells.toArray rfl rfl 32 _ HZ.out HSg.out HEq.out (fld_one _) ?_)
    change Calls Try.prog 21 _ ((w4.alloc (.cells (fn0 0).cells.toArray 32)).setRow w4.heap.size r.1.cells.toArray) _
    clear HZ
    generalize (w4.alloc (.cells (fn0 0).cells.toArray 32)).setRow w4.heap.size r.1.cells.toArray = W6 at *
    refine (end_any (w.heap.size + 1) r.2.1 r.2.2 W6 HM.out.inn).mono ?_
    rintro e w7 ⟨rfl, rfl⟩
    by_cases hz : endOf r.2.1 r.2.2 = 0
    · have HS := Lib.hid (HBack.out hz)
      rw [hz]
      clear hz HBack
      go_wp2_with (refine wpList_load_row rfl 32 (.tmp 7) rfl w4.heap.size rfl 32 _ (0, 0) _ HM.out.box Try.underlying32 rfl HSg.out ?_)
      refine (put_any (w.heap.size + 2) r.1 _ _ W6 HG.out.1 (by have := HG.out.2; have := HSs.out; omega) HM.out.out.out (by simp)).mono ?_
      rintro e w7 ⟨rfl, hw⟩
      obtain ⟨v7, ho, _, _⟩ := HM.out.out.wrote hw
      rw [List.nil_append] at ho
      have H7 := Lib.hid ho
      clear hw ho
      go_wp2_with fail
      refine (done_by (w.heap.size + 2) v7 _ s w7 HS.out H7.out.out).mono ?_
      rintro e w8 ⟨rfl, rfl⟩
      go_wp2
      go_ret
      exact ⟨rfl, H7.out.below⟩
    · have t5 : (((endOf r.2.1 r.2.2 : Nat) : Int) != 0) = true := by simp; omega
      clear HBack
      generalize endOf r.2.1 r.2.2 = y at *
      go_wp2
      go_ret
      exact ⟨rfl, HM.out.out.below⟩
  · have hor : (300 < s.size) ∨ (¬ 300 < s.size ∧ f.kind < 0) ∨ (¬ 300 < s.size ∧ ¬ f.kind < 0 ∧ 3 < f.kind) := by omega
    clear hg
    go_enter Try.func5, Try.ntmps5
    go_wp2_with fail
    refine (newIn_any s _).mono ?_
    rintro e w1 ⟨rfl, hw1⟩
    rw [show (w.alloc (.cells f.cells.toArray 32)).heap.size = w.heap.size + 1 by simp]
    have HW1 := Lib.hid hw1
    clear hw1
    go_wp2_with fail
    refine (newOut_any w1).mono ?_
    rintro e w2 ⟨rfl, hw2⟩
    have hz1 : w1.heap.size = w.heap.size + 2 := by rw [HW1.out]; simp
    rw [hz1]
    have H2 : Hid (OneHead w w2 f s) := by show OneHead w w2 f s; rw [hw2, HW1.out]; exact HH.out
    clear hw2 HW1 hz1 HH
    go_wp2_with fail
    refine (awake_any w2).mono ?_
    rintro e w3 ⟨rfl, hb⟩
    have H3 := Lib.hid (H2.out.below hb)
    clear hb H2
    have c0 : w3.cell? ⟨w.heap.size, 0, none⟩ = some (.int .i64 f.kind) := H3.out.box.cell 0
    rcases hor with h1 | ⟨h1, h2⟩ | ⟨h1, h2, h3⟩
    · have t1 : decide ((s.size : Int) > 300) = true := by simp; omega
      go_wp2_with fail
      refine (awake_any w3).mono ?_
      rintro e w4 ⟨rfl, hb⟩
      go_wp2
      go_ret
      exact ⟨rfl, (H3.out.below hb).out.below⟩
    · have t1 : decide ((s.size : Int) > 300) = false := by simp; omega
      have t2 : decide (f.kind < 0) = true := by simp; omega
      go_wp2_with fail
      refine (awake_any w3).mono ?_
      rintro e w4 ⟨rfl, hb⟩
      go_wp2
      go_ret
      exact ⟨rfl, (H3.out.below hb).out.below⟩
    · have t1 : decide ((s.size : Int) > 300) = false := by simp; omega
      have t2 : decide (f.kind < 0) = false := by simp; omega
      have t3 : decide (f.kind > 3) = true := by simp; omega
      go_wp2_with fail
      refine (awake_any w3).mono ?_
      rintro e w4 ⟨rfl, hb⟩
      go_wp2
      go_ret
      exact ⟨rfl, (H3.out.below hb).out.below⟩
end Go.Proofs.Ytiifdbagmbikpaa
