/- The contracts of bytes.Compare, hash.Less and the laws own text. Conditions: sums of 32 bytes. -/
import Derived.Test.YtcinhbhagiffgaaDoorRead
import Derived.Lib.BytesEntry
namespace Go.Proofs.YtcinhbhagiffgaaDoor
open Go.RowKit

/-- Which of two sums comes ahead, as the model's entry says it. -/
def cmpS (x y : List Nat) : Int := Extern.BytealgCompare.cmp (S x) (S y)
theorem bytesOf_range {w : World} {b : Nat} {x : List Nat} {c : Nat} (h : w.rangeAt b 0 (U8 x)) : (Extern.Bytes.bytesOf (.slice (some ⟨b, 0, none⟩) x.length c)).run Tryd.prog w = .ok (S x) w := by
  have := Lib.run_loadBytesX (P := Tryd.prog) w (x.map fun n : Nat => (n : Int)) ⟨b, 0, none⟩ ByteArray.empty (fun j u hu => by
    rw [Addr.add_mid]
    rw [List.getElem?_map] at hu
    cases hj : x[j]? with
    | none => rw [hj] at hu; cases hu
    | some n =>
      rw [hj] at hu
      have e : (n : Int) = u := by simpa using hu
      subst e
      exact h j (.int .u8 (n : Int)) (by simp [U8, hj]))
  rw [List.length_map] at this
  rw [Extern.Bytes.bytesOf, this]
  simp [S, Lib.bytesOf]
theorem call_compare {w : World} (b1 b2 c1 c2 : Nat) (x y : List Nat) (h1 : w.rangeAt b1 0 (U8 x)) (h2 : w.rangeAt b2 0 (U8 y)) :
    Sem.run Tryd.prog (callFunc 32 #[.slice (some ⟨b1, 0, none⟩) x.length c1, .slice (some ⟨b2, 0, none⟩) y.length c2]) w = .ok (.value (.int .i64 (cmpS x y))) w := by
  rw [run_callFunc_extern (f := 32) (fn := Tryd.f32) (e := Extern.BytealgCompare.compare) (by kernel_rfl) (by kernel_rfl) (by kernel_rfl) (by kernel_rfl) (by kernel_rfl)]
  have hcmp : ∀ a b : Value, Extern.BytealgCompare.compare #[a, b] = (do pure (goInt (Extern.BytealgCompare.cmp (← Extern.Bytes.bytesOf a) (← Extern.Bytes.bytesOf b)))) := fun _ _ => rfl
  rw [hcmp]
  simp [Sem.run_bind, bytesOf_range h1, bytesOf_range h2, goInt, cmpS]

set_option maxRecDepth 100000 in
set_option maxHeartbeats 1000000 in
theorem compare_any (b1 b2 : Nat) (x y : List Nat) (lx : x.length = 32) (ly : y.length = 32) (w : World) (h1 : w.rangeAt b1 0 (U8 x)) (h2 : w.rangeAt b2 0 (U8 y)) :
    Calls Tryd.prog 29 #[.slice (some ⟨b1, 0, none⟩) 32 32, .slice (some ⟨b2, 0, none⟩) 32 32] w fun e w' => e = .returned (.int .i64 (cmpS x y)) ∧ w' = w := by
  have hc := call_compare b1 b2 32 32 x y h1 h2
  rw [lx, ly] at hc
  clear h1 h2 lx ly
  go_enter Tryd.func29, Tryd.ntmps29
  go_wp2
  go_ret
  exact ⟨rfl, rfl⟩

set_option maxRecDepth 100000 in
set_option maxHeartbeats 1000000 in
theorem less_any (x y : List Nat) (lx : x.length = 32) (ly : y.length = 32) (w : World) :
    Calls Tryd.prog 19 #[.agg (U8 x).toArray, .agg (U8 y).toArray] w fun e w' => e = .returned (.bool (decide (cmpS x y < 0))) ∧ Below w.heap.size w w' := by
  have hX : ∀ n, (((w.alloc (.cells (U8 x).toArray 25)).alloc (.cells (U8 y).toArray 25)).drewN n).rangeAt w.heap.size 0 (U8 x) := fun n => by
    have := ((Has.new w 25 (U8 x)).alloc (.cells (U8 y).toArray 25)).range 0 (U8 x).length
    rw [List.drop_zero, List.take_length] at this
    exact this
  have hY : ∀ n, (((w.alloc (.cells (U8 x).toArray 25)).alloc (.cells (U8 y).toArray 25)).drewN n).rangeAt (w.heap.size + 1) 0 (U8 y) := fun n => by
    have := (Has.new' (w.alloc (.cells (U8 x).toArray 25)) 25 (U8 y) _ (w.heap.size + 1) rfl (by simp)).range 0 (U8 y).length
    rw [List.drop_zero, List.take_length] at this
    exact this
  have HX := Lib.hid hX
  have HY := Lib.hid hY
  have HLx := Lib.hid lx
  have HLy := Lib.hid ly
  clear hX hY lx ly
  go_enter Tryd.func19, Tryd.ntmps19
  go_wp2
  go_quiet ((go_at_call 29; exact Calls.quiet_of_same (compare_any _ _ x y HLx.out HLy.out _ (HX.out _) (HY.out _))))
  go_wp2
  go_ret
  refine ⟨rfl, ?_⟩
  exact below_drewN' (((Below.refl _ _).alloc (Nat.le_refl _) _).alloc (by simp) _) _

theorem conv_has {w : World} {b : Nat} {t : TypeId} {x : List Nat} (h : Has w b t (U8 x)) (c : Nat) : Sem.run Tryd.prog (convert 27 9 (.slice (some ⟨b, 0, none⟩) x.length c)) w = .ok (.string (S x)) w := by
  have := run_convert_bytes_arg (P := Tryd.prog) (w := w) 27 5 und27 (by kernel_rfl) b 0 x.length c (x.map fun n : Nat => (n : Int)) (by simp) (fun i hi => by
    rw [Nat.zero_add, h.cell, U8_get hi]
    simp [hi]) 9 und9
  rw [this]
  simp [strOfNums, S]
set_option maxRecDepth 100000 in
set_option maxHeartbeats 1000000 in
theorem str_any (x : List Nat) (lx : x.length = 32) (w : World) :
    Calls Tryd.prog 12 #[.agg (U8 x).toArray] w fun e w' => e = .returned (.string (S x)) ∧ Below w.heap.size w w' := by
  have hc := conv_has (Has.new w 25 (U8 x)) 32
  rw [lx] at hc
  clear lx
  go_enter Tryd.func12, Tryd.ntmps12
  go_wp2
  go_ret
  exact ⟨rfl, (Below.refl _ _).alloc (Nat.le_refl _) _⟩
end Go.Proofs.YtcinhbhagiffgaaDoor
