/- Laws of operations for this program: numbers of 32 and 64 bits, rows of whole numbers. No condition. -/
import Derived.Test.YtfomkgppdcghgaaGEng
import Derived.Test.YtfomkgppdcghgaaQMath
import Derived.Laws.BitsAllLaws
namespace Go.Proofs.Ytfomkgppdcghgaa
open Go.RowKit
open Part
set_option maxRecDepth 100000

abbrev Ans (f : FuncId) (args : List Value) (w : World) (Post : Value → World → Prop) : Prop := Calls Try.prog f args.toArray w fun e w' => ∃ v, e = .returned v ∧ Post v w'
theorem und27 : Try.prog.underlying 27 = some (.slice 3) := by kernel_rfl
theorem und22 : Try.prog.underlying 22 = some (.int .u32) := by kernel_rfl
theorem und40 : Try.prog.underlying 40 = some (.int .u64) := by kernel_rfl
theorem und3 : Try.prog.underlying 3 = some (.int .i64) := by kernel_rfl
theorem und4 : Try.prog.underlying 4 = some .bool := by kernel_rfl
theorem inf3 : (Try.prog.info? 3).map (fun i => (i.zero, i.size, i.bytes)) = some (some (.int .i64 0), 1, 8) := by kernel_rfl
theorem siz3 : (Try.prog.info? 3).map (·.size) = some 1 := by kernel_rfl
theorem mixed : Try.prog.follows .mixedOrders = true := by kernel_rfl
theorem goes9 : Goes Try.prog 9 := goes_of Try.func9 (by kernel_rfl) rfl
theorem goes10 : Goes Try.prog 10 := goes_of Try.func10 (by kernel_rfl) rfl
theorem goes11 : Goes Try.prog 11 := goes_of Try.func11 (by kernel_rfl) rfl
theorem goes12 : Goes Try.prog 12 := goes_of Try.func12 (by kernel_rfl) rfl
theorem goes13 : Goes Try.prog 13 := goes_of Try.func13 (by kernel_rfl) rfl
theorem goes14 : Goes Try.prog 14 := goes_of Try.func14 (by kernel_rfl) rfl
theorem goes15 : Goes Try.prog 15 := goes_of Try.func15 (by kernel_rfl) rfl
theorem goes16 : Goes Try.prog 16 := goes_of Try.func16 (by kernel_rfl) rfl
theorem goes17 : Goes Try.prog 17 := goes_of Try.func17 (by kernel_rfl) rfl
theorem goes18 : Goes Try.prog 18 := goes_of Try.func18 (by kernel_rfl) rfl
theorem goes19 : Goes Try.prog 19 := goes_of Try.func19 (by kernel_rfl) rfl
theorem goes20 : Goes Try.prog 20 := goes_of Try.func20 (by kernel_rfl) rfl
theorem goes21 : Goes Try.prog 21 := goes_of Try.func21 (by kernel_rfl) rfl
theorem goes22 : Goes Try.prog 22 := goes_of Try.func22 (by kernel_rfl) rfl
theorem goes23 : Goes Try.prog 23 := goes_of Try.func23 (by kernel_rfl) rfl
section
variable {P : Program} {L : List (Nat × Value)} {w : World} {ty : TypeId}
theorem runs_shr32 {t t' : TypeId} {x y : Operand} {k : IntKind} {a r b : Nat} {i : Int} (hx : vals L x = some (.int .u32 (a : Int))) (hy : vals L y = some (.int k i)) (hi : i = (b : Int)) (hb : b ≤ 32) (hr : a / 2 ^ b = r) : Runs P (.binOp .shr t x y t') ty L w (Is (.int .u32 (r : Int)) w) := by
  subst hi
  exact runs_bin hx hy rfl (by rw [binOp_shr, shift_shr_u32 k (a : Int) (b : Int) (by omega) (by omega), ← hr]; simp)
theorem runs_mul32 {t t' : TypeId} {x y : Operand} {a b r : Nat} (hx : vals L x = some (.int .u32 (a : Int))) (hy : vals L y = some (.int .u32 (b : Int))) (hr : a * b % 4294967296 = r) : Runs P (.binOp .mul t x y t') ty L w (Is (.int .u32 (r : Int)) w) :=
  runs_mul hx hy (by subst hr; simp [IntKind.wrap, IntKind.bits, IntKind.signed])
theorem runs_mul64 {t t' : TypeId} {x y : Operand} {a b r : Nat} (hx : vals L x = some (.int .u64 (a : Int))) (hy : vals L y = some (.int .u64 (b : Int))) (hr : a * b = r) (h : r < 18446744073709551616) : Runs P (.binOp .mul t x y t') ty L w (Is (.int .u64 (r : Int)) w) :=
  runs_mul hx hy (by subst hr; rw [← Int.natCast_mul]; generalize a * b = c at *; simp [IntKind.wrap, IntKind.bits, IntKind.signed]; omega)
theorem runs_rem64 {t t' : TypeId} {x y : Operand} {k : IntKind} {a b r : Nat} (hx : vals L x = some (.int k (a : Int))) (hy : vals L y = some (.int k (b : Int))) (hb : 0 < b) (hr : a % b = r) : Runs P (.binOp .rem t x y t') ty L w (Is (.int k (r : Int)) w) :=
  runs_rem hx hy (by omega) (by subst hr; rw [Int.tmod_eq_emod_of_nonneg (by omega), Int.natCast_emod])
theorem runs_quo64 {t t' : TypeId} {x y : Operand} {a b r : Nat} (hx : vals L x = some (.int .u64 (a : Int))) (hy : vals L y = some (.int .u64 (b : Int))) (hb : 0 < b) (hr : a / b = r) (h : r < 18446744073709551616) : Runs P (.binOp .quo t x y t') ty L w (Is (.int .u64 (r : Int)) w) :=
  runs_quo hx hy (by omega) (by subst hr; rw [Int.tdiv_eq_ediv_of_nonneg (by omega), ← Int.natCast_ediv]; generalize a / b = c at *; simp [IntKind.wrap, IntKind.bits, IntKind.signed]; omega)
theorem runs_xor32 {t t' : TypeId} {x y : Operand} {a b : Nat} (hx : vals L x = some (.int .u32 (a : Int))) (hy : vals L y = some (.int .u32 (b : Int))) (ha : a < 4294967296) (hb : b < 4294967296) : Runs P (.binOp .xor t x y t') ty L w (Is (.int .u32 ((a ^^^ b : Nat) : Int)) w) :=
  runs_xor hx hy (u32_xor_nat a b ha hb)
theorem runs_xor64 {t t' : TypeId} {x y : Operand} {a b : Nat} (hx : vals L x = some (.int .u64 (a : Int))) (hy : vals L y = some (.int .u64 (b : Int))) (ha : a < 4294967296) (hb : b < 4294967296) : Runs P (.binOp .xor t x y t') ty L w (Is (.int .u64 ((a ^^^ b : Nat) : Int)) w) :=
  runs_xor hx hy (u64_xor_nat a b (by omega) (by omega))
end
section
variable {ty : TypeId} {L : List (Nat × Value)} {w : World}
theorem runs_to32 {s : TypeId} {x : Operand} {k : IntKind} {a r : Nat} (hx : vals L x = some (.int k (a : Int))) (hs : (Try.prog.underlying s).isSome = true) (hr : a % 4294967296 = r) : Runs Try.prog (.convert s 22 x) ty L w (Is (.int .u32 (r : Int)) w) :=
  runs_convInt (k' := .u32) hx hs und22 (by subst hr; simp [IntKind.wrap, IntKind.bits, IntKind.signed])
theorem runs_to64 {s : TypeId} {x : Operand} {k : IntKind} {a : Nat} (hx : vals L x = some (.int k (a : Int))) (hs : (Try.prog.underlying s).isSome = true) (h : a < 18446744073709551616) : Runs Try.prog (.convert s 40 x) ty L w (Is (.int .u64 (a : Int)) w) :=
  runs_convInt (k' := .u64) hx hs und40 (by simp [IntKind.wrap, IntKind.bits, IntKind.signed]; omega)
theorem runs_toInt {s : TypeId} {x : Operand} {k : IntKind} {a : Nat} (hx : vals L x = some (.int k (a : Int))) (hs : (Try.prog.underlying s).isSome = true) (h : a < 4294967296) : Runs Try.prog (.convert s 3 x) ty L w (Is (.int .i64 (a : Int)) w) :=
  runs_convInt (k' := .i64) hx hs und3 (by simp [IntKind.wrap, IntKind.bits, IntKind.signed]; omega)
/-- A row of nothing. -/
theorem none_own {B : Nat} (hB : B ≤ w.heap.size) : Runs Try.prog (.buildSlice 27 0 #[]) ty L w (fun v w' => w'.ownsRow B 3 1 v 0 [] ∧ Below w.heap.size w w') := by
  obtain ⟨i3, hi3, hz3, hs3, hb3⟩ := info_parts inf3
  exact (runs_buildNone und27 hi3).mono (by rintro v w3 ⟨rfl, rfl⟩; exact ⟨⟨by simp, .inr ⟨_, 0, #[], rfl, hB, heap_alloc_new _ _, Nat.le_refl _, by unfold maxLen; omega, by simp, by simp⟩⟩, (Below.refl _ _).alloc (Nat.le_refl _) _⟩)
/-- A slice of one number. -/
theorem runs_oneI {x : Operand} {n : Int} (hx : vals L x = some (.int .i64 n)) : Runs Try.prog (.buildSlice 27 1 #[(0, x)]) ty L w (fun v w' => ∃ g2, v = .slice (some ⟨g2, 0, none⟩) 1 1 ∧ Has w' g2 3 [.int .i64 n] ∧ Below w.heap.size w w') := by
  obtain ⟨i5, hi5, hz5, hs5, hb5⟩ := info_parts inf3
  exact (runs_buildSliceG (sz := 1) (pv := [(0, .int .i64 n)]) (by simp [hx]) und27 hi5 hz5 hs5 (by omega) (by omega) (cells := #[.int .i64 n]) (by kernel_rfl)).mono (by rintro v w5 ⟨rfl, rfl⟩; exact ⟨_, rfl, Has.new w 3 [.int .i64 n], (Below.refl _ _).alloc (Nat.le_refl _) _⟩)
/-- One more in a row of numbers. -/
theorem push_own {u : Value} {B g2 k : Nat} {s x : Operand} {sv : Value} {xs : List Value} (hs : vals L s = some sv) (hown : w.ownsRow B 3 1 sv k xs) (hx : vals L x = some (.slice (some ⟨g2, 0, none⟩) 1 1)) (hX : Has w g2 3 [u]) (hu : u.oneCell' = true) (hn : k ≤ 10000000) (hB : B ≤ w.heap.size) :
    Runs Try.prog (.call { callee := .builtin .append, args := #[s, x], argTypes := #[27, 27] }) ty L w (fun v w' => w'.ownsRow B 3 1 v (k + 1) (xs ++ [u]) ∧ Below B w w') := by
  obtain ⟨i3, hi3, hz3, hs3, hb3⟩ := info_parts inf3
  refine (runs_appendN (news := [u]) und27 hi3 hz3 hs3 hb3 rfl (by omega) hs hown hx rfl (fun j v hj => by rw [add_zero_addr, Nat.zero_add, hX.cell]; exact hj) (by intro v hv; rw [List.mem_singleton] at hv; rw [hv]; exact hu) (by unfold maxLen; omega) (by omega) hB (by omega)).mono ?_
  rintro v w' ⟨hown3, hgr3, hne3⟩
  refine ⟨hown3, ?_⟩
  exact below_grown (Below.refl _ _) hgr3 (fun g hg => by rcases hown.2 with ⟨rfl, _⟩ | ⟨g0, cap, _, rfl, hg0, _⟩ <;> simp [Value.ownBlock] at hg; omega) hB
end
theorem owns_at {w : World} {B n : Nat} {e : TypeId} {v : Value} {xs : List Value} (h : w.ownsRow B e 1 v n xs) (hn : 0 < n) : ∃ g c, v = .slice (some ⟨g, 0, none⟩) n c ∧ B ≤ g ∧ g < w.heap.size ∧ w.rangeAt g 0 xs := by
  rcases h.2 with ⟨rfl, h0⟩ | ⟨g, c, cur, rfl, hb, hg, hc1, hc2, hc3, hc4⟩
  · omega
  · refine ⟨g, c, rfl, hb, (Array.getElem?_eq_some_iff.1 hg).1, fun j u hj => ?_⟩
    have hH : Has w g e cur.toList := by unfold Has; rw [hg]
    rw [Nat.zero_add, hH.cell]
    rw [← hc4, List.getElem?_take] at hj
    split at hj
    · exact hj
    · cases hj
theorem owns_slice {w : World} {B n : Nat} {e : TypeId} {v : Value} {xs : List Value} (h : w.ownsRow B e 1 v n xs) : ∃ A c, v = .slice A n c := by
  rcases h.2 with ⟨rfl, h0⟩ | ⟨g, c, cur, rfl, hb, hg, hc1, hc2, hc3, hc4⟩
  · exact ⟨none, 0, by rw [h0]⟩
  · exact ⟨_, c, rfl⟩
/-- A row that was written out. -/
theorem owns_has {w : World} {B g : Nat} {e : TypeId} {xs : List Value} (h : Has w g e xs) (hB : B ≤ g) (hl : xs.length ≤ 1000) : w.ownsRow B e 1 (.slice (some ⟨g, 0, none⟩) xs.length xs.length) xs.length xs :=
  ⟨by simp, .inr ⟨g, xs.length, xs.toArray, rfl, hB, h, Nat.le_refl _, by unfold maxLen; omega, by simp, by simp⟩⟩
theorem owns_empty {w : World} (B : Nat) (e : TypeId) : w.ownsRow B e 1 (.slice none 0 0) 0 [] := ⟨rfl, .inl ⟨rfl, rfl⟩⟩
theorem new_box (w : World) (t : TypeId) (cs : List Value) : Has (w.alloc (.cells cs.toArray t)) w.heap.size t cs ∧ Below w.heap.size w (w.alloc (.cells cs.toArray t)) :=
  ⟨Has.new w t cs, (Below.refl _ _).alloc (Nat.le_refl _) _⟩
end Go.Proofs.Ytfomkgppdcghgaa
