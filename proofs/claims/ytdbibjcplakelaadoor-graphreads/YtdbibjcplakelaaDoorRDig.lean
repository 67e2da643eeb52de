/- The document's Digits, walked. Conditions: none of our own. -/
import Derived.Test.YtdbibjcplakelaaDoorGApp
import Derived.Test.YtdbibjcplakelaaDoorEngU
import Derived.Laws.IdiomStrings
import Derived.Laws.Strings2
namespace Go.Proofs.YtdbibjcplakelaaDoor
open Go.RowKit
set_option maxRecDepth 100000

theorem goes35 : Goes Tryd.prog 35 := goes_of Tryd.func35 (by kernel_rfl) rfl
theorem und50 : Tryd.prog.underlying 50 = some (.slice 5) := by kernel_rfl
theorem und5 : Tryd.prog.underlying 5 = some (.int .u8) := by kernel_rfl
theorem inf5 : (Tryd.prog.info? 5).map (fun i => (i.zero, i.size, i.bytes)) = some (some (.int .u8 0), 1, 1) := by kernel_rfl
theorem cat_mk (a b : Bs) : ByteArray.mk a.toArray ++ ByteArray.mk b.toArray = ByteArray.mk (a ++ b).toArray := by
  apply ByteArray.ext
  rw [ByteArray.data_append]
  simp
section
variable {ty : TypeId} {L : List (Nat × Value)} {w : World}
theorem runs_catL {t t' : TypeId} {x y : Operand} {a b : Bs} (hx : vals L x = some (.string ⟨a.toArray⟩)) (hy : vals L y = some (.string ⟨b.toArray⟩)) (hz : a.length + b.length ≤ 1000000) : Runs Tryd.prog (.binOp .add t x y t') ty L w (Is (.string ⟨(a ++ b).toArray⟩) w) :=
  runs_catG hx hy (cat_mk a b) hz
/-- A slice of one byte. -/
theorem runs_oneB {x : Operand} {b : UInt8} (hx : vals L x = some (.int .u8 (b.toNat : Int))) : Runs Tryd.prog (.buildSlice 50 1 #[(0, x)]) ty L w (fun v w' => ∃ g2, v = .slice (some ⟨g2, 0, none⟩) 1 1 ∧ Has w' g2 5 [.int .u8 (b.toNat : Int)] ∧ Below w.heap.size w w') := by
  obtain ⟨i5, hi5, hz5, hs5, hb5⟩ := info_parts inf5
  exact (runs_buildSliceG (sz := 1) (pv := [(0, .int .u8 (b.toNat : Int))]) (by simp [hx]) und50 hi5 hz5 hs5 (by omega) (by omega) (cells := #[.int .u8 (b.toNat : Int)]) (by kernel_rfl)).mono (by rintro v w5 ⟨rfl, rfl⟩; exact ⟨_, rfl, Has.new w 5 [.int .u8 (b.toNat : Int)], (Below.refl _ _).alloc (Nat.le_refl _) _⟩)
theorem runs_toS {x : Operand} {g2 : Nat} {b : UInt8} (hx : vals L x = some (.slice (some ⟨g2, 0, none⟩) 1 1)) (hX : Has w g2 5 [.int .u8 (b.toNat : Int)]) : Runs Tryd.prog (.convert 50 9 x) ty L w (Is (.string ⟨[b].toArray⟩) w) :=
  runs_conv hx (run_convert_bytes_back w 50 9 5 ⟨g2, 0, none⟩ 1 [b] und50 und5 und9 (fun j hj => by
    obtain rfl : j = 0 := by simpa using hj
    rw [add_zero_addr, hX.cell]; rfl))
end
/-- What is left of a number's digits ahead of those that are written. -/
def decD (u : Nat) : Bs := if u = 0 then [] else Lib.decDigits u
theorem dec_step (u : Nat) : Lib.decDigits u = decD (u / 10) ++ [UInt8.ofNat (48 + u % 10)] := by
  unfold decD
  by_cases h : u < 10
  · rw [Lib.decDigits_one h, if_pos (by omega), Nat.mod_eq_of_lt h]; rfl
  · rw [Lib.decDigits, dif_neg h, if_neg (by omega)]
theorem dec_len (u : Nat) (h : u < 1000000000) : (Lib.decDigits u).length ≤ 9 := by rw [Lib.decDigits_length]; exact nDigits_le9 h
/-- Where the loop is. -/
def DigAt (u0 : Nat) (s : Bs) (u : Nat) : Prop := (s = [] ∧ u = u0) ∨ (s ≠ [] ∧ Lib.decDigits u0 = decD u ++ s)
theorem DigAt.step {u0 u : Nat} {s : Bs} (h : DigAt u0 s u) (hg : s = [] ∨ 0 < u) : DigAt u0 ([UInt8.ofNat (48 + u % 10)] ++ s) (u / 10) := by
  refine .inr ⟨by simp, ?_⟩
  rcases h with ⟨rfl, rfl⟩ | ⟨h1, h2⟩
  · rw [List.append_nil]; exact dec_step u
  · rw [h2, ← List.append_assoc, ← dec_step u, decD, if_neg (by have := hg.resolve_left h1; omega)]
theorem DigAt.len {u0 u : Nat} {s : Bs} (h : DigAt u0 s u) (hu : u0 < 1000000000) : s.length ≤ 9 ∧ u < 1000000000 := by
  have hl := dec_len u0 hu
  rcases h with ⟨rfl, rfl⟩ | ⟨_, h2⟩
  · exact ⟨by simp, hu⟩
  · rw [h2, List.length_append] at hl
    refine ⟨by omega, ?_⟩
    by_cases h0 : u = 0
    · omega
    · have h3 : (Lib.decDigits u).length ≤ 9 := by rw [decD, if_neg h0] at hl; omega
      have h4 := dv_lt _ 0 u 0 (dv_dec u) (by omega)
      have h5 : 10 ^ (0 + (Lib.decDigits u).length) ≤ 10 ^ 9 := Nat.pow_le_pow_right (by omega) (by omega)
      omega
theorem DigAt.end_ {u0 u : Nat} {s : Bs} (h : DigAt u0 s u) (h1 : s ≠ []) (h2 : u = 0) : Lib.decDigits u0 = s := by
  rcases h with ⟨h, _⟩ | ⟨_, h⟩
  · exact absurd h h1
  · rw [h, decD, if_pos h2]; rfl
set_option maxHeartbeats 1000000 in
theorem rdig_any (u0 : Nat) (hu : u0 < 1000000000) (w : World) : Ans 35 [.int .i64 (u0 : Int)] w (fun v w' => v = .string ⟨(Lib.decDigits u0).toArray⟩ ∧ Below w.heap.size w w') := by
  refine calls_qx (args := [.int .i64 (u0 : Int)]) 21 Tryd.func35 rfl (by kernel_rfl) (by simp) (fun a hS => ?_)
  refine qx_seq (reg_seq ?_)
  refine seq_is hS (by decide) (runs_assign rfl) (fun a1 hS => ?_)
  refine nil_ok (qx_seq (reg_seq ?_))
  refine seq_is hS (by decide) (runs_assign rfl) (fun a1 hS => ?_)
  refine nil_ok (qx_seq (qx_for (fun m a w' => ∃ (u : Nat) (s : Bs), m = u + (if s = [] then 1 else 0) ∧ DigAt u0 s u ∧ Below w.heap.size w w' ∧ Sees 21 [(0, .int .i64 (u : Int)), (3, .string ⟨s.toArray⟩)] a) (u0 + 1) ⟨u0, [], rfl, .inl ⟨rfl, rfl⟩, Below.refl _ _, hS.only _ ⟨rfl, rfl, trivial⟩⟩ ?_))
  clear hS
  rintro m a w' ⟨u, s, rfl, hD, hB, hS⟩
  obtain ⟨hsl, hul⟩ := hD.len hu
  refine reg_seq ?_
  have body : (s = [] ∨ 0 < u) → ∀ (L : List (Nat × Value)) (a9 : Act), Sees 21 L a9 → look L 0 = some (.int .i64 (u : Int)) → look L 3 = some (.string ⟨s.toArray⟩) → ∀ (X : Nat → Act → World → Prop) (R : Act → World → Prop), ((Tryd.f35.body.bind (blockIn 1)).getD .skip).wp Tryd.prog (Qx (fun a2 w2 => ∃ m', m' < u + (if s = [] then 1 else 0) ∧ (fun m a w' => ∃ (u : Nat) (s : Bs), m = u + (if s = [] then 1 else 0) ∧ DigAt u0 s u ∧ Below w.heap.size w w' ∧ Sees 21 [(0, .int .i64 (u : Int)), (3, .string ⟨s.toArray⟩)] a) m' a2 w2) X R) a9 w' := fun hgo L a9 hS z0 z3 X R => by
    have hS := hS.only [(0, .int .i64 (u : Int)), (3, .string ⟨s.toArray⟩)] ⟨z0, z3, trivial⟩
    refine qx_block (qx_seq (reg_seq ?_))
    refine seq_is hS (by decide) (runs_move rfl) (fun a1 hS => ?_)
    refine seq_is hS (by decide) (runs_rem (r := ((u % 10 : Nat) : Int)) rfl rfl (by omega) rfl) (fun a1 hS => ?_)
    refine seq_is hS (by decide) (runs_add (r := ((48 + u % 10 : Nat) : Int)) rfl rfl (by simp [IntKind.wrap, IntKind.bits, IntKind.signed]; omega)) (fun a1 hS => ?_)
    refine seq_is hS (by decide) (runs_convInt (k' := .u8) (r := ((UInt8.ofNat (48 + u % 10)).toNat : Int)) rfl (by rw [und3]; rfl) und5 (by rw [dig_nat (by omega)]; simp [IntKind.wrap, IntKind.bits, IntKind.signed]; omega)) (fun a1 hS => ?_)
    refine seq_op hS (by decide) (runs_oneB rfl) (fun v4 w4 a4 hp4 hS => ?_)
    obtain ⟨g2, rfl, hX, hB4⟩ := hp4
    have hB := hB.trans (hB4.mono hB.size)
    refine seq_is hS (by decide) (runs_toS rfl hX) (fun a1 hS => ?_)
    refine seq_is hS (by decide) (runs_move rfl) (fun a1 hS => ?_)
    refine seq_is hS (by decide) (runs_catL rfl rfl (by simp; omega)) (fun a1 hS => ?_)
    refine seq_is hS (by decide) (runs_assign rfl) (fun a1 hS => ?_)
    refine nil_ok (reg_seq ?_)
    refine seq_is hS (by decide) (runs_move rfl) (fun a1 hS => ?_)
    refine seq_is hS (by decide) (runs_quo (r := ((u / 10 : Nat) : Int)) rfl rfl (by omega) (by rw [show ((u : Int).tdiv 10) = ((u / 10 : Nat) : Int) from rfl]; simp [IntKind.wrap, IntKind.bits, IntKind.signed]; omega)) (fun a1 hS => ?_)
    refine seq_is hS (by decide) (runs_assign rfl) (fun a1 hS => ?_)
    refine nil_ok ⟨_, ?_, u / 10, [UInt8.ofNat (48 + u % 10)] ++ s, rfl, hD.step hgo, hB, hS.only _ ⟨rfl, rfl, trivial⟩⟩
    rw [if_neg (by simp)]
    rcases hgo with h | h
    · rw [if_pos h]; omega
    · omega
  refine seq_is hS (by decide) (runs_move rfl) (fun a1 hS => ?_)
  by_cases h1 : s = []
  · skip
    refine seq_is hS (by decide) (runs_eqStr (r := true) rfl rfl (by simp [h1])) (fun a1 hS => ?_)
    refine seq_is hS (by decide) (runs_move rfl) (fun a1 hS => ?_)
    refine seq_no hS (by decide) rfl (by decide) rfl rfl (fun a1 hS => ?_)
    refine seq_no hS (by decide) rfl (by decide) rfl rfl (fun a1 hS => ?_)
    refine seq_is hS (by decide) (runs_pick rfl rfl) (fun a1 hS => ?_)
    exact nil_ok ⟨_, hS.eval rfl, fun h => by simp at h, fun _ => body (.inl h1) _ _ hS rfl rfl _ _⟩
  · skip
    refine seq_is hS (by decide) (runs_eqStr (r := false) rfl rfl (by simp [h1])) (fun a1 hS => ?_)
    refine seq_is hS (by decide) (runs_move rfl) (fun a1 hS => ?_)
    refine seq_yis hS (by decide) rfl (by decide) rfl (runs_move rfl) (fun a1 hS => ?_)
    by_cases h2 : (u : Int) > 0
    · skip
      refine seq_yis hS (by decide) rfl (by decide) rfl (runs_gtr (r := true) rfl rfl (by rw [decide_eq_true_eq]; omega)) (fun a1 hS => ?_)
      refine seq_is hS (by decide) (runs_pick rfl rfl) (fun a1 hS => ?_)
      exact nil_ok ⟨_, hS.eval rfl, fun h => by simp at h, fun _ => body (.inr (by omega)) _ _ hS rfl rfl _ _⟩
    · skip
      refine seq_yis hS (by decide) rfl (by decide) rfl (runs_gtr (r := false) rfl rfl (by rw [decide_eq_false_iff_not]; omega)) (fun a1 hS => ?_)
      refine seq_is hS (by decide) (runs_pick rfl rfl) (fun a1 hS => ?_)
      refine nil_ok ⟨_, hS.eval rfl, fun _ => ?_, fun h => by simp at h⟩
      refine qx_seq (reg_seq ?_)
      refine seq_is hS (by decide) (runs_move rfl) (fun a1 hS => ?_)
      refine seq_is hS (by decide) (runs_assign rfl) (fun a1 hS => ?_)
      exact nil_ok (qx_ret (ret1 (t := 2) (by kernel_rfl) hS rfl ⟨_, rfl, by rw [hD.end_ h1 (by omega)], hB⟩))
end Go.Proofs.YtdbibjcplakelaaDoor
