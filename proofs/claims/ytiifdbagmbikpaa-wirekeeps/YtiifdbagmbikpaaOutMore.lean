/- The contracts of Out.Int, Out.Text, Out.Hash, Done. Conditions: what was written has at most 50000 bytes. -/
import Derived.Test.YtiifdbagmbikpaaOutNum
import Derived.Test.YtiifdbagmbikpaaFolds
namespace Go.Proofs.Ytiifdbagmbikpaa
open Go.RowKit

theorem outInt_any (b : Nat) (n : Int) (v : Value) (l : List Nat) (w : World) (h1 : -9223372036854775808 ≤ n) (h2 : n ≤ 9223372036854775807) (h : Out w b v l) (hl : l.length ≤ 100000) :
    Calls Try.prog 25 #[.pointer (some ⟨b, 0, none⟩), .int .i64 n] w fun e w' => e = .returned (.tuple #[]) ∧ Wrote w b v (l ++ Wire.num (Wire.fold n)) w' := by
  have HO := Lib.hid h
  have HF := Lib.hid (Wire.fold_lt n h1 h2)
  clear h
  go_enter Try.func25, Try.ntmps25
  go_wp2_with fail
  refine (folded_any n w h1 h2).mono ?_
  rintro e w1 ⟨rfl, rfl⟩
  go_wp2_with fail
  refine (outNum_any b (Wire.fold n) v l w HF.out HO.out hl).mono ?_
  rintro e w1 ⟨rfl, hw⟩
  go_wp2
  go_end0
  exact ⟨rfl, hw⟩

/-- A string's bytes behind a row. -/
theorem run_append_str {V : World} {v : Value} {l : List Nat} (hown : V.ownsRow 0 5 1 v l.length (U8 l)) (s : ByteArray) (ty : TypeId) (hl : l.length ≤ 100010) (hs : s.size ≤ 100000) :
    ∃ v2 V2, (Builtin.append_ #[59, 9] ty #[v, .string s]).run Try.prog V = .ok v2 V2 ∧ V2.ownsRow 0 5 1 v2 (l ++ bl s).length (U8 (l ++ bl s)) ∧ V.grownBy V2 v.ownBlock ∧ (v2.ownBlock = v.ownBlock ∨ v2.ownBlock = some V.heap.size) := by
  obtain ⟨i0, hi, hz0, hzs, hzb⟩ := info_parts info5
  obtain ⟨v2, V2, hr, h2, h3, h4⟩ := Lib.run_append_own_string (P := Try.prog) V 0 59 9 ty 5 i0 und59 und9 hi hz0 hzs hzb v l.length (U8 l) hown s (by unfold maxLen; omega) (by omega) (Nat.zero_le _)
  refine ⟨v2, V2, hr, by rw [List.length_append, bl_length, U8_append, ← strCells_bl]; exact h2, h3, ?_⟩
  rcases hown.2 with ⟨hv, hn⟩ | ⟨g, cap, cur, hv, _, hh, h1, h5, h6, h7⟩
  · by_cases h0 : s.size = 0
    · left; rw [h4.2 ⟨hv, h0⟩, hv]
    · right
      have hr2 := run_append_nil_string (P := Try.prog) V 59 9 ty 5 i0 (.int .u8 0) und59 und9 hi hz0 s (by omega) (by omega) (by rw [hzb]; omega)
      rw [hv] at hr
      rw [hr] at hr2
      injection hr2 with e1 e2
      rw [e1]; simp [Value.ownBlock]
  · by_cases hroom : l.length + s.size ≤ cap
    · left
      have hr2 := Lib.run_append_room_string (P := Try.prog) V 59 9 ty 5 i0 und59 und9 hi hzs g l.length cap cur hh s hroom (by omega)
      rw [hv] at hr
      rw [hr] at hr2
      injection hr2 with e1 e2
      rw [e1, hv]; simp [Value.ownBlock]
    · right
      have hr2 := Lib.run_append_grow_string (P := Try.prog) V 59 9 ty 5 i0 (.int .u8 0) und59 und9 hi hz0 ⟨g, 0, none⟩ l.length cap (U8 l) (by rw [hzs]; simp) (by rw [hv] at hown; exact hown.cells (g := g) rfl) s (by omega) (by omega) (by rw [hzb]; exact growslice_fits (by omega) (by omega))
      rw [hv] at hr
      rw [hr] at hr2
      injection hr2 with e1 e2
      rw [e1]; simp [Value.ownBlock]
theorem wpList_append_str {ops : Array Oper} {rest : List Oper} {o : Oper} {a : Act} {Q : Exit → Act → World → Prop} {V : World} (hgd : o.guard = none) (sl y : Operand) (ho : o.op = .call { callee := .builtin .append, args := #[sl, y], argTypes := #[59, 9] })
    {v : Value} {l : List Nat} (hs : a.eval sl = v) (h : V.ownsRow 0 5 1 v l.length (U8 l)) (s : ByteArray) (hy : a.eval y = .string s) (hl : l.length ≤ 100010) (hsz : s.size ≤ 100000)
    (hK : ∀ v2 V2, V2.ownsRow 0 5 1 v2 (l ++ bl s).length (U8 (l ++ bl s)) → V.grownBy V2 v.ownBlock → (v2.ownBlock = v.ownBlock ∨ v2.ownBlock = some V.heap.size) → wpList Try.prog ops Q rest (a.put o.dst v2) V2) : wpList Try.prog ops Q (o :: rest) a V := by
  refine wpList_plain hgd fun K hK' => ?_
  obtain ⟨v', V', hrun, r1, r2, r3⟩ := run_append_str h s o.type hl hsz
  unfold Oper.wp
  simp [execOp, ho, resolve, invoke, builtin, hs, hy, hrun, Result.andThen]
  exact hK' _ _ (hK v' V' r1 r2 r3)

set_option maxHeartbeats 1000000 in
theorem outText_any (b : Nat) (s : ByteArray) (v : Value) (l : List Nat) (w : World) (hs : s.size ≤ 100000) (h : Out w b v l) (hl : l.length ≤ 100000) :
    Calls Try.prog 26 #[.pointer (some ⟨b, 0, none⟩), .string s] w fun e w' => e = .returned (.tuple #[]) ∧ Wrote w b v (l ++ (Wire.num s.size ++ bl s)) w' := by
  have HO := Lib.hid h
  clear h
  go_enter Try.func26, Try.ntmps26
  go_wp2_with fail
  refine (outNum_any b s.size v l w (by omega) HO.out hl).mono ?_
  rintro e w1 ⟨rfl, hw⟩
  obtain ⟨v1, ho, hf, hla⟩ := hw
  have HF := Lib.hid hf
  have HL := Lib.hid hla
  have hn10 := Wire.num_len10 s.size (by omega)
  have hll : (l ++ Wire.num s.size).length ≤ 100010 := by simp; omega
  have c1 : w1.cell? ⟨b, 0, none⟩ = some v1 := ho.1.cell 0
  have HO1 := Lib.hid ho
  have HStep := Lib.hid (fun v2 V2 => out_store (v2 := v2) (V2 := V2) (x := bl s) ho (Below.refl _ _))
  clear hf hla ho hn10
  go_wp2_with (at_builtin; refine wpList_append_str rfl _ _ rfl rfl HO1.out.2 s rfl hll hs ?_; intro v2 V2 hown2 hgr2 hat2; obtain ⟨A2, C2, rfl⟩ := own_shape hown2; obtain ⟨hst, c2, f2⟩ := HStep.out _ V2 hown2 hgr2 hat2)
  go_end0
  refine ⟨rfl, ?_⟩
  have := Wrote.trans HF.out HL.out hst
  simpa using this
end Go.Proofs.Ytiifdbagmbikpaa
