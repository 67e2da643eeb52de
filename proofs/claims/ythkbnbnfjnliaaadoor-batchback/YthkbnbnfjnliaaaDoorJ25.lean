/- The contract of In.Text. Conditions: at most 100000 bytes are left. -/
import Derived.Test.YthkbnbnfjnliaaaDoorJ24
import Derived.Test.YthkbnbnfjnliaaaDoorJ09
import Derived.Test.YthkbnbnfjnliaaaDoorJ14
import Derived.Laws.BitsAllLaws
import Derived.Test.YthkbnbnfjnliaaaDoorJ23
import Derived.Test.YthkbnbnfjnliaaaDoorTTop
namespace Go.Proofs.YthkbnbnfjnliaaaDoor
open Go.RowKit
set_option maxRecDepth 100000

def sub (s : ByteArray) (a b : Nat) : ByteArray := s.extract a b
def nil : ByteArray := ⟨#[]⟩
/-- What Text reads, what is left, what is wrong. -/
def textOf (s : ByteArray) (most : Int) (r : Nat × Nat × Nat) : ByteArray × Nat × Nat := if r.2.2 ≠ 0 then (nil, 0, r.2.2) else if most < (r.1 : Int) then (nil, 0, 22) else if s.size - r.2.1 < r.1 then (nil, 0, 20) else (sub s r.2.1 (r.2.1 + r.1), r.2.1 + r.1, 0)
theorem tc_bad (s : ByteArray) (most : Int) (p q : Nat) (w : World) (hs : s.size ≤ 100000) (h : Has w p 3 [.int .i64 most]) (hm1 : -9223372036854775808 ≤ most) (hm2 : most ≤ 9223372036854775807) (hb : (textOf s most (Wire.rd (bl s))).2.2 ≠ 0) :
    Calls Tryd.prog 37 #[.string s, .pointer (some ⟨p, 0, none⟩), .pointer (some ⟨q, 0, none⟩)] w fun e w' => e = .returned (.tuple #[.int .i64 0, .int .i64 ((textOf s most (Wire.rd (bl s))).2.2 : Int)]) ∧ w = w' := by
  have c0 : w.cell? ⟨p, 0, none⟩ = some (.int .i64 most) := h.cell 0
  have HN := Lib.hid (number_any s w)
  have hlen : (Wire.rd (bl s)).2.2 = 0 → (Wire.rd (bl s)).2.1 ≤ s.size ∧ (Wire.rd (bl s)).1 < 18446744073709551616 := fun h0 => by
    have := Wire.rd_back (bl s) (Wire.rd (bl s)).1 (Wire.rd (bl s)).2.1 (bl_bytes s) (by rw [← h0])
    rw [bl_length] at this
    exact ⟨this.1, this.2.2.2⟩
  clear h
  generalize Wire.rd (bl s) = r at *
  obtain ⟨v, k, y⟩ := r
  unfold textOf at *
  simp only at *
  by_cases hy : y = 0
  · subst hy
    obtain ⟨h1, h2⟩ := hlen rfl
    clear hlen
    rw [if_neg (by omega)] at hb ⊢
    by_cases h3 : most < (v : Int)
    · rw [if_pos h3]
      clear hb
      by_cases h4 : most < 0
      · go_enter Tryd.func37, Tryd.ntmps37
        go_wp2_with fail
        refine HN.out.mono ?_
        rintro e w1 ⟨rfl, rfl⟩
        unfold rdVal
        go_wp2
        go_ret2
        exact ⟨rfl, rfl⟩
      · have t4 : decide (most < 0) = false := by simp; omega
        go_enter Tryd.func37, Tryd.ntmps37
        go_wp2_with fail
        refine HN.out.mono ?_
        rintro e w1 ⟨rfl, rfl⟩
        unfold rdVal
        go_wp2
        go_ret2
        exact ⟨rfl, rfl⟩
    · rw [if_neg h3] at hb ⊢
      by_cases h5 : s.size - k < v
      · rw [if_pos h5]
        have t4 : decide (most < 0) = false := by simp; omega
        clear hb
        go_enter Tryd.func37, Tryd.ntmps37
        go_wp2_with fail
        refine HN.out.mono ?_
        rintro e w1 ⟨rfl, rfl⟩
        unfold rdVal
        go_wp2
        go_ret2
        exact ⟨rfl, rfl⟩
      · rw [if_neg h5] at hb
        exact absurd rfl hb
  · rw [if_pos hy]
    have t1 : ((y : Int) != 0) = true := by simp; omega
    clear hb hlen
    go_enter Tryd.func37, Tryd.ntmps37
    go_wp2_with fail
    refine HN.out.mono ?_
    rintro e w1 ⟨rfl, rfl⟩
    unfold rdVal
    go_wp2
    go_ret2
    exact ⟨rfl, rfl⟩
/-- Behind a clone, stored. -/
def Cl (w : World) (q : Nat) (u : Value) (w' : World) : Prop := ∃ w1, Below w.heap.size w w1 ∧ w' = w1.setCell ⟨q, 0, none⟩ u
set_option maxRecDepth 100000 in
theorem tc_ok (s : ByteArray) (most : Int) (p q : Nat) (u : Value) (w : World) (hs : s.size ≤ 100000) (h : Has w p 3 [.int .i64 most]) (hq : Has w q 9 [u]) (hm1 : -9223372036854775808 ≤ most) (hm2 : most ≤ 9223372036854775807) (hb : (textOf s most (Wire.rd (bl s))).2.2 = 0) :
    Calls Tryd.prog 37 #[.string s, .pointer (some ⟨p, 0, none⟩), .pointer (some ⟨q, 0, none⟩)] w fun e w' => e = .returned (.tuple #[.int .i64 ((textOf s most (Wire.rd (bl s))).2.1 : Int), .int .i64 0]) ∧ Cl w q (.string (textOf s most (Wire.rd (bl s))).1) w' := by
  have c0 : w.cell? ⟨p, 0, none⟩ = some (.int .i64 most) := h.cell 0
  have HN := Lib.hid (number_any s w)
  have hlen : (Wire.rd (bl s)).2.2 = 0 → (Wire.rd (bl s)).2.1 ≤ s.size ∧ (Wire.rd (bl s)).1 < 18446744073709551616 := fun h0 => by
    have := Wire.rd_back (bl s) (Wire.rd (bl s)).1 (Wire.rd (bl s)).2.1 (bl_bytes s) (by rw [← h0])
    rw [bl_length] at this
    exact ⟨this.1, this.2.2.2⟩
  have HQ := Lib.hid hq
  clear h hq
  generalize Wire.rd (bl s) = r at *
  obtain ⟨v, k, y⟩ := r
  unfold textOf at *
  simp only at *
  by_cases hy : y = 0
  · subst hy
    obtain ⟨h1, h2⟩ := hlen rfl
    clear hlen
    rw [if_neg (by omega)] at hb ⊢
    by_cases h3 : most < (v : Int)
    · rw [if_pos h3] at hb; simp at hb
    · rw [if_neg h3] at hb ⊢
      by_cases h5 : s.size - k < v
      · rw [if_pos h5] at hb; simp at hb
      · rw [if_neg h5]
        clear hb
        have t4 : decide (most < 0) = false := by simp; omega
        have hkv : k + v ≤ s.size := by omega
        have HSub := Lib.hid (show (sub s k (k + v)).size ≤ 281474976710656 by unfold sub; rw [ByteArray.size_extract]; omega)
        go_enter Tryd.func37, Tryd.ntmps37
        go_wp2_with fail
        refine HN.out.mono ?_
        rintro e w1 ⟨rfl, rfl⟩
        unfold rdVal
        go_wp2_with fail
        refine (clone_any (sub s k (k + v)) w HSub.out).mono ?_
        rintro e w2 ⟨rfl, hb⟩
        have HB := Lib.hid hb
        have hq2 := HQ.out.below hb HQ.out.lt
        have d0 := hq2.cell 0
        have f0 := hq2.open_ 0
        clear hb hq2
        go_wp2
        go_ret2
        exact ⟨rfl, _, HB.out, rfl⟩
  · rw [if_pos hy] at hb
    exact absurd hb hy
def textRes (s : ByteArray) (x : Nat) (most : Int) : ByteArray × ByteArray × Nat := if x ≠ 0 then (nil, s, x) else ((textOf s most (Wire.rd (bl s))).1, cut s (textOf s most (Wire.rd (bl s))).2.1, (textOf s most (Wire.rd (bl s))).2.2)
theorem cut_zero (s : ByteArray) : cut s 0 = s := by
  unfold cut
  simp
theorem textOf_bad {s : ByteArray} {most : Int} {r : Nat × Nat × Nat} (h : (textOf s most r).2.2 ≠ 0) : (textOf s most r).1 = nil ∧ (textOf s most r).2.1 = 0 := by
  unfold textOf at *
  split at h
  · rename_i h1; rw [if_pos h1]; exact ⟨rfl, rfl⟩
  · rename_i h1; rw [if_neg h1]
    split at h
    · rename_i h2; rw [if_pos h2]; exact ⟨rfl, rfl⟩
    · rename_i h2; rw [if_neg h2]
      split at h
      · rename_i h3; rw [if_pos h3]; exact ⟨rfl, rfl⟩
      · exact absurd rfl h
theorem textOf_le (s : ByteArray) (most : Int) : (textOf s most (Wire.rd (bl s))).2.1 ≤ s.size := by
  have hlen : (Wire.rd (bl s)).2.2 = 0 → (Wire.rd (bl s)).2.1 ≤ s.size := fun h0 => by
    have := Wire.rd_back (bl s) (Wire.rd (bl s)).1 (Wire.rd (bl s)).2.1 (bl_bytes s) (by rw [← h0])
    rw [bl_length] at this
    exact this.1
  generalize Wire.rd (bl s) = r at *
  unfold textOf at *
  split
  · simp
  · rename_i h1
    have := hlen (by omega)
    split
    · simp
    · split
      · simp
      · simp; omega
set_option maxHeartbeats 1000000 in
theorem inText_any (b : Nat) (s : ByteArray) (x : Nat) (most : Int) (w : World) (hs : s.size ≤ 100000) (hm1 : -9223372036854775808 ≤ most) (hm2 : most ≤ 9223372036854775807) (h : In w b s x) :
    Calls Tryd.prog 16 #[.pointer (some ⟨b, 0, none⟩), .int .i64 most] w fun e w' => e = .returned (.string (textRes s x most).1) ∧ Did w b (textRes s x most).2.1 (textRes s x most).2.2 w' := by
  have hmf := mf
  have hP : Has ((w.alloc (.cells #[.int .i64 most] 3)).alloc (.cells #[.string nil] 9)) w.heap.size 3 [.int .i64 most] := (Has.new w 3 [.int .i64 most]).alloc _
  have hQ : Has ((w.alloc (.cells #[.int .i64 most] 3)).alloc (.cells #[.string nil] 9)) (w.heap.size + 1) 9 [.string nil] := Has.new' _ 9 [.string nil] _ _ rfl (by simp)
  have hI : In ((w.alloc (.cells #[.int .i64 most] 3)).alloc (.cells #[.string nil] 9)) b s x := (Has.alloc h _).alloc _
  have hF : Fr b nul w ((w.alloc (.cells #[.int .i64 most] 3)).alloc (.cells #[.string nil] 9)) := ((Fr.refl _ _ _).alloc _).alloc _
  have hne : b ≠ w.heap.size + 1 := by have := h.lt; omega
  by_cases hx : x ≠ 0
  · have HR := Lib.hid (show textRes s x most = (nil, s, x) by unfold textRes; rw [if_pos hx])
    have HI := Lib.hid hI
    have HF := Lib.hid hF
    have c0 := hQ.cell 0
    have HX := Lib.hid hx
    clear h hI hP hQ hne hF hx hm1 hm2
    unfold nil at *
    go_enter Tryd.func16, Tryd.ntmps16
    go_wp2_with fail
    refine (read_not _ b s x _ HX.out HI.out).mono ?_
    rintro e w1 ⟨rfl, rfl⟩
    go_wp2
    go_ret
    refine ⟨by rw [HR.out]; rfl, ?_⟩
    rw [HR.out]
    exact ⟨HI.out, HF.out⟩
  · obtain rfl : x = 0 := by omega
    clear hx
    have hnr : textRes s 0 most = ((textOf s most (Wire.rd (bl s))).1, cut s (textOf s most (Wire.rd (bl s))).2.1, (textOf s most (Wire.rd (bl s))).2.2) := by unfold textRes; rw [if_neg (by omega)]
    by_cases hy : (textOf s most (Wire.rd (bl s))).2.2 = 0
    · have hcl := tc_ok s most w.heap.size (w.heap.size + 1) _ _ hs hP hQ hm1 hm2 hy
      have hle := textOf_le s most
      rw [hy] at hnr
      have HR := Lib.hid hnr
      have hcall := read_ok 37 #[.pointer (some ⟨w.heap.size, 0, none⟩), .pointer (some ⟨w.heap.size + 1, 0, none⟩)] b s (textOf s most (Wire.rd (bl s))).2.1 (Kp w b (w.heap.size + 1) 9 [.string (textOf s most (Wire.rd (bl s))).1]) _ hI hle enter37 (hcl.mono fun e w1 ⟨he, w2, hb, hw⟩ => ⟨he, by
          rw [hw]
          exact Has.far (Has.below hI hb hI.lt) (p := ⟨w.heap.size + 1, 0, none⟩) hne _, by
          rw [hw]
          exact ⟨by simpa using Has.set_ (hQ.below hb hQ.lt) 0 (.string (textOf s most (Wire.rd (bl s))).1), fr_new (hF.of_below hb) (by omega) 0 _, fun e => hne e.symm⟩⟩)
      have HC := Lib.hid hcall
      clear h hI hP hQ hne hF hcl hle hnr hcall hy hm1 hm2
      generalize textOf s most (Wire.rd (bl s)) = r at *
      unfold nil at *
      go_enter Tryd.func16, Tryd.ntmps16
      go_wp2_with fail
      refine HC.out.mono ?_
      rintro e w2 ⟨rfl, w1, hK, hI1, rfl⟩
      have HD := Lib.hid (kp_left (n := r.2.1) hK hI1)
      have c0 := HD.out.2.cell 0
      clear hK hI1
      go_wp2
      go_ret
      refine ⟨by rw [HR.out]; rfl, ?_⟩
      rw [HR.out]
      exact HD.out.1
    · have hcl := tc_bad s most w.heap.size (w.heap.size + 1) _ hs hP hm1 hm2 hy
      obtain ⟨z1, z2⟩ := textOf_bad hy
      rw [z1, z2, cut_zero] at hnr
      have HR := Lib.hid hnr
      have hcall := read_bad 37 #[.pointer (some ⟨w.heap.size, 0, none⟩), .pointer (some ⟨w.heap.size + 1, 0, none⟩)] b s 0 (textOf s most (Wire.rd (bl s))).2.2 (Kp w b (w.heap.size + 1) 9 [.string nil]) _ hI hy enter37 (hcl.mono fun e w1 ⟨he, hw⟩ => ⟨he, by rw [← hw]; exact hI, by rw [← hw]; exact ⟨hQ, hF, fun e => hne e.symm⟩⟩)
      have HC := Lib.hid hcall
      clear h hI hP hQ hne hF hcl hnr hcall hy hm1 hm2 z1 z2
      generalize (textOf s most (Wire.rd (bl s))).2.2 = y at *
      unfold nil at *
      go_enter Tryd.func16, Tryd.ntmps16
      go_wp2_with fail
      refine HC.out.mono ?_
      rintro e w2 ⟨rfl, w1, hK, hI1, rfl⟩
      have HD := Lib.hid (kp_wrong (x := y) hK hI1)
      have c0 := HD.out.2.cell 0
      clear hK hI1
      go_wp2
      go_ret
      refine ⟨by rw [HR.out]; rfl, ?_⟩
      rw [HR.out]
      exact HD.out.1
end Go.Proofs.YthkbnbnfjnliaaaDoor
/- The contracts of NewOut, Out.Num, Done, folded. Conditions: what was written has at most 100000 bytes; a number of 64 bits. -/
namespace Go.Proofs.YthkbnbnfjnliaaaDoor
open Go.RowKit
set_option maxRecDepth 100000

end Go.Proofs.YthkbnbnfjnliaaaDoor
/- The contracts of Out.Int, Out.Text, Out.Hash, Done. Conditions: what was written has at most 50000 bytes. -/
namespace Go.Proofs.YthkbnbnfjnliaaaDoor
open Go.RowKit
set_option maxRecDepth 100000

theorem outInt_any (b : Nat) (n : Int) (v : Value) (l : List Nat) (w : World) (h1 : -9223372036854775808 ≤ n) (h2 : n ≤ 9223372036854775807) (h : Out w b v l) (hl : l.length ≤ 100000) :
    Calls Tryd.prog 49 #[.pointer (some ⟨b, 0, none⟩), .int .i64 n] w fun e w' => e = .returned (.tuple #[]) ∧ Wrote w b v (l ++ Wire.num (Wire.fold n)) w' := by
  have HO := Lib.hid h
  have HF := Lib.hid (Wire.fold_lt n h1 h2)
  clear h
  go_enter Tryd.func49, Tryd.ntmps49
  go_wp2_with fail
  refine (folded_any n w h1 h2).mono ?_
  rintro e w1 ⟨rfl, rfl⟩
  go_wp2_with fail
  refine (outNum_any b (Wire.fold n) v l w HF.out HO.out hl).mono ?_
  rintro e w1 ⟨rfl, hw⟩
  go_wp2
  go_end0
  exact ⟨rfl, hw⟩

/-- A string's bytes behind a row. -/
theorem run_append_str {V : World} {v : Value} {l : List Nat} (hown : V.ownsRow 0 5 1 v l.length (U8 l)) (s : ByteArray) (ty : TypeId) (hl : l.length ≤ 100010) (hs : s.size ≤ 100000) :
    ∃ v2 V2, (Builtin.append_ #[71, 9] ty #[v, .string s]).run Tryd.prog V = .ok v2 V2 ∧ V2.ownsRow 0 5 1 v2 (l ++ bl s).length (U8 (l ++ bl s)) ∧ V.grownBy V2 v.ownBlock ∧ (v2.ownBlock = v.ownBlock ∨ v2.ownBlock = some V.heap.size) := by
  obtain ⟨i0, hi, hz0, hzs, hzb⟩ := info_parts info5w
  obtain ⟨v2, V2, hr, h2, h3, h4⟩ := Lib.run_append_own_string (P := Tryd.prog) V 0 71 9 ty 5 i0 und59 und9 hi hz0 hzs hzb v l.length (U8 l) hown s (by unfold maxLen; omega) (by omega) (Nat.zero_le _)
  refine ⟨v2, V2, hr, by rw [List.length_append, bl_length, U8_append, ← strCells_bl]; exact h2, h3, ?_⟩
  rcases hown.2 with ⟨hv, hn⟩ | ⟨g, cap, cur, hv, _, hh, h1, h5, h6, h7⟩
  · by_cases h0 : s.size = 0
    · left; rw [h4.2 ⟨hv, h0⟩, hv]
    · right
      have hr2 := run_append_nil_string (P := Tryd.prog) V 71 9 ty 5 i0 (.int .u8 0) und59 und9 hi hz0 s (by omega) (by omega) (by rw [hzb]; omega)
      rw [hv] at hr
      rw [hr] at hr2
      injection hr2 with e1 e2
      rw [e1]; simp [Value.ownBlock]
  · by_cases hroom : l.length + s.size ≤ cap
    · left
      have hr2 := Lib.run_append_room_string (P := Tryd.prog) V 71 9 ty 5 i0 und59 und9 hi hzs g l.length cap cur hh s hroom (by omega)
      rw [hv] at hr
      rw [hr] at hr2
      injection hr2 with e1 e2
      rw [e1, hv]; simp [Value.ownBlock]
    · right
      have hr2 := Lib.run_append_grow_string (P := Tryd.prog) V 71 9 ty 5 i0 (.int .u8 0) und59 und9 hi hz0 ⟨g, 0, none⟩ l.length cap (U8 l) (by rw [hzs]; simp) (by rw [hv] at hown; exact hown.cells (g := g) rfl) s (by omega) (by omega) (by rw [hzb]; exact growslice_fits (by omega) (by omega))
      rw [hv] at hr
      rw [hr] at hr2
      injection hr2 with e1 e2
      rw [e1]; simp [Value.ownBlock]
theorem wpList_append_str {ops : Array Oper} {rest : List Oper} {o : Oper} {a : Act} {Q : Exit → Act → World → Prop} {V : World} (hgd : o.guard = none) (sl y : Operand) (ho : o.op = .call { callee := .builtin .append, args := #[sl, y], argTypes := #[71, 9] })
    {v : Value} {l : List Nat} (hs : a.eval sl = v) (h : V.ownsRow 0 5 1 v l.length (U8 l)) (s : ByteArray) (hy : a.eval y = .string s) (hl : l.length ≤ 100010) (hsz : s.size ≤ 100000)
    (hK : ∀ v2 V2, V2.ownsRow 0 5 1 v2 (l ++ bl s).length (U8 (l ++ bl s)) → V.grownBy V2 v.ownBlock → (v2.ownBlock = v.ownBlock ∨ v2.ownBlock = some V.heap.size) → wpList Tryd.prog ops Q rest (a.put o.dst v2) V2) : wpList Tryd.prog ops Q (o :: rest) a V := by
  refine wpList_plain hgd fun K hK' => ?_
  obtain ⟨v', V', hrun, r1, r2, r3⟩ := run_append_str h s o.type hl hsz
  unfold Oper.wp
  simp [execOp, ho, resolve, invoke, builtin, hs, hy, hrun, Result.andThen]
  exact hK' _ _ (hK v' V' r1 r2 r3)

set_option maxHeartbeats 1000000 in
theorem outText_any (b : Nat) (s : ByteArray) (v : Value) (l : List Nat) (w : World) (hs : s.size ≤ 100000) (h : Out w b v l) (hl : l.length ≤ 100000) :
    Calls Tryd.prog 21 #[.pointer (some ⟨b, 0, none⟩), .string s] w fun e w' => e = .returned (.tuple #[]) ∧ Wrote w b v (l ++ (Wire.num s.size ++ bl s)) w' := by
  have HO := Lib.hid h
  clear h
  go_enter Tryd.func21, Tryd.ntmps21
  go_wp2_with fail
  refine (outNum_any b s.size v l w (by omega) HO.out hl).mono ?_
  rintro e w1 ⟨rfl, hw⟩
  obtain ⟨v1, ho, hf, hla⟩ := hw
  have HF := Lib.hid hf
  have HL := Lib.hid hla
  have hn10 := Wire.num_len10 s.size (by omega)
  have hll : (l ++ Wire.num s.size).length ≤ 100010 := by simp; omega
  have c1 : w1.cell? ⟨b, 0, none⟩ = some v1 := ho.1.cell 0
  have HO1 := Lib.hid ho
  have HStep := Lib.hid (fun v2 V2 => out_store (v2 := v2) (V2 := V2) (x := bl s) ho (Below.refl _ _))
  clear hf hla ho hn10
  go_wp2_with (at_builtin; refine wpList_append_str rfl _ _ rfl rfl HO1.out.2 s rfl hll hs ?_; intro v2 V2 hown2 hgr2 hat2; obtain ⟨A2, C2, rfl⟩ := own_shape hown2; obtain ⟨hst, c2, f2⟩ := HStep.out _ V2 hown2 hgr2 hat2)
  go_end0
  refine ⟨rfl, ?_⟩
  have := Wrote.trans HF.out HL.out hst
  simpa using this
end Go.Proofs.YthkbnbnfjnliaaaDoor
/- Layer 3: climb, Deep. Conditions: at most 2 to the 31 leaves; what the closure does is a premise. -/
namespace Go.Proofs.YthkbnbnfjnliaaaDoor
open Go.RowKit
set_option maxRecDepth 100000

end Go.Proofs.YthkbnbnfjnliaaaDoor
