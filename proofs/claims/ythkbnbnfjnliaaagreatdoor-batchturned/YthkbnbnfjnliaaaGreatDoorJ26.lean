/- How graphs, messages and numbers come in. No condition. -/
import Derived.Test.YthkbnbnfjnliaaaGreatDoorJ25
import Derived.ProofKit
import Derived.OpenShut
import Derived.ShutString
import Derived.Lib.LaidTab
import Derived.ChangeOld
import Derived.ChangeSame
import Derived.Below
import Derived.Deep.Slices
import Derived.Test.YthkbnbnfjnliaaaGreatDoorJ20
import Derived.Test.YthkbnbnfjnliaaaGreatDoorJ18
import Derived.Test.YthkbnbnfjnliaaaGreatDoorJ12
import Derived.Deep.RegionLaw
import Derived.Deep.AppendLies
import Derived.BigRegion
import Derived.Test.YthkbnbnfjnliaaaGreatDoorJ19
import Derived.Lib.BufferWrite
import Derived.Deep.WholeRow
import Derived.Deep.MidRow
import Derived.Test.YthkbnbnfjnliaaaGreatDoorJ13
namespace Go.Proofs.YthkbnbnfjnliaaaGreatDoor
open Go.ChangeShapes Go.WideShapes Go.ChangeAt Go.RowKit
set_option maxRecDepth 100000

theorem und2 : Tryz.prog.underlying 2 = some (.int .i64) := by kernel_rfl
theorem ce3 : Tryz.prog.cellsOf 3 = 1 := by kernel_rfl
theorem ce2 : Tryz.prog.cellsOf 2 = 1 := by kernel_rfl
theorem ce41 : Tryz.prog.cellsOf 43 = 3 := by kernel_rfl
section
variable {H : Type} {enc : TypeId × Value → H} {W : World} {base b0 : Nat} {r : Reach} {sp : Nat → Bool} {held : Bool} {v : Value} {d : DataW H} {p : List MemPlace}
theorem cells3 {a : Addr} {cs : List Value} (h : W.cells? base a 3 = some cs) : ∀ j u, cs[j]? = some u → W.cell? (a.add j) = some u := by
  unfold World.cells? at h
  split at h
  · intro j u hj
    have hlen : cs.length = 3 := by simpa using Lib.mapM_length h
    have hj3 : j < 3 := by have := (List.getElem?_eq_some_iff.1 hj).1; omega
    obtain ⟨b, hb, hf⟩ := Lib.mapM_at h j j (by simp [hj3])
    rw [hb] at hj
    rw [hf, ← hj]
  · cases h
end
end Go.Proofs.YthkbnbnfjnliaaaGreatDoor
/- Strings cut, as lists of bytes. No condition. -/
namespace Go.Proofs.YthkbnbnfjnliaaaGreatDoor
open Go.RowKit
set_option maxRecDepth 100000

theorem bl_sub (s : ByteArray) (a b : Nat) : bl (sub s a b) = ((bl s).drop a).take (b - a) := by
  unfold bl sub
  rw [ByteArray.data_extract, Array.toList_extract, List.extract_eq_take_drop, List.map_take, List.map_drop]
theorem bl_cut (s : ByteArray) (a : Nat) : bl (cut s a) = (bl s).drop a := by
  have := bl_sub s a s.size
  unfold sub at this
  unfold cut
  rw [this, List.take_of_length_le]
  rw [List.length_drop, bl_length]; omega
end Go.Proofs.YthkbnbnfjnliaaaGreatDoor
/- The contract of the document's own number. No condition. -/
namespace Go.Proofs.YthkbnbnfjnliaaaGreatDoor
open Go.RowKit
set_option maxRecDepth 100000

def RdRel2 (s : ByteArray) (t p u : Value) : Prop := ∃ k v : Nat, k ≤ s.size ∧ k ≤ 9 ∧ v < 128 ^ k ∧ t = .int .u64 (v : Int) ∧ p = .int .u64 ((128 ^ k : Nat) : Int) ∧ u = .int .i64 (k : Int) ∧ Wire.rd (bl s) = Wire.rdFrom k v ((bl s).drop k)
set_option maxRecDepth 100000 in
set_option maxHeartbeats 1000000 in
theorem refNumber_any (s : ByteArray) (w : World) :
    Calls Tryz.prog 60 #[.string s] w fun e w' => e = .returned (rdVal (Wire.rd (bl s))) ∧ w = w' := by
  go_enter Tryz.func60, Tryz.ntmps60
  go_wp2_with fail
  go_loop [5, 6, 7] (fun t p u => RdRel2 s t p u) (fun _ _ u => s.size - (intOf u).toNat)
  case atStart => exact ⟨0, 0, Nat.zero_le _, by omega, by decide, rfl, rfl, rfl, by simp [Wire.rd]⟩
  case round =>
    obtain ⟨k, v, hk, hk9, hv, ht, hp, hu, he⟩ := hrel
    subst ht hp hu
    have HE := Lib.hid he
    clear he
    by_cases hlt : k < s.size
    · have hd := bl_drop s k hlt
      have hc := s[k].toNat_lt
      rw [hd] at HE
      clear hd
      generalize hx : s[k].toNat = c at *
      have hc2 : c < 256 := hc
      clear hc
      by_cases hf : (0 < k ∧ c = 0) ∨ (k = 9 ∧ 1 < c)
      · have HR := Lib.hid (HE.out.trans (Wire.rdFrom_form hf))
        clear HE hv
        generalize 128 ^ k = P at *
        rcases hf with ⟨h1, rfl⟩ | ⟨rfl, h1⟩
        · go_wp2
          go_ret3
          exact ⟨by rw [HR.out]; rfl, rfl⟩
        · have t2 : ((c : Int) == 0) = false := by simp; omega
          go_wp2
          go_ret3
          exact ⟨by rw [HR.out]; rfl, rfl⟩
      · have hdl : c % 128 < 128 := Nat.mod_lt _ (by omega)
        have hcd : (c : Int) % 128 = ((c % 128 : Nat) : Int) := by simp
        have hpl := pow_le k hk9
        have hdp : c % 128 * 128 ^ k + v < 18446744073709551616 := by
          by_cases h9 : k = 9
          · subst h9
            have : c % 128 ≤ 1 := by omega
            omega
          · have h8 := Nat.pow_le_pow_right (n := 128) (by omega) (show k ≤ 8 by omega)
            have : c % 128 * 128 ^ k ≤ 127 * 128 ^ 8 := Nat.mul_le_mul (by omega) h8
            omega
        have hnew : v + c % 128 * 128 ^ k < 128 ^ (k + 1) := by
          rw [Nat.pow_succ]
          have : c % 128 * 128 ^ k ≤ 127 * 128 ^ k := Nat.mul_le_mul_right _ (by omega)
          omega
        have hpm : ((c % 128 : Nat) : Int) * ((128 ^ k : Nat) : Int) = ((c % 128 * 128 ^ k : Nat) : Int) := by simp
        have HNew := Lib.hid hnew
        have HPs := Lib.hid (Nat.pow_succ (n := 128) (m := k))
        by_cases hc1 : c < 128
        · have HR := Lib.hid (HE.out.trans (Wire.rdFrom_last hf hc1))
          clear HE HNew HPs hnew hv
          generalize c % 128 = d at *
          generalize d * 128 ^ k = M at *
          generalize 128 ^ k = P at *
          have hvm : (v : Int) + (M : Int) = ((v + M : Nat) : Int) := by omega
          have hvl : v + M < 18446744073709551616 := by omega
          generalize v + M = V at *
          clear hdp
          by_cases h9 : k = 9
          · subst h9
            have t2 : ((c : Int) == 0) = false := by simp; omega
            have t3 : decide ((1 : Int) < (c : Int)) = false := by simp; omega
            go_wp2
            go_ret3
            exact ⟨by rw [HR.out]; rfl, rfl⟩
          · have t4 : ((k : Int) == 9) = false := by simp; omega
            by_cases h0 : k = 0
            · subst h0
              go_wp2
              go_ret3
              exact ⟨by rw [HR.out]; rfl, rfl⟩
            · have t2 : ((c : Int) == 0) = false := by simp; omega
              go_wp2
              go_ret3
              exact ⟨by rw [HR.out]; rfl, rfl⟩
        · have HR := Lib.hid (HE.out.trans (Wire.rdFrom_more hf hc1))
          have h8 := Nat.pow_le_pow_right (n := 128) (by omega) (show k ≤ 8 by omega)
          have hp8 : 128 ^ k ≤ 72057594037927936 := by omega
          clear HE hnew hv h8 hpl
          generalize c % 128 = d at *
          generalize d * 128 ^ k = M at *
          obtain ⟨P2, hP2⟩ : ∃ P2, P2 = 128 ^ (k + 1) := ⟨_, rfl⟩
          have hp2 : ((128 ^ k : Nat) : Int) * 128 = (P2 : Int) := by rw [hP2, HPs.out]; simp
          have hpb : P2 ≤ 9223372036854775808 := by rw [hP2, HPs.out]; omega
          have HP2 := Lib.hid hP2
          clear hP2
          generalize 128 ^ k = P at *
          have hvm : (v : Int) + (M : Int) = ((v + M : Nat) : Int) := by omega
          have hvl : v + M < 18446744073709551616 := by omega
          generalize v + M = V at *
          clear hdp HPs
          have t4 : ((k : Int) == 9) = false := by simp; omega
          have t2 : ((c : Int) == 0) = false := by simp; omega
          by_cases h0 : k = 0
          · subst h0
            go_wp2
            go_round
            case rel => exact ⟨1, V, by omega, by omega, HNew.out, rfl, by rw [HP2.out], rfl, HR.out⟩
            case measure => simp [intOf]; omega
          · go_wp2
            go_round
            case rel => exact ⟨k + 1, V, by omega, by omega, HNew.out, rfl, by rw [HP2.out], by go_num, HR.out⟩
            case measure => simp [intOf]; omega
    · have hn : (bl s).drop k = [] := List.drop_of_length_le (by rw [bl_length]; omega)
      rw [hn] at HE
      clear hn hv
      generalize 128 ^ k = P at *
      go_wp2
      go_ret3
      exact ⟨by rw [HE.out]; rfl, rfl⟩
end Go.Proofs.YthkbnbnfjnliaaaGreatDoor
/- A field, as the document's answer has it: its cells. No condition. -/
namespace Go.Proofs.YthkbnbnfjnliaaaGreatDoor
open Go.RowKit
set_option maxRecDepth 100000

structure Fld where
  kind : Int
  most : Int
  n : Nat
  i : Int
  s : ByteArray
  h : List Nat
structure Fld.Ok (f : Fld) : Prop where
  k1 : -9223372036854775808 ≤ f.kind
  k2 : f.kind ≤ 9223372036854775807
  m1 : -9223372036854775808 ≤ f.most
  m2 : f.most ≤ 9223372036854775807
  n2 : f.n < 18446744073709551616
  i1 : -9223372036854775808 ≤ f.i
  i2 : f.i ≤ 9223372036854775807
  hl : f.h.length = 32
  hb : ∀ x ∈ f.h, x < 256
def Fld.cells (f : Fld) : List Value := .int .i64 f.kind :: .int .i64 f.most :: .int .u64 (f.n : Int) :: .int .i64 f.i :: .string f.s :: U8 f.h
def Fld.val (f : Fld) : Value := .agg f.cells.toArray
theorem Fld.len {f : Fld} (h : f.Ok) : f.cells.length = 37 := by simp [Fld.cells, h.hl]
/-- The value v is a slice of the fields fs. -/
def Flds (w : World) (v : Value) (fs : List Fld) : Prop :=
  ∃ (A : Option Addr) (c : Nat), v = .slice A fs.length c ∧ fs.length ≤ c ∧ c ≤ maxLen ∧ (∀ f ∈ fs, f.Ok) ∧ (0 < fs.length → ∃ b o, A = some ⟨b, o, none⟩ ∧ b < w.heap.size ∧ ∀ (i : Nat) (f : Fld), fs[i]? = some f → ∀ j u, f.cells[j]? = some u → w.cell? ⟨b, o + i * 37 + j, none⟩ = some u)
end Go.Proofs.YthkbnbnfjnliaaaGreatDoor
/- The contract of Out.Hash. Conditions: 32 bytes; what was written has at most 100000 bytes. -/
namespace Go.Proofs.YthkbnbnfjnliaaaGreatDoor
open Go.RowKit
set_option maxRecDepth 100000

end Go.Proofs.YthkbnbnfjnliaaaGreatDoor
/- The contract of In.Hash. No condition. -/
namespace Go.Proofs.YthkbnbnfjnliaaaGreatDoor
open Go.RowKit
set_option maxRecDepth 100000

theorem und30 : Tryz.prog.underlying 29 = some (.array 32 5) := by kernel_rfl
theorem size30 : (Tryz.prog.info? 29).map (·.size) = some 32 := by kernel_rfl
theorem size30' {l : List Nat} (h : l.length = 32) : (Tryz.prog.info? 29).map (·.size) = some (U8 l).toArray.size := by rw [size30, List.size_toArray, U8_length, h]
def Z32 : List Nat := List.replicate 32 0
end Go.Proofs.YthkbnbnfjnliaaaGreatDoor
/- The contract of the statements' own put: a field written. Conditions: a field's text has at most 300 bytes; what was written at most 100000. -/
namespace Go.Proofs.YthkbnbnfjnliaaaGreatDoor
open Go.RowKit
set_option maxRecDepth 100000

/-- A field's bytes. -/
def Fld.bytes (f : Fld) : List Nat := if f.kind = 0 then Wire.num f.n else if f.kind = 1 then Wire.num (Wire.fold f.i) else if f.kind = 2 then Wire.num f.s.size ++ bl f.s else f.h
end Go.Proofs.YthkbnbnfjnliaaaGreatDoor
/- The contract of the statements' own get: a field read, of a kind. Conditions: at most 100000 bytes are left. -/
namespace Go.Proofs.YthkbnbnfjnliaaaGreatDoor
open Go.RowKit
set_option maxRecDepth 100000

def fn0 (n : Nat) : Fld := ⟨0, 0, n, 0, nil, Z32⟩
def fi1 (i : Int) : Fld := ⟨1, 0, 0, i, nil, Z32⟩
def fs2 (s : ByteArray) : Fld := ⟨2, 0, 0, 0, s, Z32⟩
def fh3 (h : List Nat) : Fld := ⟨3, 0, 0, 0, nil, h⟩
theorem size32 : (Tryz.prog.info? 67).map (·.size) = some 37 := by kernel_rfl
theorem fld_one (f : Fld) : f.cells.toArray.all (·.oneCell') = true := by
  rw [List.all_toArray, List.all_eq_true]
  intro v hv
  unfold Fld.cells at hv
  simp only [List.mem_cons] at hv
  rcases hv with rfl | rfl | rfl | rfl | rfl | hv
  · rfl
  · rfl
  · rfl
  · rfl
  · rfl
  · exact U8_one _ v hv
theorem fld_size {f : Fld} (h : f.h.length = 32) : f.cells.toArray.size = 37 := by simp [Fld.cells, h]
theorem info32 {f : Fld} (h : f.h.length = 32) : (Tryz.prog.info? 67).map (·.size) = some f.cells.toArray.size := by rw [size32, fld_size h]
set_option maxRecDepth 100000 in
theorem built_32 (a0 a1 a2 a3 a4 a5 a6 a7 a8 a9 a10 a11 a12 a13 a14 a15 a16 a17 a18 a19 a20 a21 a22 a23 a24 a25 a26 a27 a28 a29 a30 a31 : Nat) : Tryz.prog.built 67 [(0, .int .i64 3), (5, .agg (U8 [a0, a1, a2, a3, a4, a5, a6, a7, a8, a9, a10, a11, a12, a13, a14, a15, a16, a17, a18, a19, a20, a21, a22, a23, a24, a25, a26, a27, a28, a29, a30, a31]).toArray)] = some (fh3 [a0, a1, a2, a3, a4, a5, a6, a7, a8, a9, a10, a11, a12, a13, a14, a15, a16, a17, a18, a19, a20, a21, a22, a23, a24, a25, a26, a27, a28, a29, a30, a31]).cells.toArray := by kernel_rfl
theorem built_hash (l : List Nat) (h : l.length = 32) : Tryz.prog.built 67 [(0, .int .i64 3), (5, .agg (U8 l).toArray)] = some (fh3 l).cells.toArray := by
  match l, h with
  | [a0, a1, a2, a3, a4, a5, a6, a7, a8, a9, a10, a11, a12, a13, a14, a15, a16, a17, a18, a19, a20, a21, a22, a23, a24, a25, a26, a27, a28, a29, a30, a31], _ => exact built_32 a0 a1 a2 a3 a4 a5 a6 a7 a8 a9 a10 a11 a12 a13 a14 a15 a16 a17 a18 a19 a20 a21 a22 a23 a24 a25 a26 a27 a28 a29 a30 a31
theorem wpList_built {ops : Array Oper} {rest : List Oper} {o : Oper} {a : Act} {w : World} {Q : Exit → Act → World → Prop} (hg : o.guard = none) (t : TypeId) (parts : Array (Nat × Operand)) (ho : o.op = .build t parts) (L : List (Nat × Value)) (cs : Array Value)
    (hp : (parts.map fun (i, x) => (i, a.eval x)).toList = L) (hb : Tryz.prog.built t L = some cs)
    (h : wpList Tryz.prog ops Q rest (a.put o.dst (.agg cs)) w) : wpList Tryz.prog ops Q (o :: rest) a w :=
  wpList_build hg t parts ho (by rw [hp, hb]; rfl) (by rw [hp, hb]; exact h)
end Go.Proofs.YthkbnbnfjnliaaaGreatDoor
/- What is read to its end was written so. Conditions: at most 300 bytes. -/
namespace Go.Proofs.YthkbnbnfjnliaaaGreatDoor
open Go.RowKit
set_option maxRecDepth 100000

theorem Z32_bytes : ∀ x ∈ Z32, x < 256 := fun x hx => by rw [List.eq_of_mem_replicate hx]; omega
theorem fn0_ok (n : Nat) (h : n < 18446744073709551616) : (fn0 n).Ok := ⟨(by show (-9223372036854775808 : Int) ≤ 0; decide), (by show (0 : Int) ≤ 9223372036854775807; decide), (by show (-9223372036854775808 : Int) ≤ 0; decide), (by show (0 : Int) ≤ 9223372036854775807; decide), h, (by show (-9223372036854775808 : Int) ≤ 0; decide), (by show (0 : Int) ≤ 9223372036854775807; decide), rfl, Z32_bytes⟩
theorem fi1_ok (i : Int) (h1 : -9223372036854775808 ≤ i) (h2 : i ≤ 9223372036854775807) : (fi1 i).Ok := ⟨(by show (-9223372036854775808 : Int) ≤ 1; decide), (by show (1 : Int) ≤ 9223372036854775807; decide), (by show (-9223372036854775808 : Int) ≤ 0; decide), (by show (0 : Int) ≤ 9223372036854775807; decide), (by show 0 < 18446744073709551616; decide), h1, h2, rfl, Z32_bytes⟩
end Go.Proofs.YthkbnbnfjnliaaaGreatDoor
/- The contract of Few: whether fields are few and short. Conditions: a slice of fields. -/
namespace Go.Proofs.YthkbnbnfjnliaaaGreatDoor
open Go.RowKit
set_option maxRecDepth 100000

def Fld.short (f : Fld) : Prop := f.s.size ≤ 300 ∧ 0 ≤ f.kind ∧ f.kind ≤ 3
theorem Flds.below {w w' : World} {lv : Value} {fs : List Fld} (h : Flds w lv fs) (hb : Below w.heap.size w w') : Flds w' lv fs := by
  obtain ⟨A, c, e, h1, h2, h3, h4⟩ := h
  refine ⟨A, c, e, h1, h2, h3, fun h0 => ?_⟩
  obtain ⟨b, o, e2, hl, hc⟩ := h4 h0
  exact ⟨b, o, e2, Nat.lt_of_lt_of_le hl hb.size, fun i f hf j u hu => by rw [hb.cell (p := ⟨b, o + i * 37 + j, none⟩) hl]; exact hc i f hf j u hu⟩
end Go.Proofs.YthkbnbnfjnliaaaGreatDoor
/- Fields written are read again, whatever stands behind. Conditions: fields that are short. -/
namespace Go.Proofs.YthkbnbnfjnliaaaGreatDoor
open Go.RowKit
set_option maxRecDepth 100000

end Go.Proofs.YthkbnbnfjnliaaaGreatDoor
