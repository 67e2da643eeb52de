/- Plain mathematics: a vertex as bytes, and read again. No condition. -/
import Derived.Test.YtooeahpkhocaeaaDoorJ00
import Derived.Test.YtooeahpkhocaeaaDoorJ13
import Derived.Test.YtooeahpkhocaeaaDoorJ16
import Derived.Test.YtooeahpkhocaeaaDoorJ15
import Derived.Test.YtooeahpkhocaeaaDoorJ14
import Derived.Deep.RegionLaw
import Derived.Deep.AppendLies
import Derived.BigRegion
import Derived.Lib.BufferWrite
import Derived.Deep.WholeRow
import Derived.Deep.MidRow
namespace Go.Proofs.YtooeahpkhocaeaaDoor
open Wire
set_option maxRecDepth 100000

def rightX (x : Vx) : Bool := decide (0 ≤ x.id) && decide (x.id < 64) && !great x.val && !great x.inn && (x.has || decide (x.inn = 0))
def bitN (b : Bool) : Nat := if b then 1 else 0
/-- Its bytes. -/
def bytesX (x : Vx) : List Nat := num x.id.toNat ++ num (fold x.val) ++ [bitN x.act] ++ [bitN x.has] ++ num (fold x.inn)
/-- So many numbers one by one: they, what is left, the first error. -/
def rdk : Nat → List Nat → List Nat × List Nat × Nat
  | 0, l => ([], l, 0)
  | k + 1, l => if (rd l).2.2 = 0 then ((rd l).1 :: (rdk k (l.drop (rd l).2.1)).1, (rdk k (l.drop (rd l).2.1)).2) else ([], [], (rd l).2.2)
theorem bitN_lt (b : Bool) : bitN b < 128 := by cases b <;> decide
theorem right_parts {x : Vx} (h : rightX x = true) : 0 ≤ x.id ∧ x.id < 64 ∧ great x.val = false ∧ great x.inn = false ∧ (x.has = true ∨ x.inn = 0) := by
  simp [rightX] at h; obtain ⟨⟨⟨⟨h1, h2⟩, h3⟩, h4⟩, h5⟩ := h; exact ⟨h1, h2, h3, h4, h5⟩
theorem fold_small {v : Int} (h : great v = false) : fold v ≤ 2251799813685249 := by
  have := great_no h; unfold fold; split <;> omega
/-- From 5 to 19 bytes. -/
theorem bytesX_size {x : Vx} (h : rightX x = true) : 5 ≤ (bytesX x).length ∧ (bytesX x).length ≤ 19 := by
  obtain ⟨h1, h2, h3, h4, _⟩ := right_parts h
  have f1 := num_le 7 _ (show fold x.val < 128 ^ (7 + 1) by have := fold_small h3; omega)
  have f2 := num_le 7 _ (show fold x.inn < 128 ^ (7 + 1) by have := fold_small h4; omega)
  have p1 := num_pos (fold x.val); have p2 := num_pos (fold x.inn)
  have i1 : (num x.id.toNat).length = 1 := (num_one _).2 (by omega)
  simp only [bytesX, List.length_append, List.length_cons, List.length_nil]
  omega
/-- After i numbers of L: these, and what is left. -/
def RdI (L : List Nat) (i : Nat) (ns l : List Nat) : Prop := rdk 5 L = (ns ++ (rdk (5 - i) l).1, (rdk (5 - i) l).2)
theorem RdI.zero (L : List Nat) : RdI L 0 [] L := rfl
theorem RdI.step {L ns l : List Nat} {i : Nat} (h : RdI L i ns l) (hi : i < 5) (h0 : (rd l).2.2 = 0) : RdI L (i + 1) (ns ++ [(rd l).1]) (l.drop (rd l).2.1) := by
  unfold RdI at h ⊢
  rw [h, show 5 - i = (5 - (i + 1)) + 1 by omega]
  simp only [rdk, h0, if_true, List.append_assoc, List.singleton_append]
theorem RdI.err {L ns l : List Nat} {i : Nat} (h : RdI L i ns l) (hi : i < 5) (h0 : (rd l).2.2 ≠ 0) : (rdk 5 L).2.2 = (rd l).2.2 := by
  unfold RdI at h
  rw [h, show 5 - i = (5 - (i + 1)) + 1 by omega]
  simp only [rdk, h0, if_false]
theorem RdI.all {L ns l : List Nat} (h : RdI L 5 ns l) : rdk 5 L = (ns, l, 0) := by
  unfold RdI at h; rw [h]; simp [rdk]
end Go.Proofs.YtooeahpkhocaeaaDoor
/- Plain mathematics: messages as bytes, and read again. No condition. -/
namespace Go.Proofs.YtooeahpkhocaeaaDoor
open Wire
set_option maxRecDepth 100000

/-- A message's row; the rows of messages, in order; a row as a text; the bytes of messages. -/
def rowM (m : E) : List Nat := if m.1 < 0 ∨ m.2.1 < 0 then [] else num m.1.toNat ++ num m.2.1.toNat ++ num (fold m.2.2)
def rowsM (l : List E) : List (List Nat) := (sortM l).map rowM
theorem rowsM_length (l : List E) : (rowsM l).length = l.length := by simp [rowsM, sortM_length]
theorem rowM_lt (m : E) : ∀ c ∈ rowM m, c < 256 := fun c hc => by
  unfold rowM at hc
  split at hc
  · cases hc
  · simp only [List.mem_append] at hc
    rcases hc with (hc | hc) | hc <;> exact num_bytes _ c hc
/-- A row is of at most 30 bytes. -/
theorem rowM_size {m : E} (h1 : m.1 < 18446744073709551616) (h2 : m.2.1 < 18446744073709551616) (h3 : -9223372036854775808 ≤ m.2.2) (h4 : m.2.2 ≤ 9223372036854775807) : (rowM m).length ≤ 30 := by
  unfold rowM
  split
  · simp
  · have a := num_len10 m.1.toNat (by omega)
    have b := num_len10 m.2.1.toNat (by omega)
    have c := num_len10 (fold m.2.2) (fold_lt _ h3 h4)
    simp only [List.length_append]; omega
end Go.Proofs.YtooeahpkhocaeaaDoor
/- Strings cut, as lists of bytes. No condition. -/
namespace Go.Proofs.YtooeahpkhocaeaaDoor
open Go.RowKit
set_option maxRecDepth 100000

theorem bl_sub (s : ByteArray) (a b : Nat) : bl (sub s a b) = ((bl s).drop a).take (b - a) := by
  unfold bl sub
  rw [ByteArray.data_extract, Array.toList_extract, List.extract_eq_take_drop, List.map_take, List.map_drop]
theorem bl_cut (s : ByteArray) (a : Nat) : bl (cut s a) = (bl s).drop a := by
  have := bl_sub s a s.size
  unfold sub at this
  unfold cut
  rw [this, List.take_of_length_le]
  rw [List.length_drop, bl_length]; omega
end Go.Proofs.YtooeahpkhocaeaaDoor
/- The contract of the document's own number. No condition. -/
namespace Go.Proofs.YtooeahpkhocaeaaDoor
open Go.RowKit
set_option maxRecDepth 100000

def RdRel2 (s : ByteArray) (t p u : Value) : Prop := ∃ k v : Nat, k ≤ s.size ∧ k ≤ 9 ∧ v < 128 ^ k ∧ t = .int .u64 (v : Int) ∧ p = .int .u64 ((128 ^ k : Nat) : Int) ∧ u = .int .i64 (k : Int) ∧ Wire.rd (bl s) = Wire.rdFrom k v ((bl s).drop k)
set_option maxRecDepth 100000 in
set_option maxHeartbeats 1000000 in
theorem refNumber_any (s : ByteArray) (w : World) :
    Calls Tryd.prog 39 #[.string s] w fun e w' => e = .returned (rdVal (Wire.rd (bl s))) ∧ w = w' := by
  go_enter Tryd.func39, Tryd.ntmps39
  go_wp2_with fail
  go_loop [5, 6, 7] (fun t p u => RdRel2 s t p u) (fun _ _ u => s.size - (intOf u).toNat)
  case atStart => exact ⟨0, 0, Nat.zero_le _, by omega, by decide, rfl, rfl, rfl, by simp [Wire.rd]⟩
  case round =>
    obtain ⟨k, v, hk, hk9, hv, ht, hp, hu, he⟩ := hrel
    subst ht hp hu
    have HE := Lib.hid he
    clear he
    by_cases hlt : k < s.size
    · have hd := bl_drop s k hlt
      have hc := s[k].toNat_lt
      rw [hd] at HE
      clear hd
      generalize hx : s[k].toNat = c at *
      have hc2 : c < 256 := hc
      clear hc
      by_cases hf : (0 < k ∧ c = 0) ∨ (k = 9 ∧ 1 < c)
      · have HR := Lib.hid (HE.out.trans (Wire.rdFrom_form hf))
        clear HE hv
        generalize 128 ^ k = P at *
        rcases hf with ⟨h1, rfl⟩ | ⟨rfl, h1⟩
        · go_wp2
          go_ret3
          exact ⟨by rw [HR.out]; rfl, rfl⟩
        · have t2 : ((c : Int) == 0) = false := by simp; omega
          go_wp2
          go_ret3
          exact ⟨by rw [HR.out]; rfl, rfl⟩
      · have hdl : c % 128 < 128 := Nat.mod_lt _ (by omega)
        have hcd : (c : Int) % 128 = ((c % 128 : Nat) : Int) := by simp
        have hpl := pow_le k hk9
        have hdp : c % 128 * 128 ^ k + v < 18446744073709551616 := by
          by_cases h9 : k = 9
          · subst h9
            have : c % 128 ≤ 1 := by omega
            omega
          · have h8 := Nat.pow_le_pow_right (n := 128) (by omega) (show k ≤ 8 by omega)
            have : c % 128 * 128 ^ k ≤ 127 * 128 ^ 8 := Nat.mul_le_mul (by omega) h8
            omega
        have hnew : v + c % 128 * 128 ^ k < 128 ^ (k + 1) := by
          rw [Nat.pow_succ]
          have : c % 128 * 128 ^ k ≤ 127 * 128 ^ k := Nat.mul_le_mul_right _ (by omega)
          omega
        have hpm : ((c % 128 : Nat) : Int) * ((128 ^ k : Nat) : Int) = ((c % 128 * 128 ^ k : Nat) : Int) := by simp
        have HNew := Lib.hid hnew
        have HPs := Lib.hid (Nat.pow_succ (n := 128) (m := k))
        by_cases hc1 : c < 128
        · have HR := Lib.hid (HE.out.trans (Wire.rdFrom_last hf hc1))
          clear HE HNew HPs hnew hv
          generalize c % 128 = d at *
          generalize d * 128 ^ k = M at *
          generalize 128 ^ k = P at *
          have hvm : (v : Int) + (M : Int) = ((v + M : Nat) : Int) := by omega
          have hvl : v + M < 18446744073709551616 := by omega
          generalize v + M = V at *
          clear hdp
          by_cases h9 : k = 9
          · subst h9
            have t2 : ((c : Int) == 0) = false := by simp; omega
            have t3 : decide ((1 : Int) < (c : Int)) = false := by simp; omega
            go_wp2
            go_ret3
            exact ⟨by rw [HR.out]; rfl, rfl⟩
          · have t4 : ((k : Int) == 9) = false := by simp; omega
            by_cases h0 : k = 0
            · subst h0
              go_wp2
              go_ret3
              exact ⟨by rw [HR.out]; rfl, rfl⟩
            · have t2 : ((c : Int) == 0) = false := by simp; omega
              go_wp2
              go_ret3
              exact ⟨by rw [HR.out]; rfl, rfl⟩
        · have HR := Lib.hid (HE.out.trans (Wire.rdFrom_more hf hc1))
          have h8 := Nat.pow_le_pow_right (n := 128) (by omega) (show k ≤ 8 by omega)
          have hp8 : 128 ^ k ≤ 72057594037927936 := by omega
          clear HE hnew hv h8 hpl
          generalize c % 128 = d at *
          generalize d * 128 ^ k = M at *
          obtain ⟨P2, hP2⟩ : ∃ P2, P2 = 128 ^ (k + 1) := ⟨_, rfl⟩
          have hp2 : ((128 ^ k : Nat) : Int) * 128 = (P2 : Int) := by rw [hP2, HPs.out]; simp
          have hpb : P2 ≤ 9223372036854775808 := by rw [hP2, HPs.out]; omega
          have HP2 := Lib.hid hP2
          clear hP2
          generalize 128 ^ k = P at *
          have hvm : (v : Int) + (M : Int) = ((v + M : Nat) : Int) := by omega
          have hvl : v + M < 18446744073709551616 := by omega
          generalize v + M = V at *
          clear hdp HPs
          have t4 : ((k : Int) == 9) = false := by simp; omega
          have t2 : ((c : Int) == 0) = false := by simp; omega
          by_cases h0 : k = 0
          · subst h0
            go_wp2
            go_round
            case rel => exact ⟨1, V, by omega, by omega, HNew.out, rfl, by rw [HP2.out], rfl, HR.out⟩
            case measure => simp [intOf]; omega
          · go_wp2
            go_round
            case rel => exact ⟨k + 1, V, by omega, by omega, HNew.out, rfl, by rw [HP2.out], by go_num, HR.out⟩
            case measure => simp [intOf]; omega
    · have hn : (bl s).drop k = [] := List.drop_of_length_le (by rw [bl_length]; omega)
      rw [hn] at HE
      clear hn hv
      generalize 128 ^ k = P at *
      go_wp2
      go_ret3
      exact ⟨by rw [HE.out]; rfl, rfl⟩
end Go.Proofs.YtooeahpkhocaeaaDoor
/- A field, as the document's answer has it: its cells. No condition. -/
namespace Go.Proofs.YtooeahpkhocaeaaDoor
open Go.RowKit
set_option maxRecDepth 100000

structure Fld where
  kind : Int
  most : Int
  n : Nat
  i : Int
  s : ByteArray
  h : List Nat
structure Fld.Ok (f : Fld) : Prop where
  k1 : -9223372036854775808 ≤ f.kind
  k2 : f.kind ≤ 9223372036854775807
  m1 : -9223372036854775808 ≤ f.most
  m2 : f.most ≤ 9223372036854775807
  n2 : f.n < 18446744073709551616
  i1 : -9223372036854775808 ≤ f.i
  i2 : f.i ≤ 9223372036854775807
  hl : f.h.length = 32
  hb : ∀ x ∈ f.h, x < 256
def Fld.cells (f : Fld) : List Value := .int .i64 f.kind :: .int .i64 f.most :: .int .u64 (f.n : Int) :: .int .i64 f.i :: .string f.s :: U8 f.h
def Fld.val (f : Fld) : Value := .agg f.cells.toArray
theorem Fld.len {f : Fld} (h : f.Ok) : f.cells.length = 37 := by simp [Fld.cells, h.hl]
/-- The value v is a slice of the fields fs. -/
def Flds (w : World) (v : Value) (fs : List Fld) : Prop :=
  ∃ (A : Option Addr) (c : Nat), v = .slice A fs.length c ∧ fs.length ≤ c ∧ c ≤ maxLen ∧ (∀ f ∈ fs, f.Ok) ∧ (0 < fs.length → ∃ b o, A = some ⟨b, o, none⟩ ∧ b < w.heap.size ∧ ∀ (i : Nat) (f : Fld), fs[i]? = some f → ∀ j u, f.cells[j]? = some u → w.cell? ⟨b, o + i * 37 + j, none⟩ = some u)
end Go.Proofs.YtooeahpkhocaeaaDoor
/- The contract of Out.Hash. Conditions: 32 bytes; what was written has at most 100000 bytes. -/
namespace Go.Proofs.YtooeahpkhocaeaaDoor
open Go.RowKit
set_option maxRecDepth 100000

end Go.Proofs.YtooeahpkhocaeaaDoor
/- The contract of In.Hash. No condition. -/
namespace Go.Proofs.YtooeahpkhocaeaaDoor
open Go.RowKit
set_option maxRecDepth 100000

theorem run_copy_hash (w : World) (g : Nat) (s : ByteArray) (cs : List Value) (ty t : TypeId) (hg : Has w g t cs) (hc : cs.length = 32) (hs : 32 ≤ s.size) :
    (Builtin.copy_ #[45, 9] ty #[.slice (some ⟨g, 0, none⟩) 32 32, .string s]).run Tryd.prog w = .ok (goInt 32) (w.setRow g (U8 ((bl s).take 32)).toArray) := by
  have hinfo : (Tryd.prog.info? 5).map (·.size) = some 1 := by
    obtain ⟨i0, hi, hz0, hz1, hz2⟩ := info_parts info5w
    rw [hi]; simp [hz1]
  have hlen : (U8 ((bl s).take 32)).length = 32 := by rw [U8_length, List.length_take, bl_length]; omega
  have hst := run_storeCells_at Tryd.prog g 0 t (U8 ((bl s).take 32)) 0 cs.toArray w hg (by rw [hlen]; simp [hc]) (U8_one _)
  have hmin : Nat.min s.size 32 = 32 := Nat.min_eq_right hs
  have htk : List.take 32 (List.map (fun b : UInt8 => Value.int IntKind.u8 (b.toNat : Int)) s.data.toList) = U8 ((bl s).take 32) := by
    simp [U8, bl, List.map_take]
    rfl
  rw [hlen] at hst
  simp only [Nat.add_zero, List.take_zero, List.nil_append, Nat.zero_add, List.drop_of_length_le (Nat.le_of_eq hc), List.append_nil] at hst
  cases hq : Tryd.prog.info? 5 with
  | none => simp [hq] at hinfo
  | some i =>
    simp [Builtin.copy_, run_underlying und59, Builtin.lenOf, Builtin.firstCells, sizeOf, typeInfo, hq, hmin]
    rw [htk, hst]
    simp [Result.andThen]
theorem und30 : Tryd.prog.underlying 23 = some (.array 32 5) := by kernel_rfl
theorem size30 : (Tryd.prog.info? 23).map (·.size) = some 32 := by kernel_rfl
theorem size30' {l : List Nat} (h : l.length = 32) : (Tryd.prog.info? 23).map (·.size) = some (U8 l).toArray.size := by rw [size30, List.size_toArray, U8_length, h]
def Z32 : List Nat := List.replicate 32 0
theorem hc_ok (s : ByteArray) (p : Nat) (w : World) (hs : 32 ≤ s.size) (h : Has w p 23 (U8 Z32)) :
    Calls Tryd.prog 38 #[.string s, .pointer (some ⟨p, 0, none⟩)] w fun e w' => e = .returned (.tuple #[.int .i64 ((32 : Nat) : Int), .int .i64 0]) ∧ w' = w.setRow p (U8 ((bl s).take 32)).toArray := by
  have hcp := run_copy_hash w p s (U8 Z32) 3 23 h rfl hs
  unfold goInt at hcp
  have t1 : decide ((s.size : Int) < 32) = false := by simp; omega
  clear h
  go_enter Tryd.func38, Tryd.ntmps38
  go_wp2
  go_ret2
  exact ⟨rfl, rfl⟩
theorem hc_bad (s : ByteArray) (p : Nat) (w : World) (hs : s.size < 32) :
    Calls Tryd.prog 38 #[.string s, .pointer (some ⟨p, 0, none⟩)] w fun e w' => e = .returned (.tuple #[.int .i64 ((0 : Nat) : Int), .int .i64 ((20 : Nat) : Int)]) ∧ w = w' := by
  go_enter Tryd.func38, Tryd.ntmps38
  go_wp2
  go_ret2
  exact ⟨rfl, rfl⟩
/-- What Hash reads, what is left, what is wrong. -/
def hashRes (s : ByteArray) (x : Nat) : List Nat × ByteArray × Nat := if x ≠ 0 then (Z32, s, x) else if s.size < 32 then (Z32, s, 20) else ((bl s).take 32, cut s 32, 0)
theorem hash_len (s : ByteArray) (x : Nat) : (hashRes s x).1.length = 32 := by
  unfold hashRes
  split
  · rfl
  · split
    · rfl
    · show ((bl s).take 32).length = 32
      rw [List.length_take, bl_length]; omega
theorem hash_bytes (s : ByteArray) (x : Nat) : ∀ c ∈ (hashRes s x).1, c < 256 := by
  unfold hashRes
  split
  · intro c hc; rw [List.eq_of_mem_replicate hc]; omega
  · split
    · intro c hc; rw [List.eq_of_mem_replicate hc]; omega
    · intro c hc; exact bl_bytes s c (List.mem_of_mem_take hc)
theorem fr_row {b g : Nat} {w w1 : World} (h : Fr b nul w w1) (hg : w.heap.size ≤ g) (cs : Array Value) : Fr b nul w (w1.setRow g cs) :=
  ⟨h.os, h.tape, h.output, by have := h.size; simpa using this, fun k hk hb hv => by rw [setRow_other w1 g k cs (by omega)]; exact h.block k hk hb hv⟩
set_option maxRecDepth 100000 in
set_option maxHeartbeats 1000000 in
/-- Behind the reading: what was read is loaded, and laid as the result. -/
theorem inHash_any (b : Nat) (s : ByteArray) (x : Nat) (w : World) (h : In w b s x) :
    Calls Tryd.prog 25 #[.pointer (some ⟨b, 0, none⟩)] w fun e w' => e = .returned (.agg (U8 (hashRes s x).1).toArray) ∧ Did w b (hashRes s x).2.1 (hashRes s x).2.2 w' := by
  have hmf := mf
  obtain ⟨W, hW⟩ : ∃ W, (w.alloc (.cells (U8 Z32).toArray 23)).alloc (.cells (U8 Z32).toArray 23) = W := ⟨_, rfl⟩
  have hR : Has W w.heap.size 23 (U8 Z32) := by rw [← hW]; exact (Has.new w 23 (U8 Z32)).alloc _
  have hQ : Has W (w.heap.size + 1) 23 (U8 Z32) := by rw [← hW]; exact Has.new' _ 23 (U8 Z32) _ _ rfl (by simp)
  have hI : In W b s x := by rw [← hW]; exact (Has.alloc h _).alloc _
  have hF : Fr b nul w W := by rw [← hW]; exact ((Fr.refl _ _ _).alloc _).alloc _
  have hne : b ≠ w.heap.size + 1 := by have := h.lt; omega
  have hnr : b ≠ w.heap.size := by have := h.lt; omega
  have hall : Calls Tryd.prog 35 #[.pointer (some ⟨b, 0, none⟩), .func (.func 38) #[] #[.pointer (some ⟨w.heap.size + 1, 0, none⟩)]] W fun e w' => e = .returned (.tuple #[]) ∧ Did w b (hashRes s x).2.1 (hashRes s x).2.2 w' ∧ Has w' (w.heap.size + 1) 23 (U8 (hashRes s x).1) ∧ Has w' w.heap.size 23 (U8 Z32) := by
    by_cases hx : x ≠ 0
    · rw [show hashRes s x = (Z32, s, x) by unfold hashRes; rw [if_pos hx]]
      refine (read_not _ b s x W hx hI).mono ?_
      rintro e w1 ⟨rfl, rfl⟩
      exact ⟨rfl, ⟨hI, hF⟩, hQ, hR⟩
    · obtain rfl : x = 0 := by omega
      by_cases hs : s.size < 32
      · rw [show hashRes s 0 = (Z32, s, 20) by unfold hashRes; rw [if_neg (by omega), if_pos hs]]
        refine (read_bad 38 #[.pointer (some ⟨w.heap.size + 1, 0, none⟩)] b s 0 20 (fun w1 => w1 = W) W hI (by omega) enter38 ((hc_bad s (w.heap.size + 1) W hs).mono fun e w1 ⟨he, hw⟩ => ⟨he, by rw [← hw]; exact hI, hw.symm⟩)).mono ?_
        rintro e w2 ⟨rfl, w1, rfl, hI1, rfl⟩
        exact ⟨rfl, ⟨by unfold In; simpa using Has.set_ hI1 1 (.int .i64 ((20 : Nat) : Int)), hF.set 1 _⟩, hQ.far (by simpa using hne.symm) _, hR.far (by simpa using hnr.symm) _⟩
      · rw [show hashRes s 0 = ((bl s).take 32, cut s 32, 0) by unfold hashRes; rw [if_neg (by omega), if_neg hs]]
        refine (read_ok 38 #[.pointer (some ⟨w.heap.size + 1, 0, none⟩)] b s 32 (fun w1 => w1 = W.setRow (w.heap.size + 1) (U8 ((bl s).take 32)).toArray) W hI (by omega) enter38 ((hc_ok s (w.heap.size + 1) W (by omega) hQ).mono fun e w1 ⟨he, hw⟩ => ⟨he, by rw [hw]; exact (setRow_other W _ b _ hne).trans hI, hw⟩)).mono ?_
        rintro e w2 ⟨rfl, w1, rfl, hI1, rfl⟩
        refine ⟨rfl, ⟨by unfold In; simpa using Has.set_ hI1 0 (.string (cut s 32)), (fr_row hF (by omega) _).set 0 _⟩, Has.far (setRow_heap W _ _ _ 23 (0, 0) hQ) (by simpa using hne.symm) _, Has.far ((setRow_other W _ w.heap.size _ (by omega)).trans hR) (by simpa using hnr.symm) _⟩
  have HC := Lib.hid hall
  have HNr := Lib.hid hnr
  have HSz := Lib.hid (size30' (hash_len s x))
  have HLn := Lib.hid (hash_len s x)
  have HW := Lib.hid hW
  clear h hR hQ hI hF hne hnr hall hW
  generalize hashRes s x = r at *
  go_enter Tryd.func25, Tryd.ntmps25
  go_wp2_with fail
  change Calls Tryd.prog 35 _ ((w.alloc (.cells (U8 Z32).toArray 23)).alloc (.cells (U8 Z32).toArray 23)) _
  rw [HW.out]
  refine HC.out.mono ?_
  rintro e w2 ⟨rfl, hd, hq, hr⟩
  have HQ := Lib.hid hq
  have HR := Lib.hid hr
  have HD := Lib.hid hd
  clear hd hq hr HC
  go_wp2_with (first
    | (refine wpList_load_row rfl 23 (.tmp 3) rfl (w.heap.size + 1) rfl 23 _ (0, 0) (.array 32 5) HQ.out und30 rfl HSz.out ?_)
    | (refine wpList_store_row rfl 23 (.tmp 2) (.tmp 7) rfl w.heap.size _ rfl rfl 23 _ HR.out HSz.out (by rw [List.size_toArray, List.size_toArray, U8_length, U8_length, HLn.out]; rfl) (all_oneCell_toArray (U8_one _)) ?_))
  refine bodyPost_ret (results_cell_row rfl _ _ w.heap.size 23 _ (0, 0) (.array 32 5) rfl (setRow_heap w2 _ _ _ 23 _ HR.out) und30 rfl HSz.out) rfl ⟨rfl, ?_⟩
  exact ⟨(setRow_other w2 _ b _ HNr.out).trans HD.out.1, fr_row HD.out.2 (Nat.le_refl _) _⟩
end Go.Proofs.YtooeahpkhocaeaaDoor
/- The contract of the statements' own put: a field written. Conditions: a field's text has at most 300 bytes; what was written at most 100000. -/
namespace Go.Proofs.YtooeahpkhocaeaaDoor
open Go.RowKit
set_option maxRecDepth 100000

/-- A field's bytes. -/
def Fld.bytes (f : Fld) : List Nat := if f.kind = 0 then Wire.num f.n else if f.kind = 1 then Wire.num (Wire.fold f.i) else if f.kind = 2 then Wire.num f.s.size ++ bl f.s else f.h
end Go.Proofs.YtooeahpkhocaeaaDoor
/- The contract of the statements' own get: a field read, of a kind. Conditions: at most 100000 bytes are left. -/
namespace Go.Proofs.YtooeahpkhocaeaaDoor
open Go.RowKit
set_option maxRecDepth 100000

def fn0 (n : Nat) : Fld := ⟨0, 0, n, 0, nil, Z32⟩
def fi1 (i : Int) : Fld := ⟨1, 0, 0, i, nil, Z32⟩
def fs2 (s : ByteArray) : Fld := ⟨2, 0, 0, 0, s, Z32⟩
def fh3 (h : List Nat) : Fld := ⟨3, 0, 0, 0, nil, h⟩
theorem size32 : (Tryd.prog.info? 63).map (·.size) = some 37 := by kernel_rfl
theorem fld_one (f : Fld) : f.cells.toArray.all (·.oneCell') = true := by
  rw [List.all_toArray, List.all_eq_true]
  intro v hv
  unfold Fld.cells at hv
  simp only [List.mem_cons] at hv
  rcases hv with rfl | rfl | rfl | rfl | rfl | hv
  · rfl
  · rfl
  · rfl
  · rfl
  · rfl
  · exact U8_one _ v hv
theorem fld_size {f : Fld} (h : f.h.length = 32) : f.cells.toArray.size = 37 := by simp [Fld.cells, h]
theorem info32 {f : Fld} (h : f.h.length = 32) : (Tryd.prog.info? 63).map (·.size) = some f.cells.toArray.size := by rw [size32, fld_size h]
set_option maxRecDepth 100000 in
theorem built_32 (a0 a1 a2 a3 a4 a5 a6 a7 a8 a9 a10 a11 a12 a13 a14 a15 a16 a17 a18 a19 a20 a21 a22 a23 a24 a25 a26 a27 a28 a29 a30 a31 : Nat) : Tryd.prog.built 63 [(0, .int .i64 3), (5, .agg (U8 [a0, a1, a2, a3, a4, a5, a6, a7, a8, a9, a10, a11, a12, a13, a14, a15, a16, a17, a18, a19, a20, a21, a22, a23, a24, a25, a26, a27, a28, a29, a30, a31]).toArray)] = some (fh3 [a0, a1, a2, a3, a4, a5, a6, a7, a8, a9, a10, a11, a12, a13, a14, a15, a16, a17, a18, a19, a20, a21, a22, a23, a24, a25, a26, a27, a28, a29, a30, a31]).cells.toArray := by kernel_rfl
theorem built_hash (l : List Nat) (h : l.length = 32) : Tryd.prog.built 63 [(0, .int .i64 3), (5, .agg (U8 l).toArray)] = some (fh3 l).cells.toArray := by
  match l, h with
  | [a0, a1, a2, a3, a4, a5, a6, a7, a8, a9, a10, a11, a12, a13, a14, a15, a16, a17, a18, a19, a20, a21, a22, a23, a24, a25, a26, a27, a28, a29, a30, a31], _ => exact built_32 a0 a1 a2 a3 a4 a5 a6 a7 a8 a9 a10 a11 a12 a13 a14 a15 a16 a17 a18 a19 a20 a21 a22 a23 a24 a25 a26 a27 a28 a29 a30 a31
theorem wpList_built {ops : Array Oper} {rest : List Oper} {o : Oper} {a : Act} {w : World} {Q : Exit → Act → World → Prop} (hg : o.guard = none) (t : TypeId) (parts : Array (Nat × Operand)) (ho : o.op = .build t parts) (L : List (Nat × Value)) (cs : Array Value)
    (hp : (parts.map fun (i, x) => (i, a.eval x)).toList = L) (hb : Tryd.prog.built t L = some cs)
    (h : wpList Tryd.prog ops Q rest (a.put o.dst (.agg cs)) w) : wpList Tryd.prog ops Q (o :: rest) a w :=
  wpList_build hg t parts ho (by rw [hp, hb]; rfl) (by rw [hp, hb]; exact h)
end Go.Proofs.YtooeahpkhocaeaaDoor
