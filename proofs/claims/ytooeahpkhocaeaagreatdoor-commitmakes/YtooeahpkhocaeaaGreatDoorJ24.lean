/- A field, as the document's answer has it: its cells. No condition. -/
import Derived.Test.YtooeahpkhocaeaaGreatDoorJ12
import Derived.Test.YtooeahpkhocaeaaGreatDoorJ19
import Derived.Lib.BufferWrite
import Derived.Deep.WholeRow
import Derived.Test.YtooeahpkhocaeaaGreatDoorJ08
import Derived.Laws.BitsAllLaws
import Derived.Deep.RegionLaw
import Derived.Deep.AppendLies
import Derived.BigRegion
import Derived.Deep.MidRow
import Derived.Test.YtooeahpkhocaeaaGreatDoorJ23
import Derived.Test.YtooeahpkhocaeaaGreatDoorJ13
import Derived.Test.YtooeahpkhocaeaaGreatDoorJ16
import Derived.Test.YtooeahpkhocaeaaGreatDoorJ20
import Derived.Test.YtooeahpkhocaeaaGreatDoorJ18
namespace Go.Proofs.YtooeahpkhocaeaaGreatDoor
open Go.RowKit
set_option maxRecDepth 100000

structure Fld where
  kind : Int
  most : Int
  n : Nat
  i : Int
  s : ByteArray
  h : List Nat
structure Fld.Ok (f : Fld) : Prop where
  k1 : -9223372036854775808 ≤ f.kind
  k2 : f.kind ≤ 9223372036854775807
  m1 : -9223372036854775808 ≤ f.most
  m2 : f.most ≤ 9223372036854775807
  n2 : f.n < 18446744073709551616
  i1 : -9223372036854775808 ≤ f.i
  i2 : f.i ≤ 9223372036854775807
  hl : f.h.length = 32
  hb : ∀ x ∈ f.h, x < 256
def Fld.cells (f : Fld) : List Value := .int .i64 f.kind :: .int .i64 f.most :: .int .u64 (f.n : Int) :: .int .i64 f.i :: .string f.s :: U8 f.h
def Fld.val (f : Fld) : Value := .agg f.cells.toArray
theorem Fld.len {f : Fld} (h : f.Ok) : f.cells.length = 37 := by simp [Fld.cells, h.hl]
/-- The value v is a slice of the fields fs. -/
def Flds (w : World) (v : Value) (fs : List Fld) : Prop :=
  ∃ (A : Option Addr) (c : Nat), v = .slice A fs.length c ∧ fs.length ≤ c ∧ c ≤ maxLen ∧ (∀ f ∈ fs, f.Ok) ∧ (0 < fs.length → ∃ b o, A = some ⟨b, o, none⟩ ∧ b < w.heap.size ∧ ∀ (i : Nat) (f : Fld), fs[i]? = some f → ∀ j u, f.cells[j]? = some u → w.cell? ⟨b, o + i * 37 + j, none⟩ = some u)
end Go.Proofs.YtooeahpkhocaeaaGreatDoor
/- The contract of In.Hash. No condition. -/
namespace Go.Proofs.YtooeahpkhocaeaaGreatDoor
open Go.RowKit
set_option maxRecDepth 100000

theorem run_copy_hash (w : World) (g : Nat) (s : ByteArray) (cs : List Value) (ty t : TypeId) (hg : Has w g t cs) (hc : cs.length = 32) (hs : 32 ≤ s.size) :
    (Builtin.copy_ #[65, 9] ty #[.slice (some ⟨g, 0, none⟩) 32 32, .string s]).run Tryz.prog w = .ok (goInt 32) (w.setRow g (U8 ((bl s).take 32)).toArray) := by
  have hinfo : (Tryz.prog.info? 5).map (·.size) = some 1 := by
    obtain ⟨i0, hi, hz0, hz1, hz2⟩ := info_parts info5w
    rw [hi]; simp [hz1]
  have hlen : (U8 ((bl s).take 32)).length = 32 := by rw [U8_length, List.length_take, bl_length]; omega
  have hst := run_storeCells_at Tryz.prog g 0 t (U8 ((bl s).take 32)) 0 cs.toArray w hg (by rw [hlen]; simp [hc]) (U8_one _)
  have hmin : Nat.min s.size 32 = 32 := Nat.min_eq_right hs
  have htk : List.take 32 (List.map (fun b : UInt8 => Value.int IntKind.u8 (b.toNat : Int)) s.data.toList) = U8 ((bl s).take 32) := by
    simp [U8, bl, List.map_take]
    rfl
  rw [hlen] at hst
  simp only [Nat.add_zero, List.take_zero, List.nil_append, Nat.zero_add, List.drop_of_length_le (Nat.le_of_eq hc), List.append_nil] at hst
  cases hq : Tryz.prog.info? 5 with
  | none => simp [hq] at hinfo
  | some i =>
    simp [Builtin.copy_, run_underlying und59, Builtin.lenOf, Builtin.firstCells, sizeOf, typeInfo, hq, hmin]
    rw [htk, hst]
    simp [Result.andThen]
theorem und30 : Tryz.prog.underlying 25 = some (.array 32 5) := by kernel_rfl
theorem size30 : (Tryz.prog.info? 25).map (·.size) = some 32 := by kernel_rfl
theorem size30' {l : List Nat} (h : l.length = 32) : (Tryz.prog.info? 25).map (·.size) = some (U8 l).toArray.size := by rw [size30, List.size_toArray, U8_length, h]
def Z32 : List Nat := List.replicate 32 0
/-- What Hash reads, what is left, what is wrong. -/
def hashRes (s : ByteArray) (x : Nat) : List Nat × ByteArray × Nat := if x ≠ 0 then (Z32, s, x) else if s.size < 32 then (Z32, s, 20) else ((bl s).take 32, cut s 32, 0)
theorem hash_len (s : ByteArray) (x : Nat) : (hashRes s x).1.length = 32 := by
  unfold hashRes
  split
  · rfl
  · split
    · rfl
    · show ((bl s).take 32).length = 32
      rw [List.length_take, bl_length]; omega
theorem hash_bytes (s : ByteArray) (x : Nat) : ∀ c ∈ (hashRes s x).1, c < 256 := by
  unfold hashRes
  split
  · intro c hc; rw [List.eq_of_mem_replicate hc]; omega
  · split
    · intro c hc; rw [List.eq_of_mem_replicate hc]; omega
    · intro c hc; exact bl_bytes s c (List.mem_of_mem_take hc)
theorem fr_row {b g : Nat} {w w1 : World} (h : Fr b nul w w1) (hg : w.heap.size ≤ g) (cs : Array Value) : Fr b nul w (w1.setRow g cs) :=
  ⟨h.os, h.tape, h.output, by have := h.size; simpa using this, fun k hk hb hv => by rw [setRow_other w1 g k cs (by omega)]; exact h.block k hk hb hv⟩
end Go.Proofs.YtooeahpkhocaeaaGreatDoor
/- The contract of the statements' own put: a field written. Conditions: a field's text has at most 300 bytes; what was written at most 100000. -/
namespace Go.Proofs.YtooeahpkhocaeaaGreatDoor
open Go.RowKit
set_option maxRecDepth 100000

/-- A field's bytes. -/
def Fld.bytes (f : Fld) : List Nat := if f.kind = 0 then Wire.num f.n else if f.kind = 1 then Wire.num (Wire.fold f.i) else if f.kind = 2 then Wire.num f.s.size ++ bl f.s else f.h
end Go.Proofs.YtooeahpkhocaeaaGreatDoor
/- The contract of the statements' own get: a field read, of a kind. Conditions: at most 100000 bytes are left. -/
namespace Go.Proofs.YtooeahpkhocaeaaGreatDoor
open Go.RowKit
set_option maxRecDepth 100000

end Go.Proofs.YtooeahpkhocaeaaGreatDoor
/- What is read to its end was written so. Conditions: at most 300 bytes. -/
namespace Go.Proofs.YtooeahpkhocaeaaGreatDoor
open Go.RowKit
set_option maxRecDepth 100000

end Go.Proofs.YtooeahpkhocaeaaGreatDoor
/- The contract of Few: whether fields are few and short. Conditions: a slice of fields. -/
namespace Go.Proofs.YtooeahpkhocaeaaGreatDoor
open Go.RowKit
set_option maxRecDepth 100000

def Fld.short (f : Fld) : Prop := f.s.size ≤ 300 ∧ 0 ≤ f.kind ∧ f.kind ≤ 3
theorem Flds.below {w w' : World} {lv : Value} {fs : List Fld} (h : Flds w lv fs) (hb : Below w.heap.size w w') : Flds w' lv fs := by
  obtain ⟨A, c, e, h1, h2, h3, h4⟩ := h
  refine ⟨A, c, e, h1, h2, h3, fun h0 => ?_⟩
  obtain ⟨b, o, e2, hl, hc⟩ := h4 h0
  exact ⟨b, o, e2, Nat.lt_of_lt_of_le hl hb.size, fun i f hf j u hu => by rw [hb.cell (p := ⟨b, o + i * 37 + j, none⟩) hl]; exact hc i f hf j u hu⟩
end Go.Proofs.YtooeahpkhocaeaaGreatDoor
/- Fields written are read again, whatever stands behind. Conditions: fields that are short. -/
namespace Go.Proofs.YtooeahpkhocaeaaGreatDoor
open Go.RowKit
set_option maxRecDepth 100000

end Go.Proofs.YtooeahpkhocaeaaGreatDoor
/- The contract of the document's own Get. Conditions: a field of a kind from 0 to 3; at most 100000 bytes. -/
namespace Go.Proofs.YtooeahpkhocaeaaGreatDoor
open Go.RowKit
set_option maxRecDepth 100000

def hrow (s : ByteArray) (k : Nat) : List Nat := (bl s).take k ++ List.replicate (32 - k) 0
end Go.Proofs.YtooeahpkhocaeaaGreatDoor
/- The contracts of the document's own Int, Text and Put. Conditions: a field; a text of at most 300 bytes. -/
namespace Go.Proofs.YtooeahpkhocaeaaGreatDoor
open Go.RowKit
set_option maxRecDepth 100000

theorem refInt_any (n : Int) (w : World) (h1 : -9223372036854775808 ≤ n) (h2 : n ≤ 9223372036854775807) :
    Calls Tryz.prog 51 #[.int .i64 n] w fun e w' => e = .returned (.string (S (Wire.num (Wire.fold n)))) ∧ Below w.heap.size w w' := by
  have hlt := Wire.fold_lt n h1 h2
  by_cases h : 0 ≤ n
  · have he : 2 * n = ((Wire.fold n : Nat) : Int) := by unfold Wire.fold; rw [if_pos h]; omega
    have HC := Lib.hid (refNum_any (Wire.fold n) w hlt)
    generalize Wire.fold n = y at *
    go_enter Tryz.func51, Tryz.ntmps51
    go_wp2_with fail
    refine HC.out.mono ?_
    rintro e w1 ⟨rfl, hb⟩
    go_wp2
    go_ret
    exact ⟨rfl, hb⟩
  · have he : 2 * (-1 - n) + 1 = ((Wire.fold n : Nat) : Int) := by unfold Wire.fold; rw [if_neg h]; omega
    have HC := Lib.hid (refNum_any (Wire.fold n) w hlt)
    generalize Wire.fold n = y at *
    go_enter Tryz.func51, Tryz.ntmps51
    go_wp2_with fail
    refine HC.out.mono ?_
    rintro e w1 ⟨rfl, hb⟩
    go_wp2
    go_ret
    exact ⟨rfl, hb⟩
end Go.Proofs.YtooeahpkhocaeaaGreatDoor
/- One element more upon an own row, of any kind: what stays. Conditions: none of our own. -/
namespace Go.Proofs.YtooeahpkhocaeaaGreatDoor
open Go.RowKit
set_option maxRecDepth 100000

/-- What stays where a row of elements of kind T is made that ends as Y. -/
def KR (T : TypeId) (sz B : Nat) (Y : List Value) (a b : World) : Prop :=
  Below B a b ∧ (∀ v k ys, ys <+: Y → a.ownsRow B T sz v k ys → b.ownsRow B T sz v k ys) ∧ (∀ i t cs, t ≠ T → Has a i t cs → Has b i t cs) ∧ (∀ i cs, cs.length = sz → Has a i T cs → Has b i T cs)
section
variable {T : TypeId} {sz B : Nat} {Y : List Value} {a b c : World}
theorem KR.of_below (h : Below a.heap.size a b) (hB : B ≤ a.heap.size) : KR T sz B Y a b :=
  ⟨h.mono hB, fun _ _ _ _ ho => owns_kept ho h, fun _ _ _ _ hg => hg.below h hg.lt, fun _ _ _ hg => hg.below h hg.lt⟩
theorem KR.refl : KR T sz B Y a a := ⟨Below.refl _ _, fun _ _ _ _ h => h, fun _ _ _ _ h => h, fun _ _ _ h => h⟩
theorem KR.trans (h : KR T sz B Y a b) (k : KR T sz B Y b c) : KR T sz B Y a c :=
  ⟨h.1.trans k.1, fun v n ys hy ho => k.2.1 v n ys hy (h.2.1 v n ys hy ho), fun i t cs ht ho => k.2.2.1 i t cs ht (h.2.2.1 i t cs ht ho), fun i cs ht ho => k.2.2.2 i cs ht (h.2.2.2 i cs ht ho)⟩
theorem KR.drew (h : KR T sz B Y a b) : KR T sz B Y a b.drew := ⟨h.1.drew, h.2.1, h.2.2.1, h.2.2.2⟩
end
section
variable {P : Program} {L : List (Nat × Value)} {w : World} {ty : TypeId}
theorem push_own1 {T SL : TypeId} {i : TypeInfo} {z : Value} {sz bytes B n g2 : Nat} {s x : Operand} {sv : Value} {xs news : List Value} (ht : P.underlying SL = some (.slice T)) (hi : P.info? T = some i) (hz : i.zero = some z) (hsi : i.size = sz) (hby : i.bytes = bytes) (hzs : z.cells.size = sz) (hsz : 0 < sz) (hsb : (n + 1) * bytes ≤ 140737488355328)
    (hs : vals L s = some sv) (hown : w.ownsRow B T sz sv n xs) (hx : vals L x = some (.slice (some ⟨g2, 0, none⟩) 1 1)) (hX : Has w g2 T news) (hl : news.length = sz) (hone : ∀ v ∈ news, v.oneCell' = true) (hn : n ≤ 10000) (hB : B ≤ w.heap.size) (hcap : 0 < n ∨ ∀ g m c, sv = .slice (some g) m c → c = 0) :
    Runs P (.call { callee := .builtin .append, args := #[s, x], argTypes := #[SL, SL] }) ty L w (fun u w2 => (∃ g3 c3, u = .slice (some ⟨g3, 0, none⟩) (n + 1) c3) ∧ w2.ownsRow B T sz u (n + 1) (xs ++ news) ∧ KR T sz B (xs ++ news) w w2) := by
  have hnews : ∀ j u, news[j]? = some u → w.cell? ((⟨g2, 0, none⟩ : Addr).add j) = some u := fun j u hu => by rw [add_zero_addr, Nat.zero_add, hX.cell]; exact hu
  have hl' : news.length = 1 * sz := by omega
  have h63 : n + 1 ≤ maxLen := by unfold maxLen; omega
  intro oo a K Q ho _ hL hK
  have e1 := hL s (by simp [Op.operands, Call.operands]) _ hs
  have e2 := hL x (by simp [Op.operands, Call.operands]) _ hx
  have hex : ∃ v' w', (Builtin.append_ #[SL, SL] oo.type #[sv, .slice (some ⟨g2, 0, none⟩) 1 1]).run P w = .ok v' w' ∧ ((∃ g3 c3, v' = .slice (some ⟨g3, 0, none⟩) (n + 1) c3) ∧ w'.ownsRow B T sz v' (n + 1) (xs ++ news) ∧ KR T sz B (xs ++ news) w w') := by
    rcases hown.2 with ⟨rfl, h0⟩ | ⟨g, cap, cur, rfl, hbg, hg, hcc, hcm, hcs, hct⟩
    · obtain ⟨v', w', hrun, h2, h3, h4, h5⟩ := run_append_own_at (P := P) w B SL oo.type T i _ sz _ ht hi hz hsi hby hzs hsz _ _ _ hown ⟨g2, 0, none⟩ 1 1 news hl' hnews hone h63 hsb hB
      have hbel : Below w.heap.size w w' := (Below.refl _ _).grown h3 (Nat.le_refl _) (fun k h => by cases h)
      have hne : v' ≠ .slice none 0 0 := fun e => absurd (h4.1 e).2 (by omega)
      refine ⟨v', w', hrun, ?_, h2, KR.of_below hbel hB⟩
      rcases h2.2 with ⟨e, _⟩ | ⟨g3, c3, _, rfl, _⟩
      · exact absurd e hne
      · exact ⟨g3, c3, rfl⟩
    · by_cases hrm : n + 1 ≤ cap
      · obtain ⟨w', hrun, h2, h3⟩ := run_append_fits (P := P) w B SL oo.type T i sz ht hi hsi g n cap _ hown ⟨g2, 0, none⟩ 1 1 news hl' hnews hone hrm
        have hcap1 : 1 < cap := by
          rcases hcap with h | h
          · omega
          · have := h _ _ _ rfl; omega
        have hblk : ∀ i' t' cs, (t' ≠ T ∨ cs.length = sz) → Has w i' t' cs → Has w' i' t' cs := fun i' t' cs ht' hi' => by
          have hne : some i' ≠ some g := fun hsv => by
            simp only [Option.some.injEq] at hsv
            subst hsv
            unfold Has at hi'
            rw [hi'] at hg
            simp only [Option.some.injEq, Obj.cells.injEq, and_true] at hg
            rcases ht' with h | h
            · exact h hg.2
            · have e3 : cur.size = cs.length := by rw [← hg.1]; simp
              rw [hcs, h] at e3
              have := Nat.mul_le_mul_right sz hcap1
              omega
          unfold Has
          rw [h3.block i' hi'.lt hne]
          exact hi'
        exact ⟨_, w', hrun, ⟨_, _, rfl⟩, h2, below_grown (Below.refl _ _) h3 (fun k hk => by cases hk; exact hbg) hB, fun v'' k ys hk hv => owns_pre hown hsz h2 h3 hv hk, fun i' t' cs ht' hi' => hblk i' t' cs (.inl ht') hi', fun i' cs ht' hi' => hblk i' T cs (.inr ht') hi'⟩
      · obtain ⟨v', w', hrun, h2, h3⟩ := run_append_arg_grows (P := P) w SL oo.type T i _ sz _ ht hi hz hsi hby hzs hsz ⟨g, 0, none⟩ n cap xs hown.1 (fun j u hj => by
          rw [add_zero_addr, Nat.zero_add]
          have hj' := hj
          rw [← hct, List.getElem?_take] at hj'
          split at hj'
          · have hh : Has w g T cur.toList := by show _ = _; rw [hg]
            rw [hh.cell]; exact hj'
          · cases hj') ⟨g2, 0, none⟩ 1 1 news hl' hnews (by omega) h63 hsb
        have hbel : Below w.heap.size w w' := (Below.refl _ _).grown h3 (Nat.le_refl _) (fun k h => by cases h)
        refine ⟨v', w', hrun, ?_, owns_mono h2 hB, KR.of_below hbel hB⟩
        rcases h2.2 with ⟨_, h0⟩ | ⟨g3, c3, _, rfl, _⟩
        · omega
        · exact ⟨g3, c3, rfl⟩
  obtain ⟨v', w', hr, hp⟩ := hex
  unfold Oper.wp execOp
  simp only [ho, resolve, invoke, builtin, Sem.run_bind, Sem.run_pure, Result.andThen_ok, List.map_toArray, List.map_cons, List.map_nil, e1, e2, hr]
  exact hK v' w' hp
end
/-- A cell of an own row. -/
theorem owns_rowK {w : World} {B n sz : Nat} {e : TypeId} {v : Value} {xs : List Value} (h : w.ownsRow B e sz v n xs) (hn : 0 < n) : ∃ g c, v = .slice (some ⟨g, 0, none⟩) n c ∧ B ≤ g ∧ g < w.heap.size ∧ w.rangeAt g 0 xs := by
  rcases h.2 with ⟨_, h0⟩ | ⟨g, c, cur, rfl, hb, hg, hc, hm, hs, ht⟩
  · omega
  · refine ⟨g, c, rfl, hb, (Array.getElem?_eq_some_iff.1 hg).1, fun j u hj => ?_⟩
    have hh : Has w g e cur.toList := by show _ = _; rw [hg]
    rw [← ht, List.getElem?_take] at hj
    split at hj
    · rw [Nat.zero_add, hh.cell]; exact hj
    · cases hj
end Go.Proofs.YtooeahpkhocaeaaGreatDoor
/- Fields that are read, in a row; strings cut and compared. Conditions: none of our own. -/
namespace Go.Proofs.YtooeahpkhocaeaaGreatDoor
open Go.RowKit
set_option maxRecDepth 100000

theorem toList_bl (a b : ByteArray) : (a.toList == b.toList) = (bl a == bl b) := by
  rw [Bool.eq_iff_iff, beq_iff_eq, beq_iff_eq, ByteArray.toList_eq, ByteArray.toList_eq]
  constructor
  · intro h; unfold bl; rw [h]
  · intro h; rw [bl_inj h]
theorem run_eqStr (a b : ByteArray) (w : World) : (binOp .eql 9 (.string a) (.string b)).run Tryz.prog w = .ok (.bool (bl a == bl b)) w := by
  rw [← toList_bl]; simp [binOp, Op.stringOp]
section
variable {L : List (Nat × Value)} {w : World} {ty : TypeId}
theorem runs_eqStr {t' : TypeId} {x y : Operand} {a b : ByteArray} {r : Bool} (hx : vals L x = some (.string a)) (hy : vals L y = some (.string b)) (hr : (bl a == bl b) = r) : Runs Tryz.prog (.binOp .eql 9 x y t') ty L w (Is (.bool r) w) :=
  runs_bin hx hy rfl (by rw [run_eqStr, hr])
theorem runs_cutS {x lo : Operand} {s : ByteArray} {i : Nat} (hx : vals L x = some (.string s)) (hlo : vals L lo = some (.int .i64 (i : Int))) (hi : i ≤ s.size) : Runs Tryz.prog (.slice 9 x (some lo) none none) ty L w (Is (.string (cut s i)) w) := fun o a K Q ho _ hL hK => by
  have ex := hL x (by simp [Op.operands]) _ hx
  have el := hL lo (by simp [Op.operands]) _ hlo
  unfold Oper.wp
  have : (execOp a.eval o).run Tryz.prog w = .ok (.value (.string (cut s i))) w := by
    simp [execOp, ho, ex, el, Instr.sliceAt, run_underlying und9, Instr.slice, Instr.sliceBounds, Instr.sliceBound, asIntOf, hi, cut]
  rw [this]
  exact hK _ _ ⟨rfl, rfl⟩
end
end Go.Proofs.YtooeahpkhocaeaaGreatDoor
/- The document of layer 10: which vertices have bytes, and these. Conditions: none of our own. -/
namespace Go.Proofs.YtooeahpkhocaeaaGreatDoor
open Go.RowKit
set_option maxRecDepth 100000

set_option maxHeartbeats 1000000 in
theorem rgreat_any (x : Int) (w : World) : Ans 83 [.int .i64 x] w (Is (.bool (great x)) w) := by
  refine calls_qx (args := [.int .i64 x]) 9 Tryz.func83 rfl (by kernel_rfl) (by simp) (fun a hS => ?_)
  refine qx_seq (reg_seq ?_)
  refine sI hS (runs_assign rfl) fun _ hS => ?_
  refine nil_ok (qx_seq (reg_seq ?_))
  refine sI hS (runs_move rfl) fun _ hS => ?_
  by_cases g1 : 1125899906842624 < x
  · skip
    refine sI hS (gtrT rfl rfl (by omega)) fun _ hS => ?_
    refine sI hS (runs_move rfl) fun _ hS => ?_
    refine sN hS fun _ hS => ?_
    refine sN hS fun _ hS => ?_
    refine sI hS (runs_pick rfl rfl) fun _ hS => ?_
    refine sI hS (runs_assign rfl) fun _ hS => ?_
    exact nil_ok (qx_ret (ret1 (t := 2) (by kernel_rfl) hS rfl ⟨_, rfl, by unfold great; first | (simp; done) | (simp; omega), rfl⟩))
  refine sI hS (gtrF rfl rfl (by omega)) fun _ hS => ?_
  refine sI hS (runs_move rfl) fun _ hS => ?_
  refine sY hS (runs_move rfl) fun _ hS => ?_
  by_cases g2 : x < -1125899906842624
  · skip
    refine sY hS (lssT rfl rfl (by omega)) fun _ hS => ?_
    refine sI hS (runs_pick rfl rfl) fun _ hS => ?_
    refine sI hS (runs_assign rfl) fun _ hS => ?_
    exact nil_ok (qx_ret (ret1 (t := 2) (by kernel_rfl) hS rfl ⟨_, rfl, by unfold great; first | (simp; done) | (simp; omega), rfl⟩))
  refine sY hS (lssF rfl rfl (by omega)) fun _ hS => ?_
  refine sI hS (runs_pick rfl rfl) fun _ hS => ?_
  refine sI hS (runs_assign rfl) fun _ hS => ?_
  exact nil_ok (qx_ret (ret1 (t := 2) (by kernel_rfl) hS rfl ⟨_, rfl, by unfold great; first | (simp; done) | (simp; omega), rfl⟩))
theorem rgreat_is {x : Int} (w : World) {b : Bool} (h : great x = b) : Ans 83 [.int .i64 x] w (Is (.bool b) w) := h ▸ rgreat_any x w
theorem numS_le {n : Nat} (h : n < 18446744073709551616) : (S (Wire.num n)).size ≤ 10 := by rw [S_size]; exact Wire.num_len10 n h
end Go.Proofs.YtooeahpkhocaeaaGreatDoor
/- The writer and the reader of layer 2, as calls that keep what lies below B. Conditions: numbers of 88 bits. -/
namespace Go.Proofs.YtooeahpkhocaeaaGreatDoor
open Go.RowKit
set_option maxRecDepth 100000

/-- Block b is a writer that holds l; it and its row lie at B or behind. -/
def Wr (B : Nat) (w : World) (b : Nat) (l : List Nat) : Prop := B ≤ b ∧ B ≤ w.heap.size ∧ ∃ v, Out w b v l ∧ ∀ k, v.ownBlock = some k → B ≤ k
theorem Wr.below {B b : Nat} {w w' : World} {l : List Nat} (h : Wr B w b l) (k : Below w.heap.size w w') : Wr B w' b l := by
  obtain ⟨h1, h2, v, h3, h4⟩ := h
  exact ⟨h1, Nat.le_trans h2 k.size, v, h3.below k, h4⟩
theorem Wr.wrote {B b : Nat} {w w' : World} {v : Value} {l l' : List Nat} (h1 : B ≤ b) (h2 : B ≤ w.heap.size) (_h3 : Out w b v l) (h4 : ∀ k, v.ownBlock = some k → B ≤ k) (k : Wrote w b v l' w') : Wr B w' b l' ∧ Below B w w' := by
  obtain ⟨v', k1, k2, k3⟩ := k
  refine ⟨⟨h1, Nat.le_trans h2 k2.size, v', k1, fun i hi => ?_⟩, k2.below h1 h2 h4⟩
  rcases k3 with k3 | ⟨x, k3, hx⟩
  · exact h4 i (by rw [← k3, hi])
  · rw [k3] at hi; cases hi; omega
theorem wr_new (w : World) : Ans 20 [] w (fun u w' => u = .pointer (some ⟨w.heap.size, 0, none⟩) ∧ Wr w.heap.size w' w.heap.size [] ∧ Below w.heap.size w w') :=
  (newOut_any w).mono (by
    rintro e w' ⟨rfl, rfl⟩
    exact ⟨_, rfl, rfl, ⟨Nat.le_refl _, by simp, .slice none 0 0, ⟨Has.new _ _ _, rfl, .inl ⟨rfl, rfl⟩⟩, fun k hk => by simp [Value.ownBlock] at hk⟩, (Below.refl _ _).alloc (Nat.le_refl _) _⟩)
theorem Wr.mono {B B' b : Nat} {w : World} {l : List Nat} (h : Wr B w b l) (hB : B' ≤ B) : Wr B' w b l := by
  obtain ⟨h1, h2, v, h3, h4⟩ := h
  exact ⟨Nat.le_trans hB h1, Nat.le_trans hB h2, v, h3, fun k hk => Nat.le_trans hB (h4 k hk)⟩
theorem wr_num {B b n : Nat} {w : World} {l : List Nat} (h : Wr B w b l) (hn : n < 18446744073709551616) (hl : l.length ≤ 100000) : Ans 21 [.pointer (some ⟨b, 0, none⟩), .int .u64 (n : Int)] w (fun _ w' => Wr B w' b (l ++ Wire.num n) ∧ Below B w w') := by
  obtain ⟨h1, h2, v, h3, h4⟩ := h
  exact (outNum_any b n v l w hn h3 hl).mono (by rintro e w' ⟨rfl, k⟩; exact ⟨_, rfl, Wr.wrote h1 h2 h3 h4 k⟩)
theorem wr_int {B b : Nat} {n : Int} {w : World} {l : List Nat} (h : Wr B w b l) (n1 : -9223372036854775808 ≤ n) (n2 : n ≤ 9223372036854775807) (hl : l.length ≤ 100000) : Ans 57 [.pointer (some ⟨b, 0, none⟩), .int .i64 n] w (fun _ w' => Wr B w' b (l ++ Wire.num (Wire.fold n)) ∧ Below B w w') := by
  obtain ⟨h1, h2, v, h3, h4⟩ := h
  exact (outInt_any b n v l w n1 n2 h3 hl).mono (by rintro e w' ⟨rfl, k⟩; exact ⟨_, rfl, Wr.wrote h1 h2 h3 h4 k⟩)
theorem wr_done {B b : Nat} {w : World} {l : List Nat} (h : Wr B w b l) : Ans 23 [.pointer (some ⟨b, 0, none⟩)] w (Is (.string (S l)) w) := by
  obtain ⟨_, _, v, h3, _⟩ := h
  exact (done_any b v l w h3).mono (by rintro e w' ⟨rfl, rfl⟩; exact ⟨_, rfl, rfl, rfl⟩)
/-- Block b is a reader at B or behind: what is left, and what was wrong. -/
def Rd (B : Nat) (w : World) (b : Nat) (s : ByteArray) (e : Nat) : Prop := B ≤ b ∧ B ≤ w.heap.size ∧ In w b s e
theorem Rd.below {B b e : Nat} {w w' : World} {s : ByteArray} (h : Rd B w b s e) (k : Below w.heap.size w w') : Rd B w' b s e :=
  ⟨h.1, Nat.le_trans h.2.1 k.size, Has.below h.2.2 k (Has.lt h.2.2)⟩
theorem Rd.mono {B B' b e : Nat} {w : World} {s : ByteArray} (h : Rd B w b s e) (hB : B' ≤ B) : Rd B' w b s e := ⟨Nat.le_trans hB h.1, Nat.le_trans hB h.2.1, h.2.2⟩
theorem Rd.did {B b e e' : Nat} {w w' : World} {s s' : ByteArray} (h : Rd B w b s e) (k : Did w b s' e' w') : Rd B w' b s' e' ∧ Below B w w' :=
  ⟨⟨h.1, Nat.le_trans h.2.1 k.2.size, k.1⟩, k.2.below h.1 h.2.1 (fun k hk => by simp [nul, Value.ownBlock] at hk)⟩
theorem rd_num {B b e : Nat} {w : World} {s : ByteArray} (h : Rd B w b s e) : Ans 25 [.pointer (some ⟨b, 0, none⟩)] w (fun u w' => u = .int .u64 ((numRes s e).1 : Int) ∧ Rd B w' b (numRes s e).2.1 (numRes s e).2.2 ∧ Below B w w') :=
  (inNum_any b s e w h.2.2).mono (by rintro x w' ⟨rfl, k⟩; exact ⟨_, rfl, rfl, h.did k⟩)
end Go.Proofs.YtooeahpkhocaeaaGreatDoor
/- Layer 10: natural and numbers: five numbers, each read by its own function. Conditions: none of our own. -/
namespace Go.Proofs.YtooeahpkhocaeaaGreatDoor
open Go.RowKit
set_option maxRecDepth 100000

theorem fr_but {w w' : World} {b : Nat} (h : Fr b nul w w') : But (fun i => i = b) w w' := ⟨h.os, h.tape, h.output, h.size, fun k hk hn => h.block k hk hn (by simp [nul, Value.ownBlock])⟩
/-- A reader's turn: what it holds behind it, and that nothing else has turned. -/
def Rdd (w : World) (b : Nat) (s : ByteArray) (e : Nat) (w' : World) : Prop := In w' b s e ∧ But (fun i => i = b) w w'
theorem rdd_num {b e : Nat} {w : World} {s : ByteArray} (h : In w b s e) : Ans 25 [.pointer (some ⟨b, 0, none⟩)] w (fun u w' => u = .int .u64 ((numRes s e).1 : Int) ∧ Rdd w b (numRes s e).2.1 (numRes s e).2.2 w') :=
  (inNum_any b s e w h).mono (by rintro x w' ⟨rfl, k⟩; exact ⟨_, rfl, rfl, k.1, fr_but k.2⟩)
theorem rdd_end {b e : Nat} {w : World} {s : ByteArray} (h : In w b s e) : Ans 28 [.pointer (some ⟨b, 0, none⟩)] w (Is (.int .i64 (endOf s e : Int)) w) :=
  (end_anyw b s e w h).mono (by rintro x w' ⟨rfl, rfl⟩; exact ⟨_, rfl, rfl, rfl⟩)
end Go.Proofs.YtooeahpkhocaeaaGreatDoor
