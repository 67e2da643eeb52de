/- The contracts of hash.begin and (*running).end: a running sum is begun, and told. Conditions: fewer than 10 to the 12 bytes. -/
import Derived.Test.YtooeahpkhocaeaaGreatDoorTake
import Derived.Test.YtooeahpkhocaeaaGreatDoorRows
import Derived.Test.YtooeahpkhocaeaaGreatDoorJ01
import Derived.Test.YtooeahpkhocaeaaGreatDoorJ00
import Derived.Maps.AppendAt
import Derived.Lib.AppendStr
import Derived.Lib.ConvBytes
import Derived.Test.YtooeahpkhocaeaaGreatDoorJ02
import Derived.ChangeOld
import Derived.Below
namespace Go.Proofs.YtooeahpkhocaeaaGreatDoor
open Go.RowKit

set_option maxRecDepth 100000 in
set_option maxHeartbeats 1000000 in
theorem begin_any (w : World) :
    Calls Tryz.prog 84 #[] w fun e w' => e = .returned (.pointer (some ⟨w.heap.size, 0, none⟩)) ∧ w' = w.alloc (.cells (rl Sha.init (List.replicate 64 0) 0 0).toArray 131) := by
  have hz := (zero_of_info (P := Tryz.prog) (t := 131) (v := .agg (U32 [0, 0, 0, 0, 0, 0, 0, 0] ++ (U8 (List.replicate 64 0) ++ [Value.int .i64 0, Value.int .u64 0])).toArray) (n := 74) (by kernel_rfl)).1
  go_enter Tryz.func84, Tryz.ntmps84
  go_wp2
  go_ret
  exact ⟨rfl, rfl⟩

theorem sl_of_own {w : World} {base g : Nat} {v : Value} {l : List Nat} (h : w.ownsRow base 5 1 v l.length (U8 l)) (hg : g < base) : Sl w g v l := by
  rcases h.2 with ⟨rfl, h0⟩ | ⟨g', cap, cur, rfl, hb, hh, hn, hm, hs, ht⟩
  · exact ⟨none, 0, by rw [h0], by omega, by unfold maxLen; omega, fun h => by omega⟩
  · refine ⟨_, cap, rfl, hn, hm, fun hp => ⟨g', 0, rfl, by omega, (Array.getElem?_eq_some_iff.1 hh).1, fun j u hu => ?_⟩⟩
    have := h.cells (g := g') rfl j u hu
    rw [Addr.add_mid] at this
    exact this
theorem kept_alloc {w : World} (h : Kept w) (o : Obj) : Kept (w.alloc o) := fun i hi => by
  rw [World.cell?_alloc_lt w o _ h.pos]; exact h i hi
theorem run_index_agg {P : Program} {ty e : TypeId} {len : Nat} {k : IntKind} {d : TypeDesc} (cs : List Value) (i : Nat) (v : Value) (hu : P.underlying ty = some (.array len e)) (hd : P.underlying e = some d) (hrow : d.isRow = false) (hs : (P.info? e).map (·.size) = some 1) (hi : i < len) (h : cs[i]? = some v) (w : World) :
    (Instr.index ty (.agg cs.toArray) (.int k (i : Int))).run P w = .ok v w := by
  cases hq : P.info? e with
  | none => simp [hq] at hs
  | some ie =>
    have hs' : ie.size = 1 := by simpa [hq] using hs
    have hagg : (isAgg e).run P w = .ok false w := by
      unfold isAgg
      rw [Sem.run_bind, run_underlying hd w]
      cases d <;> simp_all
    have hr : (0 : Int) ≤ (i : Int) ∧ (i : Int) < (len : Int) := by omega
    simp [Instr.index, asIntOf, Sem.run_bind, run_underlying hu w, hr, sizeOf, typeInfo, hq, hs', part, hagg, h]
    intro hh; omega
theorem has_now {w : World} {g : Nat} {s : Sha.St} {part : List Nat} {fill n : Nat} (h : Has w g 131 (rl s part fill n)) : w.rangeAt g 0 (U32 s.list) := rl_now ▸ h.range 0 8
theorem und25 : Tryz.prog.underlying 25 = some (.array 32 5) := by kernel_rfl
theorem size25' : (Tryz.prog.info? 25).map (·.size) = some 32 := by kernel_rfl
/-- The sum's bytes that are told behind k of them, the rest noughts. -/
def hashPart (s : Sha.St) (k : Nat) : List Nat := (Sha.out s).take k ++ List.replicate (32 - k) 0

theorem hashPart_length (s : Sha.St) {k : Nat} (h : k ≤ 32) : (hashPart s k).length = 32 := by
  have : (Sha.out s).length = 32 := by simp [Sha.out, Sha.St.list, Sha.be4]
  simp [hashPart, this]; omega
theorem out_get (s : Sha.St) (h : s.Ok) (i k : Nat) (hi : i < 8) (hk : k < 4) : (Sha.out s)[4 * i + k]? = some (s.list.getD i 0 / 2 ^ (24 - 8 * k) % 256) := by
  have ha := h.a; have hb := h.b; have hc := h.c; have hd := h.d; have he := h.e; have hf := h.f; have hg := h.g; have hh := h.h
  obtain ⟨a, b, c, d, e, f, g, hhh⟩ := s
  match i, hi, k, hk with
  | 0, _, 0, _ => simp [Sha.out, Sha.St.list, Sha.be4] at *; omega
  | 0, _, 1, _ => simp [Sha.out, Sha.St.list, Sha.be4]
  | 0, _, 2, _ => simp [Sha.out, Sha.St.list, Sha.be4]
  | 0, _, 3, _ => simp [Sha.out, Sha.St.list, Sha.be4]
  | 1, _, 0, _ => simp [Sha.out, Sha.St.list, Sha.be4] at *; omega
  | 1, _, 1, _ => simp [Sha.out, Sha.St.list, Sha.be4]
  | 1, _, 2, _ => simp [Sha.out, Sha.St.list, Sha.be4]
  | 1, _, 3, _ => simp [Sha.out, Sha.St.list, Sha.be4]
  | 2, _, 0, _ => simp [Sha.out, Sha.St.list, Sha.be4] at *; omega
  | 2, _, 1, _ => simp [Sha.out, Sha.St.list, Sha.be4]
  | 2, _, 2, _ => simp [Sha.out, Sha.St.list, Sha.be4]
  | 2, _, 3, _ => simp [Sha.out, Sha.St.list, Sha.be4]
  | 3, _, 0, _ => simp [Sha.out, Sha.St.list, Sha.be4] at *; omega
  | 3, _, 1, _ => simp [Sha.out, Sha.St.list, Sha.be4]
  | 3, _, 2, _ => simp [Sha.out, Sha.St.list, Sha.be4]
  | 3, _, 3, _ => simp [Sha.out, Sha.St.list, Sha.be4]
  | 4, _, 0, _ => simp [Sha.out, Sha.St.list, Sha.be4] at *; omega
  | 4, _, 1, _ => simp [Sha.out, Sha.St.list, Sha.be4]
  | 4, _, 2, _ => simp [Sha.out, Sha.St.list, Sha.be4]
  | 4, _, 3, _ => simp [Sha.out, Sha.St.list, Sha.be4]
  | 5, _, 0, _ => simp [Sha.out, Sha.St.list, Sha.be4] at *; omega
  | 5, _, 1, _ => simp [Sha.out, Sha.St.list, Sha.be4]
  | 5, _, 2, _ => simp [Sha.out, Sha.St.list, Sha.be4]
  | 5, _, 3, _ => simp [Sha.out, Sha.St.list, Sha.be4]
  | 6, _, 0, _ => simp [Sha.out, Sha.St.list, Sha.be4] at *; omega
  | 6, _, 1, _ => simp [Sha.out, Sha.St.list, Sha.be4]
  | 6, _, 2, _ => simp [Sha.out, Sha.St.list, Sha.be4]
  | 6, _, 3, _ => simp [Sha.out, Sha.St.list, Sha.be4]
  | 7, _, 0, _ => simp [Sha.out, Sha.St.list, Sha.be4] at *; omega
  | 7, _, 1, _ => simp [Sha.out, Sha.St.list, Sha.be4]
  | 7, _, 2, _ => simp [Sha.out, Sha.St.list, Sha.be4]
  | 7, _, 3, _ => simp [Sha.out, Sha.St.list, Sha.be4]
theorem hashPart_set (s : Sha.St) (h : s.Ok) (i k : Nat) (hi : i < 8) (hk : k < 4) : (hashPart s (4 * i + k)).set (4 * i + k) (s.list.getD i 0 / 2 ^ (24 - 8 * k) % 256) = hashPart s (4 * i + (k + 1)) := by
  have hl : (Sha.out s).length = 32 := by simp [Sha.out, Sha.St.list, Sha.be4]
  have hg := out_get s h i k hi hk
  generalize hn : 4 * i + k = n at *
  rw [show 4 * i + (k + 1) = n + 1 by omega]
  unfold hashPart
  have hr : List.replicate (32 - n) 0 = 0 :: List.replicate (32 - (n + 1)) 0 := by rw [← List.replicate_succ]; congr 1; omega
  rw [List.set_append_right _ _ (by simp [hl]; omega), hr, List.take_add_one, hg]
  simp [hl, show min n 32 = n by omega]
theorem sizeSha {l : List Nat} : (Tryz.prog.info? 25).map (·.size) = some (U8 (Sha.sha l)).toArray.size := by
  rw [size25', List.size_toArray, U8_length, Sha.Holds.sumText]
theorem grown_set_new {w V : World} {r : Option Nat} (h : w.grownBy V r) {g : Nat} (hg : w.heap.size ≤ g) (i : Nat) (u : Value) : w.grownBy (V.setCell ⟨g, i, none⟩ u) r :=
  ⟨h.os, h.tape, h.output, by simpa [World.setCell] using h.size, fun k hk hne => (Below.heap_setCell V ⟨g, i, none⟩ u k (by simp; omega)).trans (h.block k hk hne)⟩
theorem grown_setRow_new {w V : World} {r : Option Nat} (h : w.grownBy V r) {g : Nat} (hg : w.heap.size ≤ g) (cs : Array Value) : w.grownBy (V.setRow g cs) r :=
  ⟨h.os, h.tape, h.output, by simpa [World.setRow] using h.size, fun k hk hne => (setRow_other V g k cs (by omega)).trans (h.block k hk hne)⟩
def EndRel (w : World) (g h : Nat) (s : Sha.St) (k : Nat) (V : World) : Prop := w.grownBy V (some g) ∧ Has V w.heap.size 25 (U8 (List.replicate 32 0)) ∧ Has V h 25 (U8 (hashPart s k))
theorem grown_alloc {w V : World} {r : Option Nat} (h : w.grownBy V r) (o : Obj) : w.grownBy (V.alloc o) r :=
  ⟨h.os, h.tape, h.output, Nat.le_trans h.size (by simp), fun i hi hne => (Below.heap_alloc V o i (Nat.lt_of_lt_of_le hi h.size)).trans (h.block i hi hne)⟩
set_option maxRecDepth 100000 in
set_option maxHeartbeats 1000000 in
theorem end_any (g : Nat) (l : List Nat) (w : World) (hr : RunAt w g l l.length) (hk : Kept w) (hg : 0 < g) (hl : l.length < 1000000000000) :
    Calls Tryz.prog 86 #[.pointer (some ⟨g, 0, none⟩)] w fun e w' => e = .returned (.agg (U8 (Sha.sha l)).toArray) ∧ w.grownBy w' (some g) := by
  obtain ⟨s, part, fill, hh, hb⟩ := hr
  have c73 : w.cell? ⟨g, 73, none⟩ = some (.int .u64 (l.length : Int)) := by rw [hb.cell, rl_bytes hh.len]
  have hgs := hb.lt
  have HL := Lib.hid hl
  have HB := Lib.hid hb
  have HH := Lib.hid hh
  have HK := Lib.hid hk
  clear hl hb hh hk
  go_enter Tryz.func86, Tryz.ntmps86
  go_wp2_with fail
  refine (ending_any l.length (by have := HL.out; omega) _).mono ?_
  rintro e w1 ⟨v, rfl, hown, hbel⟩
  have HO := Lib.hid hown
  have HBe := Lib.hid hbel
  clear hown hbel c73
  go_wp2_with fail
  have hR1 : RunAt w1 g l l.length := ⟨s, part, fill, HH.out, (HB.out.alloc _).below HBe.out (by simp; omega)⟩
  have hV1 : Sl w1 g v (Sha.ending l.length) := sl_of_own HO.out (by simp; omega)
  have hK1 : Kept w1 := (kept_alloc HK.out _).below HBe.out (by simp)
  refine (take_any g l.length l (Sha.ending l.length) v w1 hR1 hV1 (Sha.ending_bytes _) hK1 hg (by have := Sha.ending_le l.length; have := HL.out; omega)).mono ?_
  rintro e w2 ⟨rfl, ⟨s2, part2, fill2, hh2, hb2⟩, hgr⟩
  have hz1 : w.heap.size + 1 ≤ w1.heap.size := by have := HBe.out.size; simpa using this
  have hr1 : Has w1 w.heap.size 25 (U8 (List.replicate 32 0)) := Has.below (Has.new' w 25 (U8 (List.replicate 32 0)) _ _ rfl rfl) HBe.out (by simp)
  have hr2 : Has w2 w.heap.size 25 (U8 (List.replicate 32 0)) := (hgr.block _ (by omega) (fun e => by injection e with e; omega)).trans hr1
  have hW2 : w.grownBy w2 (some g) := grown_trans' ⟨HBe.out.os, HBe.out.tape, HBe.out.output, by omega, fun i hi _ => (HBe.out.block i (by simp; omega)).trans (Below.heap_alloc w _ i hi)⟩ hgr (by omega)
  have HR2 := Lib.hid hr2
  have HW2 := Lib.hid hW2
  have HB2 := Lib.hid hb2
  have HS := Lib.hid (show Sha.out s2 = Sha.sha l from hh2.sum)
  have HOk := Lib.hid hh2.ok
  have hz2 : w.heap.size + 1 ≤ w2.heap.size := Nat.le_trans hz1 hgr.size
  clear hr1 hr2 hW2 hb2 hh2 hR1 hV1 hK1 hgr HO HBe HB HH HK
  go_wp2_with (refine wpList_load_mid rfl 127 (.tmp 16) rfl g 0 rfl (U32 s2.list) (.array 8 121) (has_now (HB2.out.alloc _)) und62 rfl size62' ?_)
  have h0 : EndRel w g w2.heap.size s2 0 (w2.alloc (.cells (U8 (List.replicate 32 0)).toArray 25)) :=
    ⟨grown_alloc HW2.out _, HR2.out.alloc _, Has.new _ _ _⟩
  have H0 := Lib.hid h0
  clear h0
  go_loopw [18] (fun i V => ∃ k : Nat, k ≤ 8 ∧ i = .int .i64 (k : Int) ∧ EndRel w g w2.heap.size s2 (4 * k) V) (fun i _ => 8 - (intOf i).toNat)
  case atStart => exact ⟨0, by omega, rfl, H0.out⟩
  case round =>
    clear H0
    obtain ⟨i, hi, rfl, hrel⟩ := hrel
    have HR := Lib.hid hrel
    clear hrel
    by_cases hlt : i < 8
    · have hix : (U32 s2.list)[i]? = some (.int .u32 (s2.list.getD i 0 : Nat)) := U32_get (by simpa [Sha.St.list] using hlt)
      obtain ⟨x, hx⟩ : ∃ x, x = s2.list.getD i 0 := ⟨_, rfl⟩
      rw [← hx] at hix
      have HX := Lib.hid hx
      clear hx
      have i8 : (i : Int) < 8 := by omega
      have hidx := fun W : World => run_index_agg (P := Tryz.prog) (k := .i64) (U32 s2.list) i _ und62 (by kernel_rfl : Tryz.prog.underlying 121 = some (.int .u32)) rfl (by kernel_rfl) hlt hix W
      clear hix
      go_wp2
      clear hidx
      go_loopw [22] (fun j V => ∃ k : Nat, k ≤ 4 ∧ j = .int .i64 (k : Int) ∧ EndRel w g w2.heap.size s2 (4 * i + k) V) (fun j _ => 4 - (intOf j).toNat)
      case atStart => exact ⟨0, by omega, rfl, HR.out⟩
      case round =>
        clear HR
        obtain ⟨k, hk, rfl, hrel⟩ := hrel
        have HR := Lib.hid hrel
        clear hrel
        by_cases hlt4 : k < 4
        · have j1 : (4 : Int) * i + k < 32 := by omega
          have hold : wr.cell? ⟨w2.heap.size, 4 * i + k, none⟩ = some (.int .u8 ((hashPart s2 (4 * i + k)).getD (4 * i + k) 0 : Nat)) := by
            rw [HR.out.2.2.cell, U8_get (by rw [hashPart_length _ (by omega)]; omega)]
          have hfro := HR.out.2.2.open_ (4 * i + k)
          have HV := Lib.hid (hashPart_set s2 HOk.out i k hlt hlt4)
          go_wp2
          refine ⟨⟨k + 1, by omega, by go_num, ?_⟩, by simp [intOf]; omega⟩
          refine ⟨grown_set_new HR.out.1 (by omega) _ _, HR.out.2.1.far (by simp; omega) _, ?_⟩
          have := HR.out.2.2.set_ (4 * i + k) (.int .u8 ((x / 2 ^ (24 - 8 * k) % 256 : Nat) : Int))
          rw [U8_set, HX.out, HV.out, ← HX.out] at this
          simpa using this
        · go_wp2
          refine ⟨⟨i + 1, by omega, by go_num, ?_⟩, by simp [intOf]; omega⟩
          rw [show 4 * (i + 1) = 4 * i + k by omega]
          exact HR.out
    · have hfin : hashPart s2 (4 * i) = Sha.sha l := by
        rw [show 4 * i = 32 by omega, ← HS.out]
        have : (Sha.out s2).length = 32 := by simp [Sha.out, Sha.St.list, Sha.be4]
        simp [hashPart, ← this]
      have hH := HR.out.2.2
      rw [hfin] at hH
      have HH := Lib.hid hH
      have HR1 := Lib.hid HR.out.1
      have HR0 := Lib.hid HR.out.2.1
      clear hfin hH HR
      go_wp2_with (first
        | (refine wpList_load_row rfl 25 (.tmp 3) rfl w2.heap.size rfl 25 _ (0, 0) (.array 32 5) HH.out und25 rfl sizeSha ?_)
        | (refine wpList_store_row rfl 25 (.tmp 2) (.tmp 38) rfl w.heap.size _ rfl rfl 25 _ HR0.out sizeSha (by simp [Sha.Holds.sumText]) (all_oneCell_toArray (U8_one _)) ?_))
      have hN := setRow_heap wr w.heap.size _ (U8 (Sha.sha l)).toArray 25 _ HR0.out
      refine bodyPost_ret (results_cell_row rfl _ _ w.heap.size 25 _ (0, 0) (.array 32 5) rfl hN und25 rfl sizeSha) rfl ⟨rfl, ?_⟩
      exact grown_setRow_new HR1.out (Nat.le_refl _) _
end Go.Proofs.YtooeahpkhocaeaaGreatDoor
/- Words for memory: what is written, and what is read, and what a call leaves alone. No condition. -/
namespace Go.Proofs.YtooeahpkhocaeaaGreatDoor
open Go.RowKit

theorem und59 : Tryz.prog.underlying 65 = some (.slice 5) := by kernel_rfl
theorem und9 : Tryz.prog.underlying 9 = some .string := by kernel_rfl
theorem und5 : Tryz.prog.underlying 5 = some (.int .u8) := by kernel_rfl
theorem infoW5 : (Tryz.prog.info? 5).map (fun i => (i.zero, i.size, i.bytes)) = some (some (.int .u8 0), 1, 1) := by kernel_rfl

/-- Nothing that was there has turned, but block b and the row of v. -/
structure Fr (b : Nat) (v : Value) (w w' : World) : Prop where
  os : w'.os = w.os
  tape : w'.tape = w.tape
  output : w'.output = w.output
  size : w.heap.size ≤ w'.heap.size
  block : ∀ k, k < w.heap.size → k ≠ b → some k ≠ v.ownBlock → w'.heap[k]? = w.heap[k]?
/-- The row of v' is that of v, or a new one. -/
def Later (n : Nat) (v v' : Value) : Prop := v'.ownBlock = v.ownBlock ∨ ∃ k, v'.ownBlock = some k ∧ n ≤ k
theorem Later.refl (n : Nat) (v : Value) : Later n v v := .inl rfl
theorem Later.trans {n m : Nat} {a b c : Value} (h : Later n a b) (k : Later m b c) (hm : n ≤ m) : Later n a c := by
  rcases k with k | ⟨x, k, hx⟩
  · rcases h with h | ⟨y, h, hy⟩
    · exact .inl (k.trans h)
    · exact .inr ⟨y, k.trans h, hy⟩
  · exact .inr ⟨x, k, by omega⟩
theorem Fr.refl (b : Nat) (v : Value) (w : World) : Fr b v w w := ⟨rfl, rfl, rfl, Nat.le_refl _, fun _ _ _ _ => rfl⟩
theorem Fr.trans {b : Nat} {v v1 : Value} {w w1 w2 : World} (h : Fr b v w w1) (hl : Later w.heap.size v v1) (k : Fr b v1 w1 w2) : Fr b v w w2 :=
  ⟨k.os.trans h.os, k.tape.trans h.tape, k.output.trans h.output, Nat.le_trans h.size k.size, fun i hi hb hv => by
    rw [k.block i (Nat.lt_of_lt_of_le hi h.size) hb (fun e => by
      rcases hl with hl | ⟨x, hl, hx⟩
      · exact hv (e.trans hl)
      · rw [hl] at e; injection e with e; omega)]
    exact h.block i hi hb hv⟩
theorem Fr.alloc {b : Nat} {v : Value} {w w1 : World} (h : Fr b v w w1) (o : Obj) : Fr b v w (w1.alloc o) :=
  ⟨h.os, h.tape, h.output, by have := h.size; simp; omega, fun i hi hb hv => by rw [Below.heap_alloc _ _ _ (Nat.lt_of_lt_of_le hi h.size)]; exact h.block i hi hb hv⟩
theorem Fr.drew {b : Nat} {v : Value} {w w1 : World} (h : Fr b v w w1) : Fr b v w w1.drew := ⟨h.os, h.tape, h.output, h.size, h.block⟩
theorem Fr.set {b : Nat} {v : Value} {w w1 : World} (h : Fr b v w w1) (i : Nat) (u : Value) : Fr b v w (w1.setCell ⟨b, i, none⟩ u) :=
  ⟨h.os, h.tape, h.output, by have := h.size; simpa [World.setCell] using this, fun k hk hb hv => by rw [Below.heap_setCell w1 ⟨b, i, none⟩ u k hb]; exact h.block k hk hb hv⟩
theorem Fr.below {b B : Nat} {v : Value} {w w' : World} (h : Fr b v w w') (hb : B ≤ b) (hB : B ≤ w.heap.size) (hv : ∀ k, v.ownBlock = some k → B ≤ k) : Below B w w' :=
  ⟨h.os, h.tape, h.output, h.size, fun k hk => h.block k (by omega) (by omega) (fun e => by have := hv k e.symm; omega)⟩
theorem Fr.of_below {b : Nat} {v : Value} {w w1 w2 : World} (h : Fr b v w w1) (k : Below w1.heap.size w1 w2) : Fr b v w w2 :=
  ⟨k.os.trans h.os, k.tape.trans h.tape, k.output.trans h.output, Nat.le_trans h.size k.size, fun i hi hb hv => (k.block i (Nat.lt_of_lt_of_le hi h.size)).trans (h.block i hi hb hv)⟩
theorem Has.fr {b g : Nat} {v : Value} {w w' : World} {t : TypeId} {cs : List Value} (h : Has w g t cs) (k : Fr b v w w') (hb : g ≠ b) (hv : some g ≠ v.ownBlock) : Has w' g t cs := (k.block g h.lt hb hv).trans h
theorem own_ne {w : World} {base g n : Nat} {e t : TypeId} {size : Nat} {v : Value} {xs cs : List Value} (h : w.ownsRow base e size v n xs) (hg : Has w g t cs) (hne : e ≠ t) : some g ≠ v.ownBlock := by
  rcases h.2 with ⟨rfl, _⟩ | ⟨g', cap, cur, rfl, _, hh, _⟩
  · simp [Value.ownBlock]
  · intro he
    have : g = g' := by simpa [Value.ownBlock] using he
    subst this
    unfold Has at hg
    rw [hh] at hg
    injection hg with hg
    injection hg with _ ht
    exact hne ht

/-- What is written: block b holds v, whose row is l. -/
def Out (w : World) (b : Nat) (v : Value) (l : List Nat) : Prop := Has w b 67 [v] ∧ w.ownsRow 0 5 1 v l.length (U8 l)
/-- Behind a call that writes. -/
def Wrote (w : World) (b : Nat) (v : Value) (l : List Nat) (w' : World) : Prop := ∃ v', Out w' b v' l ∧ Fr b v w w' ∧ Later w.heap.size v v'
theorem Wrote.refl {w : World} {b : Nat} {v : Value} {l : List Nat} (h : Out w b v l) : Wrote w b v l w := ⟨v, h, Fr.refl _ _ _, Later.refl _ _⟩
theorem Wrote.trans {w w1 w2 : World} {b : Nat} {v v1 : Value} {l : List Nat} (h : Fr b v w w1) (hl : Later w.heap.size v v1) (k : Wrote w1 b v1 l w2) : Wrote w b v l w2 := by
  obtain ⟨v2, k1, k2, k3⟩ := k
  exact ⟨v2, k1, h.trans hl k2, hl.trans k3 h.size⟩
/-- What another writes. -/
theorem Out.fr {w w' : World} {b b2 : Nat} {v v2 : Value} {l : List Nat} (h : Out w b v l) (k : Fr b2 v2 w w') (hb : b ≠ b2) (h1 : some b ≠ v2.ownBlock) (h2 : v.ownBlock ≠ some b2) (h3 : v.ownBlock = none ∨ v.ownBlock ≠ v2.ownBlock) : Out w' b v l := by
  refine ⟨h.1.fr k hb h1, ?_⟩
  obtain ⟨hl, hr⟩ := h.2
  refine ⟨hl, ?_⟩
  rcases hr with hr | ⟨g, cap, cur, rfl, hg, hh, r⟩
  · exact .inl hr
  · refine .inr ⟨g, cap, cur, rfl, hg, ?_, r⟩
    simp only [Value.ownBlock] at h2 h3
    rw [k.block g (Array.getElem?_eq_some_iff.1 hh).1 (fun e => h2 (by rw [e])) (fun e => by simp at h3; exact h3 e)]
    exact hh
theorem Out.below {w w' : World} {b : Nat} {v : Value} {l : List Nat} (h : Out w b v l) (k : Below w.heap.size w w') : Out w' b v l := by
  refine ⟨h.1.below k h.1.lt, h.2.1, ?_⟩
  rcases h.2.2 with hr | ⟨g, cap, cur, rfl, hg, hh, r⟩
  · exact .inl hr
  · exact .inr ⟨g, cap, cur, rfl, hg, (k.block g (Array.getElem?_eq_some_iff.1 hh).1).trans hh, r⟩
theorem Out.len {w : World} {b : Nat} {v : Value} {l : List Nat} (h : Out w b v l) : ∃ a c, v = .slice a l.length c := by
  rcases h.2.2 with ⟨hv, hn⟩ | ⟨g, cap, cur, hv, _⟩
  · exact ⟨none, 0, by rw [hv, hn]⟩
  · exact ⟨_, _, hv⟩
/-- Behind an append onto what was written, stored. -/
theorem out_store {w V V2 : World} {b : Nat} {v v2 : Value} {l x : List Nat} (h : Out w b v l) (hB : Below w.heap.size w V) (hown : V2.ownsRow 0 5 1 v2 (l ++ x).length (U8 (l ++ x))) (hg : V.grownBy V2 v.ownBlock) (hat : v2.ownBlock = v.ownBlock ∨ v2.ownBlock = some V.heap.size) :
    Wrote w b v (l ++ x) (V2.setCell ⟨b, 0, none⟩ v2) ∧ V2.cell? ⟨b, 0, none⟩ = some v ∧ V2.frozen? ⟨b, 0, none⟩ = false := by
  have hbV : b < V.heap.size := Nat.lt_of_lt_of_le h.1.lt hB.size
  have hV2 : Has V2 b 67 [v] := (hg.block b hbV (own_ne h.2 h.1 (by decide))).trans (h.1.below hB h.1.lt)
  have hfr : Fr b v w V2 := ⟨hg.os.trans hB.os, hg.tape.trans hB.tape, hg.output.trans hB.output, Nat.le_trans hB.size hg.size, fun k hk _ hv => (hg.block k (Nat.lt_of_lt_of_le hk hB.size) hv).trans (hB.block k hk)⟩
  have hne : some b ≠ v2.ownBlock := own_ne hown hV2 (by decide)
  refine ⟨⟨v2, ⟨by simpa using hV2.set_ 0 v2, hown.1, ?_⟩, hfr.set 0 v2, ?_⟩, hV2.cell 0, hV2.open_ 0⟩
  · rcases hown.2 with hr | ⟨g, cap, cur, rfl, hg, hh, r⟩
    · exact .inl hr
    · refine .inr ⟨g, cap, cur, rfl, hg, ?_, r⟩
      rw [Below.heap_setCell V2 ⟨b, 0, none⟩ _ g (fun e => hne (by simp [Value.ownBlock, e]))]
      exact hh
  · rcases hat with hat | hat
    · exact .inl hat
    · exact .inr ⟨_, hat, hB.size⟩

/-- The bytes of a string. -/
def bl (s : ByteArray) : List Nat := s.data.toList.map UInt8.toNat
def S (l : List Nat) : ByteArray := ⟨(l.map UInt8.ofNat).toArray⟩
theorem bl_length (s : ByteArray) : (bl s).length = s.size := by simp [bl]
theorem bl_bytes (s : ByteArray) : ∀ c ∈ bl s, c < 256 := fun c hc => by
  obtain ⟨x, _, rfl⟩ := List.mem_map.1 hc
  exact x.toNat_lt
theorem S_bl (s : ByteArray) : S (bl s) = s := by
  obtain ⟨⟨l⟩⟩ := s
  simp only [S, bl, List.map_map]
  congr 2
  conv => rhs; rw [← List.map_id l]
  apply List.map_congr_left
  intro x _
  simp
theorem bl_S {l : List Nat} (h : ∀ c ∈ l, c < 256) : bl (S l) = l := by
  simp only [bl, S, List.map_map]
  conv => rhs; rw [← List.map_id l]
  apply List.map_congr_left
  intro x hx
  simp [Nat.mod_eq_of_lt (h x hx)]
theorem S_size (l : List Nat) : (S l).size = l.length := by simp [S, ByteArray.size]
theorem bl_append (s t : ByteArray) : bl (s ++ t) = bl s ++ bl t := by
  simp [bl, ByteArray.data_append]
theorem bl_inj {s t : ByteArray} (h : bl s = bl t) : s = t := by rw [← S_bl s, h, S_bl]
end Go.Proofs.YtooeahpkhocaeaaGreatDoor
/- How an argument that is a sum comes in: 32 bytes. No condition. -/
namespace Go.Proofs.YtooeahpkhocaeaaGreatDoor
open Go.ChangeShapes Go.WideShapes Go.ChangeAt Go.RowKit

theorem laidOut : laidOutB Tryz.prog = true := by kernel_rfl
theorem c5 : Tryz.prog.cellsOf 5 = 1 := by kernel_rfl
theorem und4 : Tryz.prog.underlying 4 = some .bool := by kernel_rfl

end Go.Proofs.YtooeahpkhocaeaaGreatDoor
/- Graphs as lists of edges: which may be, their order, what is the same. No condition. -/
namespace Go.Proofs.YtooeahpkhocaeaaGreatDoor

/-- From, To, Weight. -/
abbrev E := Int × Int × Int
theorem filter_tt (l : List E) : l.filter (fun _ => true) = l := List.filter_eq_self.2 (fun _ _ => rfl)
end Go.Proofs.YtooeahpkhocaeaaGreatDoor
/- Layer 7: programs, as mathematics. Conditions: none of our own. -/
namespace Go.Proofs.YtooeahpkhocaeaaGreatDoor
set_option maxRecDepth 100000

def great (x : Int) : Bool := decide (x > 1125899906842624) || decide (x < -1125899906842624)
theorem great_no {x : Int} (h : great x = false) : -1125899906842624 ≤ x ∧ x ≤ 1125899906842624 := by simp [great] at h; omega
/-- A vertex: its number, its value, whether it goes on, whether something came, and what. -/
structure Vx where
  id : Int
  val : Int
  act : Bool
  has : Bool
  inn : Int
deriving DecidableEq
def noVx : Vx := ⟨0, 0, false, false, 0⟩
end Go.Proofs.YtooeahpkhocaeaaGreatDoor
/- Plain mathematics: a vertex as bytes, and read again. No condition. -/
namespace Go.Proofs.YtooeahpkhocaeaaGreatDoor
open Wire
set_option maxRecDepth 100000

def rightX (x : Vx) : Bool := decide (0 ≤ x.id) && decide (x.id < 64) && !great x.val && !great x.inn && (x.has || decide (x.inn = 0))
def bitN (b : Bool) : Nat := if b then 1 else 0
/-- Its bytes. -/
def bytesX (x : Vx) : List Nat := num x.id.toNat ++ num (fold x.val) ++ [bitN x.act] ++ [bitN x.has] ++ num (fold x.inn)
/-- So many numbers one by one: they, what is left, the first error. -/
def rdk : Nat → List Nat → List Nat × List Nat × Nat
  | 0, l => ([], l, 0)
  | k + 1, l => if (rd l).2.2 = 0 then ((rd l).1 :: (rdk k (l.drop (rd l).2.1)).1, (rdk k (l.drop (rd l).2.1)).2) else ([], [], (rd l).2.2)
theorem bitN_lt (b : Bool) : bitN b < 128 := by cases b <;> decide
theorem right_parts {x : Vx} (h : rightX x = true) : 0 ≤ x.id ∧ x.id < 64 ∧ great x.val = false ∧ great x.inn = false ∧ (x.has = true ∨ x.inn = 0) := by
  simp [rightX] at h; obtain ⟨⟨⟨⟨h1, h2⟩, h3⟩, h4⟩, h5⟩ := h; exact ⟨h1, h2, h3, h4, h5⟩
theorem fold_small {v : Int} (h : great v = false) : fold v ≤ 2251799813685249 := by
  have := great_no h; unfold fold; split <;> omega
/-- From 5 to 19 bytes. -/
theorem bytesX_size {x : Vx} (h : rightX x = true) : 5 ≤ (bytesX x).length ∧ (bytesX x).length ≤ 19 := by
  obtain ⟨h1, h2, h3, h4, _⟩ := right_parts h
  have f1 := num_le 7 _ (show fold x.val < 128 ^ (7 + 1) by have := fold_small h3; omega)
  have f2 := num_le 7 _ (show fold x.inn < 128 ^ (7 + 1) by have := fold_small h4; omega)
  have p1 := num_pos (fold x.val); have p2 := num_pos (fold x.inn)
  have i1 : (num x.id.toNat).length = 1 := (num_one _).2 (by omega)
  simp only [bytesX, List.length_append, List.length_cons, List.length_nil]
  omega
/-- After i numbers of L: these, and what is left. -/
def RdI (L : List Nat) (i : Nat) (ns l : List Nat) : Prop := rdk 5 L = (ns ++ (rdk (5 - i) l).1, (rdk (5 - i) l).2)
theorem RdI.zero (L : List Nat) : RdI L 0 [] L := rfl
theorem RdI.step {L ns l : List Nat} {i : Nat} (h : RdI L i ns l) (hi : i < 5) (h0 : (rd l).2.2 = 0) : RdI L (i + 1) (ns ++ [(rd l).1]) (l.drop (rd l).2.1) := by
  unfold RdI at h ⊢
  rw [h, show 5 - i = (5 - (i + 1)) + 1 by omega]
  simp only [rdk, h0, if_true, List.append_assoc, List.singleton_append]
theorem RdI.err {L ns l : List Nat} {i : Nat} (h : RdI L i ns l) (hi : i < 5) (h0 : (rd l).2.2 ≠ 0) : (rdk 5 L).2.2 = (rd l).2.2 := by
  unfold RdI at h
  rw [h, show 5 - i = (5 - (i + 1)) + 1 by omega]
  simp only [rdk, h0, if_false]
theorem RdI.all {L ns l : List Nat} (h : RdI L 5 ns l) : rdk 5 L = (ns, l, 0) := by
  unfold RdI at h; rw [h]; simp [rdk]
end Go.Proofs.YtooeahpkhocaeaaGreatDoor
