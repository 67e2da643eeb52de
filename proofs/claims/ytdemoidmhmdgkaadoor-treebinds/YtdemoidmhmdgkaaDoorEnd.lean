/- The contracts of hash.begin and (*running).end: a running sum is begun, and told. Conditions: fewer than 10 to the 12 bytes. -/
import Derived.Test.YtdemoidmhmdgkaaDoorTake
namespace Go.Proofs.YtdemoidmhmdgkaaDoor
open Go.RowKit

set_option maxRecDepth 100000 in
set_option maxHeartbeats 1000000 in
theorem begin_any (w : World) :
    Calls Tryd.prog 46 #[] w fun e w' => e = .returned (.pointer (some ⟨w.heap.size, 0, none⟩)) ∧ w' = w.alloc (.cells (rl Sha.init (List.replicate 64 0) 0 0).toArray 103) := by
  have hz := (zero_of_info (P := Tryd.prog) (t := 103) (v := .agg (U32 [0, 0, 0, 0, 0, 0, 0, 0] ++ (U8 (List.replicate 64 0) ++ [Value.int .i64 0, Value.int .u64 0])).toArray) (n := 74) (by kernel_rfl)).1
  go_enter Tryd.func46, Tryd.ntmps46
  go_wp2
  go_ret
  exact ⟨rfl, rfl⟩

theorem sl_of_own {w : World} {base g : Nat} {v : Value} {l : List Nat} (h : w.ownsRow base 5 1 v l.length (U8 l)) (hg : g < base) : Sl w g v l := by
  rcases h.2 with ⟨rfl, h0⟩ | ⟨g', cap, cur, rfl, hb, hh, hn, hm, hs, ht⟩
  · exact ⟨none, 0, by rw [h0], by omega, by unfold maxLen; omega, fun h => by omega⟩
  · refine ⟨_, cap, rfl, hn, hm, fun hp => ⟨g', 0, rfl, by omega, (Array.getElem?_eq_some_iff.1 hh).1, fun j u hu => ?_⟩⟩
    have := h.cells (g := g') rfl j u hu
    rw [Addr.add_mid] at this
    exact this
theorem kept_alloc {w : World} (h : Kept w) (o : Obj) : Kept (w.alloc o) := fun i hi => by
  rw [World.cell?_alloc_lt w o _ h.pos]; exact h i hi
theorem wpList_load_op {P : Program} {ops : Array Oper} {rest : List Oper} {a : Act} {w : World} {Q : Exit → Act → World → Prop} {dst : Option Tmp} {tt : TypeId} {pos : String} {after : Array Edge} (ty : TypeId) (x : Operand)
    (b o : Nat) (hx : a.eval x = .pointer (some ⟨b, o, none⟩)) (cs : List Value) (d : TypeDesc) (hc : w.rangeAt b o cs)
    (hu : P.underlying ty = some d) (hd : d.isRow = true) (hi : (P.info? ty).map (·.size) = some cs.length)
    (h : wpList P ops Q rest (a.put dst (.agg cs.toArray)) w) : wpList P ops Q ({ dst := dst, op := .load ty x, type := tt, pos := pos, after := after, guard := none } :: rest) a w :=
  wpList_load_mid rfl ty x rfl b o hx cs d hc hu hd hi h
theorem run_index_agg {P : Program} {ty e : TypeId} {len : Nat} {k : IntKind} {d : TypeDesc} (cs : List Value) (i : Nat) (v : Value) (hu : P.underlying ty = some (.array len e)) (hd : P.underlying e = some d) (hrow : d.isRow = false) (hs : (P.info? e).map (·.size) = some 1) (hi : i < len) (h : cs[i]? = some v) (w : World) :
    (Instr.index ty (.agg cs.toArray) (.int k (i : Int))).run P w = .ok v w := by
  cases hq : P.info? e with
  | none => simp [hq] at hs
  | some ie =>
    have hs' : ie.size = 1 := by simpa [hq] using hs
    have hagg : (isAgg e).run P w = .ok false w := by
      unfold isAgg
      rw [Sem.run_bind, run_underlying hd w]
      cases d <;> simp_all
    have hr : (0 : Int) ≤ (i : Int) ∧ (i : Int) < (len : Int) := by omega
    simp [Instr.index, asIntOf, Sem.run_bind, run_underlying hu w, hr, sizeOf, typeInfo, hq, hs', part, hagg, h]
    intro hh; omega
theorem has_now {w : World} {g : Nat} {s : Sha.St} {part : List Nat} {fill n : Nat} (h : Has w g 103 (rl s part fill n)) : w.rangeAt g 0 (U32 s.list) := rl_now ▸ h.range 0 8
theorem und25 : Tryd.prog.underlying 26 = some (.array 32 5) := by kernel_rfl
theorem size25' : (Tryd.prog.info? 26).map (·.size) = some 32 := by kernel_rfl
/-- The sum's bytes that are told behind k of them, the rest noughts. -/
def hashPart (s : Sha.St) (k : Nat) : List Nat := (Sha.out s).take k ++ List.replicate (32 - k) 0

theorem hashPart_length (s : Sha.St) {k : Nat} (h : k ≤ 32) : (hashPart s k).length = 32 := by
  have : (Sha.out s).length = 32 := by simp [Sha.out, Sha.St.list, Sha.be4]
  simp [hashPart, this]; omega
theorem out_get (s : Sha.St) (h : s.Ok) (i k : Nat) (hi : i < 8) (hk : k < 4) : (Sha.out s)[4 * i + k]? = some (s.list.getD i 0 / 2 ^ (24 - 8 * k) % 256) := by
  have ha := h.a; have hb := h.b; have hc := h.c; have hd := h.d; have he := h.e; have hf := h.f; have hg := h.g; have hh := h.h
  obtain ⟨a, b, c, d, e, f, g, hhh⟩ := s
  match i, hi, k, hk with
  | 0, _, 0, _ => simp [Sha.out, Sha.St.list, Sha.be4] at *; omega
  | 0, _, 1, _ => simp [Sha.out, Sha.St.list, Sha.be4]
  | 0, _, 2, _ => simp [Sha.out, Sha.St.list, Sha.be4]
  | 0, _, 3, _ => simp [Sha.out, Sha.St.list, Sha.be4]
  | 1, _, 0, _ => simp [Sha.out, Sha.St.list, Sha.be4] at *; omega
  | 1, _, 1, _ => simp [Sha.out, Sha.St.list, Sha.be4]
  | 1, _, 2, _ => simp [Sha.out, Sha.St.list, Sha.be4]
  | 1, _, 3, _ => simp [Sha.out, Sha.St.list, Sha.be4]
  | 2, _, 0, _ => simp [Sha.out, Sha.St.list, Sha.be4] at *; omega
  | 2, _, 1, _ => simp [Sha.out, Sha.St.list, Sha.be4]
  | 2, _, 2, _ => simp [Sha.out, Sha.St.list, Sha.be4]
  | 2, _, 3, _ => simp [Sha.out, Sha.St.list, Sha.be4]
  | 3, _, 0, _ => simp [Sha.out, Sha.St.list, Sha.be4] at *; omega
  | 3, _, 1, _ => simp [Sha.out, Sha.St.list, Sha.be4]
  | 3, _, 2, _ => simp [Sha.out, Sha.St.list, Sha.be4]
  | 3, _, 3, _ => simp [Sha.out, Sha.St.list, Sha.be4]
  | 4, _, 0, _ => simp [Sha.out, Sha.St.list, Sha.be4] at *; omega
  | 4, _, 1, _ => simp [Sha.out, Sha.St.list, Sha.be4]
  | 4, _, 2, _ => simp [Sha.out, Sha.St.list, Sha.be4]
  | 4, _, 3, _ => simp [Sha.out, Sha.St.list, Sha.be4]
  | 5, _, 0, _ => simp [Sha.out, Sha.St.list, Sha.be4] at *; omega
  | 5, _, 1, _ => simp [Sha.out, Sha.St.list, Sha.be4]
  | 5, _, 2, _ => simp [Sha.out, Sha.St.list, Sha.be4]
  | 5, _, 3, _ => simp [Sha.out, Sha.St.list, Sha.be4]
  | 6, _, 0, _ => simp [Sha.out, Sha.St.list, Sha.be4] at *; omega
  | 6, _, 1, _ => simp [Sha.out, Sha.St.list, Sha.be4]
  | 6, _, 2, _ => simp [Sha.out, Sha.St.list, Sha.be4]
  | 6, _, 3, _ => simp [Sha.out, Sha.St.list, Sha.be4]
  | 7, _, 0, _ => simp [Sha.out, Sha.St.list, Sha.be4] at *; omega
  | 7, _, 1, _ => simp [Sha.out, Sha.St.list, Sha.be4]
  | 7, _, 2, _ => simp [Sha.out, Sha.St.list, Sha.be4]
  | 7, _, 3, _ => simp [Sha.out, Sha.St.list, Sha.be4]
theorem hashPart_set (s : Sha.St) (h : s.Ok) (i k : Nat) (hi : i < 8) (hk : k < 4) : (hashPart s (4 * i + k)).set (4 * i + k) (s.list.getD i 0 / 2 ^ (24 - 8 * k) % 256) = hashPart s (4 * i + (k + 1)) := by
  have hl : (Sha.out s).length = 32 := by simp [Sha.out, Sha.St.list, Sha.be4]
  have hg := out_get s h i k hi hk
  generalize hn : 4 * i + k = n at *
  rw [show 4 * i + (k + 1) = n + 1 by omega]
  unfold hashPart
  have hr : List.replicate (32 - n) 0 = 0 :: List.replicate (32 - (n + 1)) 0 := by rw [← List.replicate_succ]; congr 1; omega
  rw [List.set_append_right _ _ (by simp [hl]; omega), hr, List.take_add_one, hg]
  simp [hl, show min n 32 = n by omega]
theorem sizeSha {l : List Nat} : (Tryd.prog.info? 26).map (·.size) = some (U8 (Sha.sha l)).toArray.size := by
  rw [size25', List.size_toArray, U8_length, Sha.Holds.sumText]
theorem grown_set_new {w V : World} {r : Option Nat} (h : w.grownBy V r) {g : Nat} (hg : w.heap.size ≤ g) (i : Nat) (u : Value) : w.grownBy (V.setCell ⟨g, i, none⟩ u) r :=
  ⟨h.os, h.tape, h.output, by simpa [World.setCell] using h.size, fun k hk hne => (Below.heap_setCell V ⟨g, i, none⟩ u k (by simp; omega)).trans (h.block k hk hne)⟩
theorem grown_setRow_new {w V : World} {r : Option Nat} (h : w.grownBy V r) {g : Nat} (hg : w.heap.size ≤ g) (cs : Array Value) : w.grownBy (V.setRow g cs) r :=
  ⟨h.os, h.tape, h.output, by simpa [World.setRow] using h.size, fun k hk hne => (setRow_other V g k cs (by omega)).trans (h.block k hk hne)⟩
def EndRel (w : World) (g h : Nat) (s : Sha.St) (k : Nat) (V : World) : Prop := w.grownBy V (some g) ∧ Has V w.heap.size 26 (U8 (List.replicate 32 0)) ∧ Has V h 26 (U8 (hashPart s k))
theorem grown_alloc {w V : World} {r : Option Nat} (h : w.grownBy V r) (o : Obj) : w.grownBy (V.alloc o) r :=
  ⟨h.os, h.tape, h.output, Nat.le_trans h.size (by simp), fun i hi hne => (Below.heap_alloc V o i (Nat.lt_of_lt_of_le hi h.size)).trans (h.block i hi hne)⟩
set_option maxRecDepth 100000 in
set_option maxHeartbeats 1000000 in
theorem end_any (g : Nat) (l : List Nat) (w : World) (hr : RunAt w g l l.length) (hk : Kept w) (hg : 0 < g) (hl : l.length < 1000000000000) :
    Calls Tryd.prog 48 #[.pointer (some ⟨g, 0, none⟩)] w fun e w' => e = .returned (.agg (U8 (Sha.sha l)).toArray) ∧ w.grownBy w' (some g) := by
  obtain ⟨s, part, fill, hh, hb⟩ := hr
  have c73 : w.cell? ⟨g, 73, none⟩ = some (.int .u64 (l.length : Int)) := by rw [hb.cell, rl_bytes hh.len]
  have hgs := hb.lt
  have HL := Lib.hid hl
  have HB := Lib.hid hb
  have HH := Lib.hid hh
  have HK := Lib.hid hk
  clear hl hb hh hk
  go_enter Tryd.func48, Tryd.ntmps48
  go_wp2_with fail
  refine (ending_any l.length (by have := HL.out; omega) _).mono ?_
  rintro e w1 ⟨v, rfl, hown, hbel⟩
  have HO := Lib.hid hown
  have HBe := Lib.hid hbel
  clear hown hbel c73
  go_wp2_with fail
  have hR1 : RunAt w1 g l l.length := ⟨s, part, fill, HH.out, (HB.out.alloc _).below HBe.out (by simp; omega)⟩
  have hV1 : Sl w1 g v (Sha.ending l.length) := sl_of_own HO.out (by simp; omega)
  have hK1 : Kept w1 := (kept_alloc HK.out _).below HBe.out (by simp)
  refine (take_any g l.length l (Sha.ending l.length) v w1 hR1 hV1 (Sha.ending_bytes _) hK1 hg (by have := Sha.ending_le l.length; have := HL.out; omega)).mono ?_
  rintro e w2 ⟨rfl, ⟨s2, part2, fill2, hh2, hb2⟩, hgr⟩
  have hz1 : w.heap.size + 1 ≤ w1.heap.size := by have := HBe.out.size; simpa using this
  have hr1 : Has w1 w.heap.size 26 (U8 (List.replicate 32 0)) := Has.below (Has.new' w 26 (U8 (List.replicate 32 0)) _ _ rfl rfl) HBe.out (by simp)
  have hr2 : Has w2 w.heap.size 26 (U8 (List.replicate 32 0)) := (hgr.block _ (by omega) (fun e => by injection e with e; omega)).trans hr1
  have hW2 : w.grownBy w2 (some g) := grown_trans' ⟨HBe.out.os, HBe.out.tape, HBe.out.output, by omega, fun i hi _ => (HBe.out.block i (by simp; omega)).trans (Below.heap_alloc w _ i hi)⟩ hgr (by omega)
  have HR2 := Lib.hid hr2
  have HW2 := Lib.hid hW2
  have HB2 := Lib.hid hb2
  have HS := Lib.hid (show Sha.out s2 = Sha.sha l from hh2.sum)
  have HOk := Lib.hid hh2.ok
  have hz2 : w.heap.size + 1 ≤ w2.heap.size := Nat.le_trans hz1 hgr.size
  clear hr1 hr2 hW2 hb2 hh2 hR1 hV1 hK1 hgr HO HBe HB HH HK
  go_wp2_with (refine wpList_load_mid rfl 99 (.tmp 16) rfl g 0 rfl (U32 s2.list) (.array 8 97) (has_now (HB2.out.alloc _)) und62 rfl size62' ?_)
  have h0 : EndRel w g w2.heap.size s2 0 (w2.alloc (.cells (U8 (List.replicate 32 0)).toArray 26)) :=
    ⟨grown_alloc HW2.out _, HR2.out.alloc _, Has.new _ _ _⟩
  have H0 := Lib.hid h0
  clear h0
  go_loopw [18] (fun i V => ∃ k : Nat, k ≤ 8 ∧ i = .int .i64 (k : Int) ∧ EndRel w g w2.heap.size s2 (4 * k) V) (fun i _ => 8 - (intOf i).toNat)
  case atStart => exact ⟨0, by omega, rfl, H0.out⟩
  case round =>
    clear H0
    obtain ⟨i, hi, rfl, hrel⟩ := hrel
    have HR := Lib.hid hrel
    clear hrel
    by_cases hlt : i < 8
    · have hix : (U32 s2.list)[i]? = some (.int .u32 (s2.list.getD i 0 : Nat)) := U32_get (by simpa [Sha.St.list] using hlt)
      obtain ⟨x, hx⟩ : ∃ x, x = s2.list.getD i 0 := ⟨_, rfl⟩
      rw [← hx] at hix
      have HX := Lib.hid hx
      clear hx
      have i8 : (i : Int) < 8 := by omega
      have hidx := fun W : World => run_index_agg (P := Tryd.prog) (k := .i64) (U32 s2.list) i _ und62 (by kernel_rfl : Tryd.prog.underlying 97 = some (.int .u32)) rfl (by kernel_rfl) hlt hix W
      clear hix
      go_wp2
      clear hidx
      go_loopw [22] (fun j V => ∃ k : Nat, k ≤ 4 ∧ j = .int .i64 (k : Int) ∧ EndRel w g w2.heap.size s2 (4 * i + k) V) (fun j _ => 4 - (intOf j).toNat)
      case atStart => exact ⟨0, by omega, rfl, HR.out⟩
      case round =>
        clear HR
        obtain ⟨k, hk, rfl, hrel⟩ := hrel
        have HR := Lib.hid hrel
        clear hrel
        by_cases hlt4 : k < 4
        · have j1 : (4 : Int) * i + k < 32 := by omega
          have hold : wr.cell? ⟨w2.heap.size, 4 * i + k, none⟩ = some (.int .u8 ((hashPart s2 (4 * i + k)).getD (4 * i + k) 0 : Nat)) := by
            rw [HR.out.2.2.cell, U8_get (by rw [hashPart_length _ (by omega)]; omega)]
          have hfro := HR.out.2.2.open_ (4 * i + k)
          have HV := Lib.hid (hashPart_set s2 HOk.out i k hlt hlt4)
          go_wp2
          refine ⟨⟨k + 1, by omega, by go_num, ?_⟩, by simp [intOf]; omega⟩
          refine ⟨grown_set_new HR.out.1 (by omega) _ _, HR.out.2.1.far (by simp; omega) _, ?_⟩
          have := HR.out.2.2.set_ (4 * i + k) (.int .u8 ((x / 2 ^ (24 - 8 * k) % 256 : Nat) : Int))
          rw [U8_set, HX.out, HV.out, ← HX.out] at this
          simpa using this
        · go_wp2
          refine ⟨⟨i + 1, by omega, by go_num, ?_⟩, by simp [intOf]; omega⟩
          rw [show 4 * (i + 1) = 4 * i + k by omega]
          exact HR.out
    · have hfin : hashPart s2 (4 * i) = Sha.sha l := by
        rw [show 4 * i = 32 by omega, ← HS.out]
        have : (Sha.out s2).length = 32 := by simp [Sha.out, Sha.St.list, Sha.be4]
        simp [hashPart, ← this]
      have hH := HR.out.2.2
      rw [hfin] at hH
      have HH := Lib.hid hH
      have HR1 := Lib.hid HR.out.1
      have HR0 := Lib.hid HR.out.2.1
      clear hfin hH HR
      go_wp2_with (first
        | (refine wpList_load_row rfl 26 (.tmp 3) rfl w2.heap.size rfl 26 _ (0, 0) (.array 32 5) HH.out und25 rfl sizeSha ?_)
        | (refine wpList_store_row rfl 26 (.tmp 2) (.tmp 38) rfl w.heap.size _ rfl rfl 26 _ HR0.out sizeSha (by simp [Sha.Holds.sumText]) (all_oneCell_toArray (U8_one _)) ?_))
      have hN := setRow_heap wr w.heap.size _ (U8 (Sha.sha l)).toArray 26 _ HR0.out
      refine bodyPost_ret (results_cell_row rfl _ _ w.heap.size 26 _ (0, 0) (.array 32 5) rfl hN und25 rfl sizeSha) rfl ⟨rfl, ?_⟩
      exact grown_setRow_new HR1.out (Nat.le_refl _) _
end Go.Proofs.YtdemoidmhmdgkaaDoor
