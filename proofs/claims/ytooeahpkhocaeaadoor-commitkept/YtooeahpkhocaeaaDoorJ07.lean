/- The contracts of hash.begin and (*running).end: a running sum is begun, and told. Conditions: fewer than 10 to the 12 bytes. -/
import Derived.Test.YtooeahpkhocaeaaDoorTake
namespace Go.Proofs.YtooeahpkhocaeaaDoor
open Go.RowKit

set_option maxRecDepth 100000 in
set_option maxHeartbeats 1000000 in
theorem begin_any (w : World) :
    Calls Tryd.prog 68 #[] w fun e w' => e = .returned (.pointer (some ⟨w.heap.size, 0, none⟩)) ∧ w' = w.alloc (.cells (rl Sha.init (List.replicate 64 0) 0 0).toArray 126) := by
  have hz := (zero_of_info (P := Tryd.prog) (t := 126) (v := .agg (U32 [0, 0, 0, 0, 0, 0, 0, 0] ++ (U8 (List.replicate 64 0) ++ [Value.int .i64 0, Value.int .u64 0])).toArray) (n := 74) (by kernel_rfl)).1
  go_enter Tryd.func68, Tryd.ntmps68
  go_wp2
  go_ret
  exact ⟨rfl, rfl⟩

theorem sl_of_own {w : World} {base g : Nat} {v : Value} {l : List Nat} (h : w.ownsRow base 5 1 v l.length (U8 l)) (hg : g < base) : Sl w g v l := by
  rcases h.2 with ⟨rfl, h0⟩ | ⟨g', cap, cur, rfl, hb, hh, hn, hm, hs, ht⟩
  · exact ⟨none, 0, by rw [h0], by omega, by unfold maxLen; omega, fun h => by omega⟩
  · refine ⟨_, cap, rfl, hn, hm, fun hp => ⟨g', 0, rfl, by omega, (Array.getElem?_eq_some_iff.1 hh).1, fun j u hu => ?_⟩⟩
    have := h.cells (g := g') rfl j u hu
    rw [Addr.add_mid] at this
    exact this
theorem kept_alloc {w : World} (h : Kept w) (o : Obj) : Kept (w.alloc o) := fun i hi => by
  rw [World.cell?_alloc_lt w o _ h.pos]; exact h i hi
theorem run_index_agg {P : Program} {ty e : TypeId} {len : Nat} {k : IntKind} {d : TypeDesc} (cs : List Value) (i : Nat) (v : Value) (hu : P.underlying ty = some (.array len e)) (hd : P.underlying e = some d) (hrow : d.isRow = false) (hs : (P.info? e).map (·.size) = some 1) (hi : i < len) (h : cs[i]? = some v) (w : World) :
    (Instr.index ty (.agg cs.toArray) (.int k (i : Int))).run P w = .ok v w := by
  cases hq : P.info? e with
  | none => simp [hq] at hs
  | some ie =>
    have hs' : ie.size = 1 := by simpa [hq] using hs
    have hagg : (isAgg e).run P w = .ok false w := by
      unfold isAgg
      rw [Sem.run_bind, run_underlying hd w]
      cases d <;> simp_all
    have hr : (0 : Int) ≤ (i : Int) ∧ (i : Int) < (len : Int) := by omega
    simp [Instr.index, asIntOf, Sem.run_bind, run_underlying hu w, hr, sizeOf, typeInfo, hq, hs', part, hagg, h]
    intro hh; omega
theorem has_now {w : World} {g : Nat} {s : Sha.St} {part : List Nat} {fill n : Nat} (h : Has w g 126 (rl s part fill n)) : w.rangeAt g 0 (U32 s.list) := rl_now ▸ h.range 0 8
theorem und25 : Tryd.prog.underlying 23 = some (.array 32 5) := by kernel_rfl
theorem size25' : (Tryd.prog.info? 23).map (·.size) = some 32 := by kernel_rfl
/-- The sum's bytes that are told behind k of them, the rest noughts. -/
def hashPart (s : Sha.St) (k : Nat) : List Nat := (Sha.out s).take k ++ List.replicate (32 - k) 0

theorem hashPart_length (s : Sha.St) {k : Nat} (h : k ≤ 32) : (hashPart s k).length = 32 := by
  have : (Sha.out s).length = 32 := by simp [Sha.out, Sha.St.list, Sha.be4]
  simp [hashPart, this]; omega
theorem out_get (s : Sha.St) (h : s.Ok) (i k : Nat) (hi : i < 8) (hk : k < 4) : (Sha.out s)[4 * i + k]? = some (s.list.getD i 0 / 2 ^ (24 - 8 * k) % 256) := by
  have ha := h.a; have hb := h.b; have hc := h.c; have hd := h.d; have he := h.e; have hf := h.f; have hg := h.g; have hh := h.h
  obtain ⟨a, b, c, d, e, f, g, hhh⟩ := s
  match i, hi, k, hk with
  | 0, _, 0, _ => simp [Sha.out, Sha.St.list, Sha.be4] at *; omega
  | 0, _, 1, _ => simp [Sha.out, Sha.St.list, Sha.be4]
  | 0, _, 2, _ => simp [Sha.out, Sha.St.list, Sha.be4]
  | 0, _, 3, _ => simp [Sha.out, Sha.St.list, Sha.be4]
  | 1, _, 0, _ => simp [Sha.out, Sha.St.list, Sha.be4] at *; omega
  | 1, _, 1, _ => simp [Sha.out, Sha.St.list, Sha.be4]
  | 1, _, 2, _ => simp [Sha.out, Sha.St.list, Sha.be4]
  | 1, _, 3, _ => simp [Sha.out, Sha.St.list, Sha.be4]
  | 2, _, 0, _ => simp [Sha.out, Sha.St.list, Sha.be4] at *; omega
  | 2, _, 1, _ => simp [Sha.out, Sha.St.list, Sha.be4]
  | 2, _, 2, _ => simp [Sha.out, Sha.St.list, Sha.be4]
  | 2, _, 3, _ => simp [Sha.out, Sha.St.list, Sha.be4]
  | 3, _, 0, _ => simp [Sha.out, Sha.St.list, Sha.be4] at *; omega
  | 3, _, 1, _ => simp [Sha.out, Sha.St.list, Sha.be4]
  | 3, _, 2, _ => simp [Sha.out, Sha.St.list, Sha.be4]
  | 3, _, 3, _ => simp [Sha.out, Sha.St.list, Sha.be4]
  | 4, _, 0, _ => simp [Sha.out, Sha.St.list, Sha.be4] at *; omega
  | 4, _, 1, _ => simp [Sha.out, Sha.St.list, Sha.be4]
  | 4, _, 2, _ => simp [Sha.out, Sha.St.list, Sha.be4]
  | 4, _, 3, _ => simp [Sha.out, Sha.St.list, Sha.be4]
  | 5, _, 0, _ => simp [Sha.out, Sha.St.list, Sha.be4] at *; omega
  | 5, _, 1, _ => simp [Sha.out, Sha.St.list, Sha.be4]
  | 5, _, 2, _ => simp [Sha.out, Sha.St.list, Sha.be4]
  | 5, _, 3, _ => simp [Sha.out, Sha.St.list, Sha.be4]
  | 6, _, 0, _ => simp [Sha.out, Sha.St.list, Sha.be4] at *; omega
  | 6, _, 1, _ => simp [Sha.out, Sha.St.list, Sha.be4]
  | 6, _, 2, _ => simp [Sha.out, Sha.St.list, Sha.be4]
  | 6, _, 3, _ => simp [Sha.out, Sha.St.list, Sha.be4]
  | 7, _, 0, _ => simp [Sha.out, Sha.St.list, Sha.be4] at *; omega
  | 7, _, 1, _ => simp [Sha.out, Sha.St.list, Sha.be4]
  | 7, _, 2, _ => simp [Sha.out, Sha.St.list, Sha.be4]
  | 7, _, 3, _ => simp [Sha.out, Sha.St.list, Sha.be4]
theorem hashPart_set (s : Sha.St) (h : s.Ok) (i k : Nat) (hi : i < 8) (hk : k < 4) : (hashPart s (4 * i + k)).set (4 * i + k) (s.list.getD i 0 / 2 ^ (24 - 8 * k) % 256) = hashPart s (4 * i + (k + 1)) := by
  have hl : (Sha.out s).length = 32 := by simp [Sha.out, Sha.St.list, Sha.be4]
  have hg := out_get s h i k hi hk
  generalize hn : 4 * i + k = n at *
  rw [show 4 * i + (k + 1) = n + 1 by omega]
  unfold hashPart
  have hr : List.replicate (32 - n) 0 = 0 :: List.replicate (32 - (n + 1)) 0 := by rw [← List.replicate_succ]; congr 1; omega
  rw [List.set_append_right _ _ (by simp [hl]; omega), hr, List.take_add_one, hg]
  simp [hl, show min n 32 = n by omega]
theorem sizeSha {l : List Nat} : (Tryd.prog.info? 23).map (·.size) = some (U8 (Sha.sha l)).toArray.size := by
  rw [size25', List.size_toArray, U8_length, Sha.Holds.sumText]
theorem grown_set_new {w V : World} {r : Option Nat} (h : w.grownBy V r) {g : Nat} (hg : w.heap.size ≤ g) (i : Nat) (u : Value) : w.grownBy (V.setCell ⟨g, i, none⟩ u) r :=
  ⟨h.os, h.tape, h.output, by simpa [World.setCell] using h.size, fun k hk hne => (Below.heap_setCell V ⟨g, i, none⟩ u k (by simp; omega)).trans (h.block k hk hne)⟩
theorem grown_setRow_new {w V : World} {r : Option Nat} (h : w.grownBy V r) {g : Nat} (hg : w.heap.size ≤ g) (cs : Array Value) : w.grownBy (V.setRow g cs) r :=
  ⟨h.os, h.tape, h.output, by simpa [World.setRow] using h.size, fun k hk hne => (setRow_other V g k cs (by omega)).trans (h.block k hk hne)⟩
def EndRel (w : World) (g h : Nat) (s : Sha.St) (k : Nat) (V : World) : Prop := w.grownBy V (some g) ∧ Has V w.heap.size 23 (U8 (List.replicate 32 0)) ∧ Has V h 23 (U8 (hashPart s k))
theorem grown_alloc {w V : World} {r : Option Nat} (h : w.grownBy V r) (o : Obj) : w.grownBy (V.alloc o) r :=
  ⟨h.os, h.tape, h.output, Nat.le_trans h.size (by simp), fun i hi hne => (Below.heap_alloc V o i (Nat.lt_of_lt_of_le hi h.size)).trans (h.block i hi hne)⟩
set_option maxRecDepth 100000 in
set_option maxHeartbeats 1000000 in
theorem end_any (g : Nat) (l : List Nat) (w : World) (hr : RunAt w g l l.length) (hk : Kept w) (hg : 0 < g) (hl : l.length < 1000000000000) :
    Calls Tryd.prog 70 #[.pointer (some ⟨g, 0, none⟩)] w fun e w' => e = .returned (.agg (U8 (Sha.sha l)).toArray) ∧ w.grownBy w' (some g) := by
  obtain ⟨s, part, fill, hh, hb⟩ := hr
  have c73 : w.cell? ⟨g, 73, none⟩ = some (.int .u64 (l.length : Int)) := by rw [hb.cell, rl_bytes hh.len]
  have hgs := hb.lt
  have HL := Lib.hid hl
  have HB := Lib.hid hb
  have HH := Lib.hid hh
  have HK := Lib.hid hk
  clear hl hb hh hk
  go_enter Tryd.func70, Tryd.ntmps70
  go_wp2_with fail
  refine (ending_any l.length (by have := HL.out; omega) _).mono ?_
  rintro e w1 ⟨v, rfl, hown, hbel⟩
  have HO := Lib.hid hown
  have HBe := Lib.hid hbel
  clear hown hbel c73
  go_wp2_with fail
  have hR1 : RunAt w1 g l l.length := ⟨s, part, fill, HH.out, (HB.out.alloc _).below HBe.out (by simp; omega)⟩
  have hV1 : Sl w1 g v (Sha.ending l.length) := sl_of_own HO.out (by simp; omega)
  have hK1 : Kept w1 := (kept_alloc HK.out _).below HBe.out (by simp)
  refine (take_any g l.length l (Sha.ending l.length) v w1 hR1 hV1 (Sha.ending_bytes _) hK1 hg (by have := Sha.ending_le l.length; have := HL.out; omega)).mono ?_
  rintro e w2 ⟨rfl, ⟨s2, part2, fill2, hh2, hb2⟩, hgr⟩
  have hz1 : w.heap.size + 1 ≤ w1.heap.size := by have := HBe.out.size; simpa using this
  have hr1 : Has w1 w.heap.size 23 (U8 (List.replicate 32 0)) := Has.below (Has.new' w 23 (U8 (List.replicate 32 0)) _ _ rfl rfl) HBe.out (by simp)
  have hr2 : Has w2 w.heap.size 23 (U8 (List.replicate 32 0)) := (hgr.block _ (by omega) (fun e => by injection e with e; omega)).trans hr1
  have hW2 : w.grownBy w2 (some g) := grown_trans' ⟨HBe.out.os, HBe.out.tape, HBe.out.output, by omega, fun i hi _ => (HBe.out.block i (by simp; omega)).trans (Below.heap_alloc w _ i hi)⟩ hgr (by omega)
  have HR2 := Lib.hid hr2
  have HW2 := Lib.hid hW2
  have HB2 := Lib.hid hb2
  have HS := Lib.hid (show Sha.out s2 = Sha.sha l from hh2.sum)
  have HOk := Lib.hid hh2.ok
  have hz2 : w.heap.size + 1 ≤ w2.heap.size := Nat.le_trans hz1 hgr.size
  clear hr1 hr2 hW2 hb2 hh2 hR1 hV1 hK1 hgr HO HBe HB HH HK
  go_wp2_with (refine wpList_load_mid rfl 122 (.tmp 16) rfl g 0 rfl (U32 s2.list) (.array 8 117) (has_now (HB2.out.alloc _)) und62 rfl size62' ?_)
  have h0 : EndRel w g w2.heap.size s2 0 (w2.alloc (.cells (U8 (List.replicate 32 0)).toArray 23)) :=
    ⟨grown_alloc HW2.out _, HR2.out.alloc _, Has.new _ _ _⟩
  have H0 := Lib.hid h0
  clear h0
  go_loopw [18] (fun i V => ∃ k : Nat, k ≤ 8 ∧ i = .int .i64 (k : Int) ∧ EndRel w g w2.heap.size s2 (4 * k) V) (fun i _ => 8 - (intOf i).toNat)
  case atStart => exact ⟨0, by omega, rfl, H0.out⟩
  case round =>
    clear H0
    obtain ⟨i, hi, rfl, hrel⟩ := hrel
    have HR := Lib.hid hrel
    clear hrel
    by_cases hlt : i < 8
    · have hix : (U32 s2.list)[i]? = some (.int .u32 (s2.list.getD i 0 : Nat)) := U32_get (by simpa [Sha.St.list] using hlt)
      obtain ⟨x, hx⟩ : ∃ x, x = s2.list.getD i 0 := ⟨_, rfl⟩
      rw [← hx] at hix
      have HX := Lib.hid hx
      clear hx
      have i8 : (i : Int) < 8 := by omega
      have hidx := fun W : World => run_index_agg (P := Tryd.prog) (k := .i64) (U32 s2.list) i _ und62 (by kernel_rfl : Tryd.prog.underlying 117 = some (.int .u32)) rfl (by kernel_rfl) hlt hix W
      clear hix
      go_wp2
      clear hidx
      go_loopw [22] (fun j V => ∃ k : Nat, k ≤ 4 ∧ j = .int .i64 (k : Int) ∧ EndRel w g w2.heap.size s2 (4 * i + k) V) (fun j _ => 4 - (intOf j).toNat)
      case atStart => exact ⟨0, by omega, rfl, HR.out⟩
      case round =>
        clear HR
        obtain ⟨k, hk, rfl, hrel⟩ := hrel
        have HR := Lib.hid hrel
        clear hrel
        by_cases hlt4 : k < 4
        · have j1 : (4 : Int) * i + k < 32 := by omega
          have hold : wr.cell? ⟨w2.heap.size, 4 * i + k, none⟩ = some (.int .u8 ((hashPart s2 (4 * i + k)).getD (4 * i + k) 0 : Nat)) := by
            rw [HR.out.2.2.cell, U8_get (by rw [hashPart_length _ (by omega)]; omega)]
          have hfro := HR.out.2.2.open_ (4 * i + k)
          have HV := Lib.hid (hashPart_set s2 HOk.out i k hlt hlt4)
          go_wp2
          refine ⟨⟨k + 1, by omega, by go_num, ?_⟩, by simp [intOf]; omega⟩
          refine ⟨grown_set_new HR.out.1 (by omega) _ _, HR.out.2.1.far (by simp; omega) _, ?_⟩
          have := HR.out.2.2.set_ (4 * i + k) (.int .u8 ((x / 2 ^ (24 - 8 * k) % 256 : Nat) : Int))
          rw [U8_set, HX.out, HV.out, ← HX.out] at this
          simpa using this
        · go_wp2
          refine ⟨⟨i + 1, by omega, by go_num, ?_⟩, by simp [intOf]; omega⟩
          rw [show 4 * (i + 1) = 4 * i + k by omega]
          exact HR.out
    · have hfin : hashPart s2 (4 * i) = Sha.sha l := by
        rw [show 4 * i = 32 by omega, ← HS.out]
        have : (Sha.out s2).length = 32 := by simp [Sha.out, Sha.St.list, Sha.be4]
        simp [hashPart, ← this]
      have hH := HR.out.2.2
      rw [hfin] at hH
      have HH := Lib.hid hH
      have HR1 := Lib.hid HR.out.1
      have HR0 := Lib.hid HR.out.2.1
      clear hfin hH HR
      go_wp2_with (first
        | (refine wpList_load_row rfl 23 (.tmp 3) rfl w2.heap.size rfl 23 _ (0, 0) (.array 32 5) HH.out und25 rfl sizeSha ?_)
        | (refine wpList_store_row rfl 23 (.tmp 2) (.tmp 38) rfl w.heap.size _ rfl rfl 23 _ HR0.out sizeSha (by simp [Sha.Holds.sumText]) (all_oneCell_toArray (U8_one _)) ?_))
      have hN := setRow_heap wr w.heap.size _ (U8 (Sha.sha l)).toArray 23 _ HR0.out
      refine bodyPost_ret (results_cell_row rfl _ _ w.heap.size 23 _ (0, 0) (.array 32 5) rfl hN und25 rfl sizeSha) rfl ⟨rfl, ?_⟩
      exact grown_setRow_new HR1.out (Nat.le_refl _) _
end Go.Proofs.YtooeahpkhocaeaaDoor
/- The contract of hash.Of: the sum of all parts, one behind another. Conditions: fewer than 10 to the 12 bytes, the table of constants lies as it was laid. -/
namespace Go.Proofs.YtooeahpkhocaeaaDoor
open Go.RowKit

/-- The value v is a slice of slices that read as ps. -/
def Parts (w : World) (v : Value) (ps : List (List Nat)) : Prop :=
  ∃ (A : Option Addr) (c : Nat) (vs : List Value), v = .slice A ps.length c ∧ ps.length ≤ c ∧ c ≤ maxLen ∧ vs.length = ps.length ∧ (0 < ps.length → ∃ b o, A = some ⟨b, o, none⟩ ∧ b < w.heap.size ∧ w.rangeAt b o vs) ∧
    ∀ (i : Nat) u l, vs[i]? = some u → ps[i]? = some l → Sl w w.heap.size u l
theorem Sl.grown {w w' : World} {g g' : Nat} {v : Value} {l : List Nat} (h : Sl w g v l) (k : w.grownBy w' (some g')) (hg : w.heap.size ≤ g') : Sl w' g' v l := by
  obtain ⟨A, c, rfl, h1, h2, h3⟩ := h
  refine ⟨A, c, rfl, h1, h2, fun hp => ?_⟩
  obtain ⟨b, o, rfl, hb, hs, hr⟩ := h3 hp
  exact ⟨b, o, rfl, by omega, Nat.lt_of_lt_of_le hs k.size, range_grown hr k (by omega) hs⟩
/-- Behind i parts. -/
def OfRel (w : World) (ps : List (List Nat)) (i : Nat) (V : World) : Prop :=
  RunAt V (w.heap.size + 1) (ps.take i).flatten (ps.take i).flatten.length ∧ w.grownBy V (some (w.heap.size + 1)) ∧ Kept V ∧ Has V w.heap.size 23 (U8 (List.replicate 32 0))
theorem flatten_take_len (ps : List (List Nat)) (i : Nat) : (ps.take i).flatten.length ≤ ps.flatten.length := by
  conv => rhs; rw [← List.take_append_drop i ps, List.flatten_append, List.length_append]
  omega

set_option maxRecDepth 100000 in
set_option maxHeartbeats 1000000 in
theorem of_any (ps : List (List Nat)) (v : Value) (w : World) (hp : Parts w v ps) (hby : ∀ l ∈ ps, Sha.Bytes l) (hk : Kept w) (hn : ps.flatten.length < 1000000000000) :
    Calls Tryd.prog 59 #[v] w fun e w' => e = .returned (.agg (U8 (Sha.sha ps.flatten)).toArray) ∧ Below w.heap.size w w' := by
  obtain ⟨A, c, vs, rfl, hc1, hc2, hvl, hA, hS⟩ := hp
  unfold maxLen at hc2
  have HVL := Lib.hid hvl
  have HA := Lib.hid hA
  have HS := Lib.hid hS
  have HK := Lib.hid hk
  have HN := Lib.hid hn
  clear hvl hA hS hk hn
  go_enter Tryd.func59, Tryd.ntmps59
  go_wp2_with (go_at_call 68; (with_reducible refine (begin_any _).mono ?_); rintro e w1 ⟨rfl, rfl⟩)
  have hg1 : w.grownBy ((w.alloc (.cells (U8 (List.replicate 32 0)).toArray 23)).alloc (.cells (rl Sha.init (List.replicate 64 0) 0 0).toArray 126)) (some (w.heap.size + 1)) :=
    grown_alloc (grown_alloc ⟨rfl, rfl, rfl, Nat.le_refl _, fun _ _ _ => rfl⟩ _) _
  have h0 : OfRel w ps 0 ((w.alloc (.cells (U8 (List.replicate 32 0)).toArray 23)).alloc (.cells (rl Sha.init (List.replicate 64 0) 0 0).toArray 126)) :=
    ⟨⟨_, _, _, by simpa using Sha.Holds.begin, Has.new' _ _ _ _ _ rfl (by simp)⟩, hg1, kept_alloc (kept_alloc HK.out _) _, (Has.new _ _ _).alloc _⟩
  have H0 := Lib.hid h0
  clear h0 hg1
  go_loopw [9] (fun i V => ∃ k : Nat, k ≤ ps.length ∧ i = .int .i64 (k : Int) ∧ OfRel w ps k V) (fun i _ => ps.length - (intOf i).toNat)
  case atStart => exact ⟨0, by omega, rfl, H0.out⟩
  case round =>
    clear H0
    obtain ⟨k, hk, rfl, hrel⟩ := hrel
    have HR := Lib.hid hrel
    clear hrel
    by_cases hlt : k < ps.length
    · obtain ⟨b, o, rfl, hb, hra⟩ := HA.out (by omega)
      have hvk : vs[k]? = some (vs[k]'(by have := HVL.out; omega)) := List.getElem?_eq_getElem _
      have hc : wr.cell? ⟨b, o + k, none⟩ = some (vs[k]'(by have := HVL.out; omega)) := range_grown hra HR.out.2.1 (by omega) hb k _ hvk
      have hSk := (HS.out k _ _ hvk (List.getElem?_eq_getElem hlt)).grown HR.out.2.1 (by omega)
      have hBk := hby _ (List.getElem_mem hlt)
      have hf : (ps.take (k + 1)).flatten = (ps.take k).flatten ++ ps[k] := by
        rw [List.take_add_one, List.getElem?_eq_getElem hlt, List.flatten_append]; simp only [Option.toList_some, List.flatten_cons, List.flatten_nil, List.append_nil]
      have hle := flatten_take_len ps (k + 1)
      generalize vs[k]'(by have := HVL.out; omega) = u at *
      generalize ps[k] = q at *
      have HF := Lib.hid hf
      have HSk := Lib.hid hSk
      have HLe := Lib.hid hle
      clear hvk hf hSk hle
      have k1 : (k : Int) < ps.length := by omega
      go_wp2_with fail
      refine (take_any (w.heap.size + 1) _ (ps.take k).flatten q u wr HR.out.1 HSk.out hBk HR.out.2.2.1 (by omega) (by have := HLe.out; rw [HF.out, List.length_append] at this; have := HN.out; omega)).mono ?_
      rintro e w2 ⟨rfl, hr2, hgr⟩
      have hsz : w.heap.size + 1 < wr.heap.size := by obtain ⟨_, _, _, _, h⟩ := HR.out.1; exact h.lt
      have hR2 : OfRel w ps (k + 1) w2 := by
        refine ⟨?_, grown_trans' HR.out.2.1 hgr hsz, kept_grown HR.out.2.2.1 hgr (by omega), (hgr.block _ (by omega) (fun e => by injection e with e; omega)).trans HR.out.2.2.2⟩
        rw [HF.out, List.length_append]
        exact hr2
      have HR2 := Lib.hid hR2
      clear hR2 hr2 hgr
      go_wp2
      exact ⟨⟨k + 1, by omega, by go_num, HR2.out⟩, by simp [intOf]; omega⟩
    · have hfin : ps.take k = ps := List.take_of_length_le (by omega)
      have hR := HR.out
      unfold OfRel at hR
      rw [hfin] at hR
      have HR' := Lib.hid hR
      clear hR hfin HR
      go_wp2_with fail
      refine (end_any (w.heap.size + 1) ps.flatten wr HR'.out.1 HR'.out.2.2.1 (by omega) HN.out).mono ?_
      rintro e w2 ⟨rfl, hgr⟩
      have hsz : w.heap.size + 1 < wr.heap.size := by obtain ⟨_, _, _, _, h⟩ := HR'.out.1; exact h.lt
      have HG := Lib.hid (grown_trans' HR'.out.2.1 hgr hsz)
      have HR0 := Lib.hid (show Has w2 w.heap.size 23 (U8 (List.replicate 32 0)) from (hgr.block _ (by omega) (fun e => by injection e with e; omega)).trans HR'.out.2.2.2)
      clear hgr HR'
      go_wp2_with (refine wpList_store_row rfl 23 (.tmp 2) (.tmp 18) rfl w.heap.size _ rfl rfl 23 _ HR0.out sizeSha (by simp [Sha.Holds.sumText]) (all_oneCell_toArray (U8_one _)) ?_)
      have hN := setRow_heap w2 w.heap.size _ (U8 (Sha.sha ps.flatten)).toArray 23 _ HR0.out
      refine bodyPost_ret (results_cell_row rfl _ _ w.heap.size 23 _ (0, 0) (.array 32 5) rfl hN und25 rfl sizeSha) rfl ⟨rfl, ?_⟩
      have := grown_setRow_new HG.out (Nat.le_refl _) (U8 (Sha.sha ps.flatten)).toArray
      exact ⟨this.os, this.tape, this.output, this.size, fun i hi => this.block i hi (fun e => by injection e with e; omega)⟩
end Go.Proofs.YtooeahpkhocaeaaDoor
