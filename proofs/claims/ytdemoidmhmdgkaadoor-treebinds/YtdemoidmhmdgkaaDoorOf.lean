/- The contract of hash.Of: the sum of all parts, one behind another. Conditions: fewer than 10 to the 12 bytes, the table of constants lies as it was laid. -/
import Derived.Test.YtdemoidmhmdgkaaDoorEnd
namespace Go.Proofs.YtdemoidmhmdgkaaDoor
open Go.RowKit

/-- The value v is a slice of slices that read as ps. -/
def Parts (w : World) (v : Value) (ps : List (List Nat)) : Prop :=
  ∃ (A : Option Addr) (c : Nat) (vs : List Value), v = .slice A ps.length c ∧ ps.length ≤ c ∧ c ≤ maxLen ∧ vs.length = ps.length ∧ (0 < ps.length → ∃ b o, A = some ⟨b, o, none⟩ ∧ b < w.heap.size ∧ w.rangeAt b o vs) ∧
    ∀ (i : Nat) u l, vs[i]? = some u → ps[i]? = some l → Sl w w.heap.size u l
theorem Sl.grown {w w' : World} {g g' : Nat} {v : Value} {l : List Nat} (h : Sl w g v l) (k : w.grownBy w' (some g')) (hg : w.heap.size ≤ g') : Sl w' g' v l := by
  obtain ⟨A, c, rfl, h1, h2, h3⟩ := h
  refine ⟨A, c, rfl, h1, h2, fun hp => ?_⟩
  obtain ⟨b, o, rfl, hb, hs, hr⟩ := h3 hp
  exact ⟨b, o, rfl, by omega, Nat.lt_of_lt_of_le hs k.size, range_grown hr k (by omega) hs⟩
/-- Behind i parts. -/
def OfRel (w : World) (ps : List (List Nat)) (i : Nat) (V : World) : Prop :=
  RunAt V (w.heap.size + 1) (ps.take i).flatten (ps.take i).flatten.length ∧ w.grownBy V (some (w.heap.size + 1)) ∧ Kept V ∧ Has V w.heap.size 26 (U8 (List.replicate 32 0))
theorem flatten_take_len (ps : List (List Nat)) (i : Nat) : (ps.take i).flatten.length ≤ ps.flatten.length := by
  conv => rhs; rw [← List.take_append_drop i ps, List.flatten_append, List.length_append]
  omega

set_option maxRecDepth 100000 in
set_option maxHeartbeats 1000000 in
theorem of_any (ps : List (List Nat)) (v : Value) (w : World) (hp : Parts w v ps) (hby : ∀ l ∈ ps, Sha.Bytes l) (hk : Kept w) (hn : ps.flatten.length < 1000000000000) :
    Calls Tryd.prog 18 #[v] w fun e w' => e = .returned (.agg (U8 (Sha.sha ps.flatten)).toArray) ∧ Below w.heap.size w w' := by
  obtain ⟨A, c, vs, rfl, hc1, hc2, hvl, hA, hS⟩ := hp
  unfold maxLen at hc2
  have HVL := Lib.hid hvl
  have HA := Lib.hid hA
  have HS := Lib.hid hS
  have HK := Lib.hid hk
  have HN := Lib.hid hn
  clear hvl hA hS hk hn
  go_enter Tryd.func18, Tryd.ntmps18
  go_wp2_with (go_at_call 46; (with_reducible refine (begin_any _).mono ?_); rintro e w1 ⟨rfl, rfl⟩)
  have hg1 : w.grownBy ((w.alloc (.cells (U8 (List.replicate 32 0)).toArray 26)).alloc (.cells (rl Sha.init (List.replicate 64 0) 0 0).toArray 103)) (some (w.heap.size + 1)) :=
    grown_alloc (grown_alloc ⟨rfl, rfl, rfl, Nat.le_refl _, fun _ _ _ => rfl⟩ _) _
  have h0 : OfRel w ps 0 ((w.alloc (.cells (U8 (List.replicate 32 0)).toArray 26)).alloc (.cells (rl Sha.init (List.replicate 64 0) 0 0).toArray 103)) :=
    ⟨⟨_, _, _, by simpa using Sha.Holds.begin, Has.new' _ _ _ _ _ rfl (by simp)⟩, hg1, kept_alloc (kept_alloc HK.out _) _, (Has.new _ _ _).alloc _⟩
  have H0 := Lib.hid h0
  clear h0 hg1
  go_loopw [9] (fun i V => ∃ k : Nat, k ≤ ps.length ∧ i = .int .i64 (k : Int) ∧ OfRel w ps k V) (fun i _ => ps.length - (intOf i).toNat)
  case atStart => exact ⟨0, by omega, rfl, H0.out⟩
  case round =>
    clear H0
    obtain ⟨k, hk, rfl, hrel⟩ := hrel
    have HR := Lib.hid hrel
    clear hrel
    by_cases hlt : k < ps.length
    · obtain ⟨b, o, rfl, hb, hra⟩ := HA.out (by omega)
      have hvk : vs[k]? = some (vs[k]'(by have := HVL.out; omega)) := List.getElem?_eq_getElem _
      have hc : wr.cell? ⟨b, o + k, none⟩ = some (vs[k]'(by have := HVL.out; omega)) := range_grown hra HR.out.2.1 (by omega) hb k _ hvk
      have hSk := (HS.out k _ _ hvk (List.getElem?_eq_getElem hlt)).grown HR.out.2.1 (by omega)
      have hBk := hby _ (List.getElem_mem hlt)
      have hf : (ps.take (k + 1)).flatten = (ps.take k).flatten ++ ps[k] := by
        rw [List.take_add_one, List.getElem?_eq_getElem hlt, List.flatten_append]; simp only [Option.toList_some, List.flatten_cons, List.flatten_nil, List.append_nil]
      have hle := flatten_take_len ps (k + 1)
      generalize vs[k]'(by have := HVL.out; omega) = u at *
      generalize ps[k] = q at *
      have HF := Lib.hid hf
      have HSk := Lib.hid hSk
      have HLe := Lib.hid hle
      clear hvk hf hSk hle
      have k1 : (k : Int) < ps.length := by omega
      go_wp2_with fail
      refine (take_any (w.heap.size + 1) _ (ps.take k).flatten q u wr HR.out.1 HSk.out hBk HR.out.2.2.1 (by omega) (by have := HLe.out; rw [HF.out, List.length_append] at this; have := HN.out; omega)).mono ?_
      rintro e w2 ⟨rfl, hr2, hgr⟩
      have hsz : w.heap.size + 1 < wr.heap.size := by obtain ⟨_, _, _, _, h⟩ := HR.out.1; exact h.lt
      have hR2 : OfRel w ps (k + 1) w2 := by
        refine ⟨?_, grown_trans' HR.out.2.1 hgr hsz, kept_grown HR.out.2.2.1 hgr (by omega), (hgr.block _ (by omega) (fun e => by injection e with e; omega)).trans HR.out.2.2.2⟩
        rw [HF.out, List.length_append]
        exact hr2
      have HR2 := Lib.hid hR2
      clear hR2 hr2 hgr
      go_wp2
      exact ⟨⟨k + 1, by omega, by go_num, HR2.out⟩, by simp [intOf]; omega⟩
    · have hfin : ps.take k = ps := List.take_of_length_le (by omega)
      have hR := HR.out
      unfold OfRel at hR
      rw [hfin] at hR
      have HR' := Lib.hid hR
      clear hR hfin HR
      go_wp2_with fail
      refine (end_any (w.heap.size + 1) ps.flatten wr HR'.out.1 HR'.out.2.2.1 (by omega) HN.out).mono ?_
      rintro e w2 ⟨rfl, hgr⟩
      have hsz : w.heap.size + 1 < wr.heap.size := by obtain ⟨_, _, _, _, h⟩ := HR'.out.1; exact h.lt
      have HG := Lib.hid (grown_trans' HR'.out.2.1 hgr hsz)
      have HR0 := Lib.hid (show Has w2 w.heap.size 26 (U8 (List.replicate 32 0)) from (hgr.block _ (by omega) (fun e => by injection e with e; omega)).trans HR'.out.2.2.2)
      clear hgr HR'
      go_wp2_with (refine wpList_store_row rfl 26 (.tmp 2) (.tmp 18) rfl w.heap.size _ rfl rfl 26 _ HR0.out sizeSha (by simp [Sha.Holds.sumText]) (all_oneCell_toArray (U8_one _)) ?_)
      have hN := setRow_heap w2 w.heap.size _ (U8 (Sha.sha ps.flatten)).toArray 26 _ HR0.out
      refine bodyPost_ret (results_cell_row rfl _ _ w.heap.size 26 _ (0, 0) (.array 32 5) rfl hN und25 rfl sizeSha) rfl ⟨rfl, ?_⟩
      have := grown_setRow_new HG.out (Nat.le_refl _) (U8 (Sha.sha ps.flatten)).toArray
      exact ⟨this.os, this.tape, this.output, this.size, fun i hi => this.block i hi (fun e => by injection e with e; omega)⟩
end Go.Proofs.YtdemoidmhmdgkaaDoor
