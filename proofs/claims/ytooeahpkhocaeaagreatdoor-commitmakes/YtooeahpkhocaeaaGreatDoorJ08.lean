/- Plain mathematics: trees of sums, as the document's chapter 3 says it. No condition. -/
import Derived.Test.YtooeahpkhocaeaaGreatDoorMath2
import Derived.Test.YtooeahpkhocaeaaGreatDoorJ00
import Derived.Test.YtooeahpkhocaeaaGreatDoorJ05
import Derived.Laws.BitsAllLaws
import Derived.Deep.RegionLaw
import Derived.Deep.AppendLies
import Derived.BigRegion
namespace Tree

/-- How many bits a number has. -/
def blen (x : Nat) : Nat := if x = 0 then 0 else Nat.log2 x + 1
def half (n : Nat) : Nat := 2 ^ Nat.log2 (n - 1)
theorem half_pos (n : Nat) : 1 ≤ half n := Nat.pow_pos (by omega)
theorem half_lt {n : Nat} (h : 2 ≤ n) : half n < n := by
  have := Nat.log2_self_le (n := n - 1) (by omega)
  unfold half; omega
theorem half_blen {n : Nat} (h : 2 ≤ n) : half n = 2 ^ (blen (n - 1) - 1) := by
  unfold half blen
  rw [if_neg (by omega)]; simp
theorem blen_shift (x k : Nat) (h : 2 ^ k ≤ x) : blen x = blen (x / 2 ^ k) + k := by
  have hp : 0 < 2 ^ k := Nat.pow_pos (by omega)
  have hd : 0 < x / 2 ^ k := Nat.div_pos h hp
  unfold blen
  rw [if_neg (by omega), if_neg (by omega)]
  have h1 : x ≠ 0 := by omega
  have : Nat.log2 x = Nat.log2 (x / 2 ^ k) + k := by
    rw [Nat.log2_eq_iff h1]
    have h2 := Nat.log2_self_le (n := x / 2 ^ k) (by omega)
    have h3 := Nat.lt_log2_self (n := x / 2 ^ k)
    rw [Nat.le_div_iff_mul_le hp, ← Nat.pow_add] at h2
    rw [Nat.div_lt_iff_lt_mul hp, ← Nat.pow_add] at h3
    refine ⟨h2, ?_⟩
    rw [show Nat.log2 (x / 2 ^ k) + k + 1 = Nat.log2 (x / 2 ^ k) + 1 + k by omega]
    exact h3
  omega
theorem blen_le (x k : Nat) (h : x < 2 ^ k) : blen x ≤ k := by
  unfold blen
  split
  · omega
  · have := (Nat.log2_lt (by assumption)).2 h
    omega
theorem blen_pos {x : Nat} (h : 0 < x) : 1 ≤ blen x := by unfold blen; rw [if_neg (by omega)]; omega

def leaf (s : List Nat) : List Nat := Sha.sha (0 :: s)
def node (a b : List Nat) : List Nat := Sha.sha (1 :: (a ++ b))
def root (n : Nat) (t : List Nat) : List Nat := Sha.sha (3 :: (Wire.num n ++ t))
def top (l : List (List Nat)) : List Nat :=
  if _h : l.length < 2 then (match l with | [] => Sha.sha [2] | s :: _ => leaf s)
  else node (top (l.take (half l.length))) (top (l.drop (half l.length)))
termination_by l.length
decreasing_by
  · have := half_lt (n := l.length) (by omega); rw [List.length_take]; omega
  · have := half_pos l.length; have := half_lt (n := l.length) (by omega); rw [List.length_drop]; omega
theorem top_nil : top [] = Sha.sha [2] := by rw [top]; simp
theorem top_one (s : List Nat) : top [s] = leaf s := by rw [top]; simp
theorem top_more {l : List (List Nat)} (h : 2 ≤ l.length) : top l = node (top (l.take (half l.length))) (top (l.drop (half l.length))) := by
  rw [top, dif_neg (by omega)]
/-- One part beside the way. -/
def step (t other : List Nat) (left : Bool) : List Nat := if left then node other t else node t other
theorem leaf_len (s : List Nat) : (leaf s).length = 32 := Sha.Holds.sumText
theorem node_len (a b : List Nat) : (node a b).length = 32 := Sha.Holds.sumText
end Tree
/- The contract of hash.Of: the sum of all parts, one behind another. Conditions: fewer than 10 to the 12 bytes, the table of constants lies as it was laid. -/
namespace Go.Proofs.YtooeahpkhocaeaaGreatDoor
open Go.RowKit

/-- The value v is a slice of slices that read as ps. -/
def Parts (w : World) (v : Value) (ps : List (List Nat)) : Prop :=
  ∃ (A : Option Addr) (c : Nat) (vs : List Value), v = .slice A ps.length c ∧ ps.length ≤ c ∧ c ≤ maxLen ∧ vs.length = ps.length ∧ (0 < ps.length → ∃ b o, A = some ⟨b, o, none⟩ ∧ b < w.heap.size ∧ w.rangeAt b o vs) ∧
    ∀ (i : Nat) u l, vs[i]? = some u → ps[i]? = some l → Sl w w.heap.size u l
theorem Sl.grown {w w' : World} {g g' : Nat} {v : Value} {l : List Nat} (h : Sl w g v l) (k : w.grownBy w' (some g')) (hg : w.heap.size ≤ g') : Sl w' g' v l := by
  obtain ⟨A, c, rfl, h1, h2, h3⟩ := h
  refine ⟨A, c, rfl, h1, h2, fun hp => ?_⟩
  obtain ⟨b, o, rfl, hb, hs, hr⟩ := h3 hp
  exact ⟨b, o, rfl, by omega, Nat.lt_of_lt_of_le hs k.size, range_grown hr k (by omega) hs⟩
/-- Behind i parts. -/
def OfRel (w : World) (ps : List (List Nat)) (i : Nat) (V : World) : Prop :=
  RunAt V (w.heap.size + 1) (ps.take i).flatten (ps.take i).flatten.length ∧ w.grownBy V (some (w.heap.size + 1)) ∧ Kept V ∧ Has V w.heap.size 25 (U8 (List.replicate 32 0))
theorem flatten_take_len (ps : List (List Nat)) (i : Nat) : (ps.take i).flatten.length ≤ ps.flatten.length := by
  conv => rhs; rw [← List.take_append_drop i ps, List.flatten_append, List.length_append]
  omega

set_option maxRecDepth 100000 in
set_option maxHeartbeats 1000000 in
theorem of_any (ps : List (List Nat)) (v : Value) (w : World) (hp : Parts w v ps) (hby : ∀ l ∈ ps, Sha.Bytes l) (hk : Kept w) (hn : ps.flatten.length < 1000000000000) :
    Calls Tryz.prog 70 #[v] w fun e w' => e = .returned (.agg (U8 (Sha.sha ps.flatten)).toArray) ∧ Below w.heap.size w w' := by
  obtain ⟨A, c, vs, rfl, hc1, hc2, hvl, hA, hS⟩ := hp
  unfold maxLen at hc2
  have HVL := Lib.hid hvl
  have HA := Lib.hid hA
  have HS := Lib.hid hS
  have HK := Lib.hid hk
  have HN := Lib.hid hn
  clear hvl hA hS hk hn
  go_enter Tryz.func70, Tryz.ntmps70
  go_wp2_with (go_at_call 84; (with_reducible refine (begin_any _).mono ?_); rintro e w1 ⟨rfl, rfl⟩)
  have hg1 : w.grownBy ((w.alloc (.cells (U8 (List.replicate 32 0)).toArray 25)).alloc (.cells (rl Sha.init (List.replicate 64 0) 0 0).toArray 131)) (some (w.heap.size + 1)) :=
    grown_alloc (grown_alloc ⟨rfl, rfl, rfl, Nat.le_refl _, fun _ _ _ => rfl⟩ _) _
  have h0 : OfRel w ps 0 ((w.alloc (.cells (U8 (List.replicate 32 0)).toArray 25)).alloc (.cells (rl Sha.init (List.replicate 64 0) 0 0).toArray 131)) :=
    ⟨⟨_, _, _, by simpa using Sha.Holds.begin, Has.new' _ _ _ _ _ rfl (by simp)⟩, hg1, kept_alloc (kept_alloc HK.out _) _, (Has.new _ _ _).alloc _⟩
  have H0 := Lib.hid h0
  clear h0 hg1
  go_loopw [9] (fun i V => ∃ k : Nat, k ≤ ps.length ∧ i = .int .i64 (k : Int) ∧ OfRel w ps k V) (fun i _ => ps.length - (intOf i).toNat)
  case atStart => exact ⟨0, by omega, rfl, H0.out⟩
  case round =>
    clear H0
    obtain ⟨k, hk, rfl, hrel⟩ := hrel
    have HR := Lib.hid hrel
    clear hrel
    by_cases hlt : k < ps.length
    · obtain ⟨b, o, rfl, hb, hra⟩ := HA.out (by omega)
      have hvk : vs[k]? = some (vs[k]'(by have := HVL.out; omega)) := List.getElem?_eq_getElem _
      have hc : wr.cell? ⟨b, o + k, none⟩ = some (vs[k]'(by have := HVL.out; omega)) := range_grown hra HR.out.2.1 (by omega) hb k _ hvk
      have hSk := (HS.out k _ _ hvk (List.getElem?_eq_getElem hlt)).grown HR.out.2.1 (by omega)
      have hBk := hby _ (List.getElem_mem hlt)
      have hf : (ps.take (k + 1)).flatten = (ps.take k).flatten ++ ps[k] := by
        rw [List.take_add_one, List.getElem?_eq_getElem hlt, List.flatten_append]; simp only [Option.toList_some, List.flatten_cons, List.flatten_nil, List.append_nil]
      have hle := flatten_take_len ps (k + 1)
      generalize vs[k]'(by have := HVL.out; omega) = u at *
      generalize ps[k] = q at *
      have HF := Lib.hid hf
      have HSk := Lib.hid hSk
      have HLe := Lib.hid hle
      clear hvk hf hSk hle
      have k1 : (k : Int) < ps.length := by omega
      go_wp2_with fail
      refine (take_any (w.heap.size + 1) _ (ps.take k).flatten q u wr HR.out.1 HSk.out hBk HR.out.2.2.1 (by omega) (by have := HLe.out; rw [HF.out, List.length_append] at this; have := HN.out; omega)).mono ?_
      rintro e w2 ⟨rfl, hr2, hgr⟩
      have hsz : w.heap.size + 1 < wr.heap.size := by obtain ⟨_, _, _, _, h⟩ := HR.out.1; exact h.lt
      have hR2 : OfRel w ps (k + 1) w2 := by
        refine ⟨?_, grown_trans' HR.out.2.1 hgr hsz, kept_grown HR.out.2.2.1 hgr (by omega), (hgr.block _ (by omega) (fun e => by injection e with e; omega)).trans HR.out.2.2.2⟩
        rw [HF.out, List.length_append]
        exact hr2
      have HR2 := Lib.hid hR2
      clear hR2 hr2 hgr
      go_wp2
      exact ⟨⟨k + 1, by omega, by go_num, HR2.out⟩, by simp [intOf]; omega⟩
    · have hfin : ps.take k = ps := List.take_of_length_le (by omega)
      have hR := HR.out
      unfold OfRel at hR
      rw [hfin] at hR
      have HR' := Lib.hid hR
      clear hR hfin HR
      go_wp2_with fail
      refine (end_any (w.heap.size + 1) ps.flatten wr HR'.out.1 HR'.out.2.2.1 (by omega) HN.out).mono ?_
      rintro e w2 ⟨rfl, hgr⟩
      have hsz : w.heap.size + 1 < wr.heap.size := by obtain ⟨_, _, _, _, h⟩ := HR'.out.1; exact h.lt
      have HG := Lib.hid (grown_trans' HR'.out.2.1 hgr hsz)
      have HR0 := Lib.hid (show Has w2 w.heap.size 25 (U8 (List.replicate 32 0)) from (hgr.block _ (by omega) (fun e => by injection e with e; omega)).trans HR'.out.2.2.2)
      clear hgr HR'
      go_wp2_with (refine wpList_store_row rfl 25 (.tmp 2) (.tmp 18) rfl w.heap.size _ rfl rfl 25 _ HR0.out sizeSha (by simp [Sha.Holds.sumText]) (all_oneCell_toArray (U8_one _)) ?_)
      have hN := setRow_heap w2 w.heap.size _ (U8 (Sha.sha ps.flatten)).toArray 25 _ HR0.out
      refine bodyPost_ret (results_cell_row rfl _ _ w.heap.size 25 _ (0, 0) (.array 32 5) rfl hN und25 rfl sizeSha) rfl ⟨rfl, ?_⟩
      have := grown_setRow_new HG.out (Nat.le_refl _) (U8 (Sha.sha ps.flatten)).toArray
      exact ⟨this.os, this.tape, this.output, this.size, fun i hi => this.block i hi (fun e => by injection e with e; omega)⟩
end Go.Proofs.YtooeahpkhocaeaaGreatDoor
/- The contracts of NewOut, Out.Num, Done, folded. Conditions: what was written has at most 100000 bytes; a number of 64 bits. -/
namespace Go.Proofs.YtooeahpkhocaeaaGreatDoor
open Go.RowKit

theorem newOut_any (w : World) : Calls Tryz.prog 20 #[] w fun e w' => e = .returned (.pointer (some ⟨w.heap.size, 0, none⟩)) ∧ w' = w.alloc (.cells #[.slice none 0 0] 67) := by
  go_enter Tryz.func20, Tryz.ntmps20
  go_wp2
  go_ret
  exact ⟨rfl, rfl⟩
theorem out_new (w : World) : Out (w.alloc (.cells #[.slice none 0 0] 67)) w.heap.size (.slice none 0 0) [] := ⟨Has.new w 67 [.slice none 0 0], World.ownsRow_nil _ _ _ _⟩

theorem or128 (n : Nat) (h : n < 256) : bits BinOp.or IntKind.u8 (n : Int) 128 = ((n % 128 + 128 : Nat) : Int) := by
  have : ∀ n : Nat, n < 256 → bits BinOp.or IntKind.u8 (n : Int) 128 = ((n % 128 + 128 : Nat) : Int) := by decide +kernel
  exact this n h

theorem own_shape {w : World} {base n : Nat} {e : TypeId} {size : Nat} {v : Value} {xs : List Value} (h : w.ownsRow base e size v n xs) : ∃ a c, v = .slice a n c := by
  rcases h.2 with ⟨hv, hn⟩ | ⟨g, cap, cur, hv, _⟩
  · exact ⟨none, 0, by rw [hv, hn]⟩
  · exact ⟨_, _, hv⟩
theorem out_one {w : World} {b x : Nat} {v : Value} {l : List Nat} (h : Out w b v l) : ∀ v2 V2, V2.ownsRow 0 5 1 v2 (l.length + 1) (U8 l ++ [.int .u8 (x : Int)]) → (w.alloc (.cells #[.int .u8 (x : Int)] 5)).grownBy V2 v.ownBlock → (v2.ownBlock = v.ownBlock ∨ v2.ownBlock = some (w.alloc (.cells #[.int .u8 (x : Int)] 5)).heap.size) →
    Wrote w b v (l ++ [x]) (V2.setCell ⟨b, 0, none⟩ v2) ∧ V2.cell? ⟨b, 0, none⟩ = some v ∧ V2.frozen? ⟨b, 0, none⟩ = false := fun v2 V2 h1 h2 h3 =>
  out_store h ((Below.refl _ _).alloc (Nat.le_refl _) _) (by rw [List.length_append, U8_append]; exact h1) h2 h3
def NumRel (w : World) (b : Nat) (v : Value) (all : List Nat) (t : Value) (V : World) : Prop := ∃ (m : Nat) (l' : List Nat), t = .int .u64 (m : Int) ∧ m < 18446744073709551616 ∧ Wrote w b v l' V ∧ l' ++ Wire.num m = all
set_option maxRecDepth 100000 in
set_option maxHeartbeats 1000000 in
theorem outNum_any (b n : Nat) (v : Value) (l : List Nat) (w : World) (hn : n < 18446744073709551616) (h : Out w b v l) (hl : l.length ≤ 100000) :
    Calls Tryz.prog 21 #[.pointer (some ⟨b, 0, none⟩), .int .u64 (n : Int)] w fun e w' => e = .returned (.tuple #[]) ∧ Wrote w b v (l ++ Wire.num n) w' := by
  have H0 := Lib.hid (show NumRel w b v (l ++ Wire.num n) (.int .u64 (n : Int)) w from ⟨n, l, rfl, hn, Wrote.refl h, rfl⟩)
  have HA := Lib.hid (show (l ++ Wire.num n).length ≤ 100010 by have := Wire.num_len10 n hn; simp; omega)
  clear h hl
  generalize l ++ Wire.num n = all at *
  go_enter Tryz.func21, Tryz.ntmps21
  go_wp2_with fail
  go_loopw [1] (fun t V => NumRel w b v all t V) (fun t _ => (intOf t).toNat)
  case atStart => exact H0.out
  case round =>
    clear H0
    obtain ⟨m, l', ht, hm, hw, ha⟩ := hrel
    subst ht
    obtain ⟨v1, ho, hf, hla⟩ := hw
    have HF := Lib.hid hf
    have HL := Lib.hid hla
    have hll : l'.length ≤ 100010 := by have := HA.out; rw [← ha] at this; simp at this; omega
    have HAll := Lib.hid ha
    have c1 : wr.cell? ⟨b, 0, none⟩ = some v1 := ho.1.cell 0
    obtain ⟨i0, hi, hz0, hzs, hzb⟩ := info_parts infoW5
    have HI := Lib.hid hi
    have HZ0 := Lib.hid hz0
    have HZs := Lib.hid hzs
    have HZb := Lib.hid hzb
    clear hf hla ha hi hz0 hzs hzb
    by_cases hlt : m < 128
    · have hx : (m : Int) % 256 = (m : Int) := by omega
      have HStep := Lib.hid (out_one (x := m) ho)
      have HOwn := Lib.hid (ho.2.alloc (.cells #[.int .u8 (m : Int)] 5))
      clear ho
      go_wp2_with (at_builtin; refine wpList_append_own_at _ rfl _ _ 65 rfl 0 5 i0 (.int .u8 0) 1 1 und59 HI.out HZ0.out HZs.out HZb.out rfl (by decide) _ _ _ rfl HOwn.out ⟨wr.heap.size, 0, none⟩ 1 1 [.int .u8 (m : Int)] rfl rfl (cell_one_new _ _ _) (fun u hu => by rw [List.mem_singleton.1 hu]; rfl) (by unfold maxLen; omega) (by omega) (Nat.zero_le _) ?_; intro v2 V2 hown2 hgr2 hnil2 hat2; obtain ⟨A2, C2, rfl⟩ := own_shape hown2; obtain ⟨hst, c2, f2⟩ := HStep.out _ V2 hown2 hgr2 hat2)
      go_end0
      refine ⟨rfl, ?_⟩
      rw [← HAll.out, Wire.num_lt hlt]
      exact Wrote.trans HF.out HL.out hst
    · have hx : (m : Int) % 256 = ((m % 256 : Nat) : Int) := by simp
      have hor := or128 (m % 256) (by omega)
      rw [show m % 256 % 128 = m % 128 by omega] at hor
      generalize m % 256 = y at *
      generalize hq : m % 128 + 128 = x at *
      have HQ := Lib.hid hq
      have HStep := Lib.hid (out_one (x := x) ho)
      have HOwn := Lib.hid (ho.2.alloc (.cells #[.int .u8 (x : Int)] 5))
      clear hq ho
      go_wp2_with (at_builtin; refine wpList_append_own_at _ rfl _ _ 65 rfl 0 5 i0 (.int .u8 0) 1 1 und59 HI.out HZ0.out HZs.out HZb.out rfl (by decide) _ _ _ rfl HOwn.out ⟨wr.heap.size, 0, none⟩ 1 1 [.int .u8 (x : Int)] rfl rfl (cell_one_new _ _ _) (fun u hu => by rw [List.mem_singleton.1 hu]; rfl) (by unfold maxLen; omega) (by omega) (Nat.zero_le _) ?_; intro v2 V2 hown2 hgr2 hnil2 hat2; obtain ⟨A2, C2, rfl⟩ := own_shape hown2; obtain ⟨hst, c2, f2⟩ := HStep.out _ V2 hown2 hgr2 hat2)
      go_round
      case rel => exact ⟨m / 128, l' ++ [x], by go_num, by omega, Wrote.trans HF.out HL.out hst, by rw [← HAll.out, Wire.num_ge hlt, HQ.out]; simp⟩
      case measure => simp [intOf]; omega
end Go.Proofs.YtooeahpkhocaeaaGreatDoor
/- The contract of Out.Hash. Conditions: 32 bytes; what was written has at most 100000 bytes. -/
namespace Go.Proofs.YtooeahpkhocaeaaGreatDoor
open Go.RowKit

set_option maxRecDepth 100000 in
set_option maxHeartbeats 2000000 in
theorem outHash_any (b : Nat) (x : List Nat) (v : Value) (l : List Nat) (w : World) (hx : x.length = 32) (h : Out w b v l) (hl : l.length ≤ 100000) :
    Calls Tryz.prog 22 #[.pointer (some ⟨b, 0, none⟩), .agg (U8 x).toArray] w fun e w' => e = .returned (.tuple #[]) ∧ Wrote w b v (l ++ x) w' := by
  obtain ⟨W, hW⟩ : ∃ W, w.alloc (.cells (U8 x).toArray 25) = W := ⟨_, rfl⟩
  have hX : Has W w.heap.size 25 (U8 x) := by rw [← hW]; exact Has.new _ _ _
  have hB1 : Below w.heap.size w W := by rw [← hW]; exact (Below.refl _ _).alloc (Nat.le_refl _) _
  have hO1 : Out W b v l := h.below hB1
  have c0 : W.drew.cell? ⟨b, 0, none⟩ = some v := hO1.1.cell 0
  have HNews : Hid (∀ j u, (U8 x)[j]? = some u → W.drew.cell? ((⟨w.heap.size, 0, none⟩ : Addr).add j) = some u) := fun j u hu => by
    rw [show (⟨w.heap.size, 0, none⟩ : Addr).add j = ⟨w.heap.size, j, none⟩ from by unfold Addr.add; split <;> simp_all]
    exact (hX.cell j).trans hu
  have HLx : Hid ((U8 x).length = 32 * 1) := by show _ = _; rw [U8_length, hx]
  have HOwn : Hid (W.drew.ownsRow 0 5 1 v l.length (U8 l)) := hO1.2
  have HStep : Hid (∀ (g cap : Nat) (V2 : World), V2.ownsRow 0 5 1 (.slice (some ⟨g, 0, none⟩) (l.length + 32) cap) (l.length + 32) (U8 l ++ U8 x) → W.drew.grownBy V2 v.ownBlock → (v.ownBlock = some g ∨ g = W.heap.size) →
      Wrote w b v (l ++ x) (V2.setCell ⟨b, 0, none⟩ (.slice (some ⟨g, 0, none⟩) (l.length + 32) cap)) ∧ V2.cell? ⟨b, 0, none⟩ = some v ∧ V2.frozen? ⟨b, 0, none⟩ = false) := fun g cap V2 h1 h2 h3 =>
    out_store h hB1.drew (by rw [List.length_append, U8_append, hx]; exact h1) h2 (by
      rcases h3 with h3 | h3
      · left; rw [h3]; rfl
      · right; rw [h3]; rfl)
  obtain ⟨i0, hi, hz0, hzs, hzb⟩ := info_parts infoW5
  have HI := Lib.hid hi
  have HZ0 := Lib.hid hz0
  have HZs := Lib.hid hzs
  have HZb := Lib.hid hzb
  have HW := Lib.hid hW
  clear h hO1 hx hX hB1 hi hz0 hzs hzb hW
  go_enter Tryz.func22, Tryz.ntmps22
  go_wp2
  rw [HW.out]
  go_region_law ((refine step_append_lies _ rfl (.tmp 8) (.tmp 9) 65 rfl 0 5 i0 (.int .u8 0) 1 1 und59 HI.out HZ0.out HZs.out HZb.out rfl (by decide) v l.length (U8 l) (by simp [Act.eval]) HOwn.out ⟨w.heap.size, 0, none⟩ 32 32 (U8 x) (by simp [Act.eval]) HLx.out HNews.out (U8_one x) (by decide) (by unfold maxLen; omega) (by omega) (Nat.zero_le _) W.heap.size rfl ?_; intro g cap V2 hown2 hgr2 hat2 hlt2; obtain ⟨hst, c2, f2⟩ := HStep.out g cap V2 hown2 hgr2 hat2))
  go_wp2
  go_end0
  exact ⟨rfl, hst⟩
end Go.Proofs.YtooeahpkhocaeaaGreatDoor
/- The contract of Done. Conditions: at most 300000 bytes. -/
namespace Go.Proofs.YtooeahpkhocaeaaGreatDoor
open Go.RowKit

theorem conv_out {w : World} {v : Value} {l : List Nat} (h : w.ownsRow 0 5 1 v l.length (U8 l)) : Sem.run Tryz.prog (convert 65 9 v) w = .ok (.string (S l)) w := by
  rcases h.2 with ⟨hv, hn⟩ | ⟨g, cap, cur, hv, _⟩
  · have hl : l = [] := List.length_eq_zero_iff.1 hn
    subst hl hv
    rw [run_convert_bytes_string (P := Tryz.prog) w 65 9 5 none 0 0 und59 und5 und9]
    rfl
  · subst hv
    have hc := h.cells (g := g) rfl
    have := run_convert_bytes_arg (P := Tryz.prog) (w := w) 65 5 und59 (by kernel_rfl) g 0 l.length cap (l.map fun n : Nat => (n : Int)) (by simp) (fun i hi => by
      have hr := hc i _ (U8_get hi)
      rw [show (⟨g, 0, none⟩ : Addr).add i = ⟨g, 0 + i, none⟩ from by unfold Addr.add; split <;> simp_all] at hr
      rw [hr]
      simp [hi]) 9 und9
    rw [this]
    simp [strOfNums, S]
theorem done_any (b : Nat) (v : Value) (l : List Nat) (w : World) (h : Out w b v l) :
    Calls Tryz.prog 23 #[.pointer (some ⟨b, 0, none⟩)] w fun e w' => e = .returned (.string (S l)) ∧ w = w' := by
  have c1 : w.cell? ⟨b, 0, none⟩ = some v := h.1.cell 0
  have hc := conv_out h.2
  clear h
  go_enter Tryz.func23, Tryz.ntmps23
  go_wp2
  go_ret
  exact ⟨rfl, rfl⟩
end Go.Proofs.YtooeahpkhocaeaaGreatDoor
