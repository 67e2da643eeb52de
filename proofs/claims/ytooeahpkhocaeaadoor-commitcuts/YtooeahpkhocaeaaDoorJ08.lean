/- Words for memory: what is written, and what is read, and what a call leaves alone. No condition. -/
import Derived.Test.YtooeahpkhocaeaaDoorRows
import Derived.Test.YtooeahpkhocaeaaDoorJ00
import Derived.Maps.AppendAt
import Derived.Lib.AppendStr
import Derived.Lib.ConvBytes
import Derived.Laws.BitsAllLaws
import Derived.Deep.RegionLaw
import Derived.Deep.AppendLies
import Derived.BigRegion
namespace Go.Proofs.YtooeahpkhocaeaaDoor
open Go.RowKit

theorem und59 : Tryd.prog.underlying 45 = some (.slice 5) := by kernel_rfl
theorem und9 : Tryd.prog.underlying 9 = some .string := by kernel_rfl
theorem und5 : Tryd.prog.underlying 5 = some (.int .u8) := by kernel_rfl
theorem infoW5 : (Tryd.prog.info? 5).map (fun i => (i.zero, i.size, i.bytes)) = some (some (.int .u8 0), 1, 1) := by kernel_rfl

/-- Nothing that was there has turned, but block b and the row of v. -/
structure Fr (b : Nat) (v : Value) (w w' : World) : Prop where
  os : w'.os = w.os
  tape : w'.tape = w.tape
  output : w'.output = w.output
  size : w.heap.size ≤ w'.heap.size
  block : ∀ k, k < w.heap.size → k ≠ b → some k ≠ v.ownBlock → w'.heap[k]? = w.heap[k]?
/-- The row of v' is that of v, or a new one. -/
def Later (n : Nat) (v v' : Value) : Prop := v'.ownBlock = v.ownBlock ∨ ∃ k, v'.ownBlock = some k ∧ n ≤ k
theorem Later.refl (n : Nat) (v : Value) : Later n v v := .inl rfl
theorem Later.trans {n m : Nat} {a b c : Value} (h : Later n a b) (k : Later m b c) (hm : n ≤ m) : Later n a c := by
  rcases k with k | ⟨x, k, hx⟩
  · rcases h with h | ⟨y, h, hy⟩
    · exact .inl (k.trans h)
    · exact .inr ⟨y, k.trans h, hy⟩
  · exact .inr ⟨x, k, by omega⟩
theorem Fr.refl (b : Nat) (v : Value) (w : World) : Fr b v w w := ⟨rfl, rfl, rfl, Nat.le_refl _, fun _ _ _ _ => rfl⟩
theorem Fr.trans {b : Nat} {v v1 : Value} {w w1 w2 : World} (h : Fr b v w w1) (hl : Later w.heap.size v v1) (k : Fr b v1 w1 w2) : Fr b v w w2 :=
  ⟨k.os.trans h.os, k.tape.trans h.tape, k.output.trans h.output, Nat.le_trans h.size k.size, fun i hi hb hv => by
    rw [k.block i (Nat.lt_of_lt_of_le hi h.size) hb (fun e => by
      rcases hl with hl | ⟨x, hl, hx⟩
      · exact hv (e.trans hl)
      · rw [hl] at e; injection e with e; omega)]
    exact h.block i hi hb hv⟩
theorem Fr.alloc {b : Nat} {v : Value} {w w1 : World} (h : Fr b v w w1) (o : Obj) : Fr b v w (w1.alloc o) :=
  ⟨h.os, h.tape, h.output, by have := h.size; simp; omega, fun i hi hb hv => by rw [Below.heap_alloc _ _ _ (Nat.lt_of_lt_of_le hi h.size)]; exact h.block i hi hb hv⟩
theorem Fr.drew {b : Nat} {v : Value} {w w1 : World} (h : Fr b v w w1) : Fr b v w w1.drew := ⟨h.os, h.tape, h.output, h.size, h.block⟩
theorem Fr.set {b : Nat} {v : Value} {w w1 : World} (h : Fr b v w w1) (i : Nat) (u : Value) : Fr b v w (w1.setCell ⟨b, i, none⟩ u) :=
  ⟨h.os, h.tape, h.output, by have := h.size; simpa [World.setCell] using this, fun k hk hb hv => by rw [Below.heap_setCell w1 ⟨b, i, none⟩ u k hb]; exact h.block k hk hb hv⟩
theorem Fr.below {b B : Nat} {v : Value} {w w' : World} (h : Fr b v w w') (hb : B ≤ b) (hB : B ≤ w.heap.size) (hv : ∀ k, v.ownBlock = some k → B ≤ k) : Below B w w' :=
  ⟨h.os, h.tape, h.output, h.size, fun k hk => h.block k (by omega) (by omega) (fun e => by have := hv k e.symm; omega)⟩
theorem Fr.of_below {b : Nat} {v : Value} {w w1 w2 : World} (h : Fr b v w w1) (k : Below w1.heap.size w1 w2) : Fr b v w w2 :=
  ⟨k.os.trans h.os, k.tape.trans h.tape, k.output.trans h.output, Nat.le_trans h.size k.size, fun i hi hb hv => (k.block i (Nat.lt_of_lt_of_le hi h.size)).trans (h.block i hi hb hv)⟩
theorem Has.fr {b g : Nat} {v : Value} {w w' : World} {t : TypeId} {cs : List Value} (h : Has w g t cs) (k : Fr b v w w') (hb : g ≠ b) (hv : some g ≠ v.ownBlock) : Has w' g t cs := (k.block g h.lt hb hv).trans h
theorem own_ne {w : World} {base g n : Nat} {e t : TypeId} {size : Nat} {v : Value} {xs cs : List Value} (h : w.ownsRow base e size v n xs) (hg : Has w g t cs) (hne : e ≠ t) : some g ≠ v.ownBlock := by
  rcases h.2 with ⟨rfl, _⟩ | ⟨g', cap, cur, rfl, _, hh, _⟩
  · simp [Value.ownBlock]
  · intro he
    have : g = g' := by simpa [Value.ownBlock] using he
    subst this
    unfold Has at hg
    rw [hh] at hg
    injection hg with hg
    injection hg with _ ht
    exact hne ht

/-- What is written: block b holds v, whose row is l. -/
def Out (w : World) (b : Nat) (v : Value) (l : List Nat) : Prop := Has w b 73 [v] ∧ w.ownsRow 0 5 1 v l.length (U8 l)
/-- Behind a call that writes. -/
def Wrote (w : World) (b : Nat) (v : Value) (l : List Nat) (w' : World) : Prop := ∃ v', Out w' b v' l ∧ Fr b v w w' ∧ Later w.heap.size v v'
theorem Wrote.refl {w : World} {b : Nat} {v : Value} {l : List Nat} (h : Out w b v l) : Wrote w b v l w := ⟨v, h, Fr.refl _ _ _, Later.refl _ _⟩
theorem Wrote.trans {w w1 w2 : World} {b : Nat} {v v1 : Value} {l : List Nat} (h : Fr b v w w1) (hl : Later w.heap.size v v1) (k : Wrote w1 b v1 l w2) : Wrote w b v l w2 := by
  obtain ⟨v2, k1, k2, k3⟩ := k
  exact ⟨v2, k1, h.trans hl k2, hl.trans k3 h.size⟩
/-- What another writes. -/
theorem Out.fr {w w' : World} {b b2 : Nat} {v v2 : Value} {l : List Nat} (h : Out w b v l) (k : Fr b2 v2 w w') (hb : b ≠ b2) (h1 : some b ≠ v2.ownBlock) (h2 : v.ownBlock ≠ some b2) (h3 : v.ownBlock = none ∨ v.ownBlock ≠ v2.ownBlock) : Out w' b v l := by
  refine ⟨h.1.fr k hb h1, ?_⟩
  obtain ⟨hl, hr⟩ := h.2
  refine ⟨hl, ?_⟩
  rcases hr with hr | ⟨g, cap, cur, rfl, hg, hh, r⟩
  · exact .inl hr
  · refine .inr ⟨g, cap, cur, rfl, hg, ?_, r⟩
    simp only [Value.ownBlock] at h2 h3
    rw [k.block g (Array.getElem?_eq_some_iff.1 hh).1 (fun e => h2 (by rw [e])) (fun e => by simp at h3; exact h3 e)]
    exact hh
theorem Out.below {w w' : World} {b : Nat} {v : Value} {l : List Nat} (h : Out w b v l) (k : Below w.heap.size w w') : Out w' b v l := by
  refine ⟨h.1.below k h.1.lt, h.2.1, ?_⟩
  rcases h.2.2 with hr | ⟨g, cap, cur, rfl, hg, hh, r⟩
  · exact .inl hr
  · exact .inr ⟨g, cap, cur, rfl, hg, (k.block g (Array.getElem?_eq_some_iff.1 hh).1).trans hh, r⟩
theorem Out.len {w : World} {b : Nat} {v : Value} {l : List Nat} (h : Out w b v l) : ∃ a c, v = .slice a l.length c := by
  rcases h.2.2 with ⟨hv, hn⟩ | ⟨g, cap, cur, hv, _⟩
  · exact ⟨none, 0, by rw [hv, hn]⟩
  · exact ⟨_, _, hv⟩
/-- Behind an append onto what was written, stored. -/
theorem out_store {w V V2 : World} {b : Nat} {v v2 : Value} {l x : List Nat} (h : Out w b v l) (hB : Below w.heap.size w V) (hown : V2.ownsRow 0 5 1 v2 (l ++ x).length (U8 (l ++ x))) (hg : V.grownBy V2 v.ownBlock) (hat : v2.ownBlock = v.ownBlock ∨ v2.ownBlock = some V.heap.size) :
    Wrote w b v (l ++ x) (V2.setCell ⟨b, 0, none⟩ v2) ∧ V2.cell? ⟨b, 0, none⟩ = some v ∧ V2.frozen? ⟨b, 0, none⟩ = false := by
  have hbV : b < V.heap.size := Nat.lt_of_lt_of_le h.1.lt hB.size
  have hV2 : Has V2 b 73 [v] := (hg.block b hbV (own_ne h.2 h.1 (by decide))).trans (h.1.below hB h.1.lt)
  have hfr : Fr b v w V2 := ⟨hg.os.trans hB.os, hg.tape.trans hB.tape, hg.output.trans hB.output, Nat.le_trans hB.size hg.size, fun k hk _ hv => (hg.block k (Nat.lt_of_lt_of_le hk hB.size) hv).trans (hB.block k hk)⟩
  have hne : some b ≠ v2.ownBlock := own_ne hown hV2 (by decide)
  refine ⟨⟨v2, ⟨by simpa using hV2.set_ 0 v2, hown.1, ?_⟩, hfr.set 0 v2, ?_⟩, hV2.cell 0, hV2.open_ 0⟩
  · rcases hown.2 with hr | ⟨g, cap, cur, rfl, hg, hh, r⟩
    · exact .inl hr
    · refine .inr ⟨g, cap, cur, rfl, hg, ?_, r⟩
      rw [Below.heap_setCell V2 ⟨b, 0, none⟩ _ g (fun e => hne (by simp [Value.ownBlock, e]))]
      exact hh
  · rcases hat with hat | hat
    · exact .inl hat
    · exact .inr ⟨_, hat, hB.size⟩

/-- The bytes of a string. -/
def bl (s : ByteArray) : List Nat := s.data.toList.map UInt8.toNat
def S (l : List Nat) : ByteArray := ⟨(l.map UInt8.ofNat).toArray⟩
theorem bl_length (s : ByteArray) : (bl s).length = s.size := by simp [bl]
theorem bl_bytes (s : ByteArray) : ∀ c ∈ bl s, c < 256 := fun c hc => by
  obtain ⟨x, _, rfl⟩ := List.mem_map.1 hc
  exact x.toNat_lt
theorem S_bl (s : ByteArray) : S (bl s) = s := by
  obtain ⟨⟨l⟩⟩ := s
  simp only [S, bl, List.map_map]
  congr 2
  conv => rhs; rw [← List.map_id l]
  apply List.map_congr_left
  intro x _
  simp
theorem bl_S {l : List Nat} (h : ∀ c ∈ l, c < 256) : bl (S l) = l := by
  simp only [bl, S, List.map_map]
  conv => rhs; rw [← List.map_id l]
  apply List.map_congr_left
  intro x hx
  simp [Nat.mod_eq_of_lt (h x hx)]
theorem S_size (l : List Nat) : (S l).size = l.length := by simp [S, ByteArray.size]
theorem bl_inj {s t : ByteArray} (h : bl s = bl t) : s = t := by rw [← S_bl s, h, S_bl]
end Go.Proofs.YtooeahpkhocaeaaDoor
/- The contracts of NewOut, Out.Num, Done, folded. Conditions: what was written has at most 100000 bytes; a number of 64 bits. -/
namespace Go.Proofs.YtooeahpkhocaeaaDoor
open Go.RowKit

theorem newOut_any (w : World) : Calls Tryd.prog 19 #[] w fun e w' => e = .returned (.pointer (some ⟨w.heap.size, 0, none⟩)) ∧ w' = w.alloc (.cells #[.slice none 0 0] 73) := by
  go_enter Tryd.func19, Tryd.ntmps19
  go_wp2
  go_ret
  exact ⟨rfl, rfl⟩
theorem out_new (w : World) : Out (w.alloc (.cells #[.slice none 0 0] 73)) w.heap.size (.slice none 0 0) [] := ⟨Has.new w 73 [.slice none 0 0], World.ownsRow_nil _ _ _ _⟩

theorem or128 (n : Nat) (h : n < 256) : bits BinOp.or IntKind.u8 (n : Int) 128 = ((n % 128 + 128 : Nat) : Int) := by
  have : ∀ n : Nat, n < 256 → bits BinOp.or IntKind.u8 (n : Int) 128 = ((n % 128 + 128 : Nat) : Int) := by decide +kernel
  exact this n h

theorem own_shape {w : World} {base n : Nat} {e : TypeId} {size : Nat} {v : Value} {xs : List Value} (h : w.ownsRow base e size v n xs) : ∃ a c, v = .slice a n c := by
  rcases h.2 with ⟨hv, hn⟩ | ⟨g, cap, cur, hv, _⟩
  · exact ⟨none, 0, by rw [hv, hn]⟩
  · exact ⟨_, _, hv⟩
theorem out_one {w : World} {b x : Nat} {v : Value} {l : List Nat} (h : Out w b v l) : ∀ v2 V2, V2.ownsRow 0 5 1 v2 (l.length + 1) (U8 l ++ [.int .u8 (x : Int)]) → (w.alloc (.cells #[.int .u8 (x : Int)] 5)).grownBy V2 v.ownBlock → (v2.ownBlock = v.ownBlock ∨ v2.ownBlock = some (w.alloc (.cells #[.int .u8 (x : Int)] 5)).heap.size) →
    Wrote w b v (l ++ [x]) (V2.setCell ⟨b, 0, none⟩ v2) ∧ V2.cell? ⟨b, 0, none⟩ = some v ∧ V2.frozen? ⟨b, 0, none⟩ = false := fun v2 V2 h1 h2 h3 =>
  out_store h ((Below.refl _ _).alloc (Nat.le_refl _) _) (by rw [List.length_append, U8_append]; exact h1) h2 h3
def NumRel (w : World) (b : Nat) (v : Value) (all : List Nat) (t : Value) (V : World) : Prop := ∃ (m : Nat) (l' : List Nat), t = .int .u64 (m : Int) ∧ m < 18446744073709551616 ∧ Wrote w b v l' V ∧ l' ++ Wire.num m = all
set_option maxRecDepth 100000 in
set_option maxHeartbeats 1000000 in
theorem outNum_any (b n : Nat) (v : Value) (l : List Nat) (w : World) (hn : n < 18446744073709551616) (h : Out w b v l) (hl : l.length ≤ 100000) :
    Calls Tryd.prog 20 #[.pointer (some ⟨b, 0, none⟩), .int .u64 (n : Int)] w fun e w' => e = .returned (.tuple #[]) ∧ Wrote w b v (l ++ Wire.num n) w' := by
  have H0 := Lib.hid (show NumRel w b v (l ++ Wire.num n) (.int .u64 (n : Int)) w from ⟨n, l, rfl, hn, Wrote.refl h, rfl⟩)
  have HA := Lib.hid (show (l ++ Wire.num n).length ≤ 100010 by have := Wire.num_len10 n hn; simp; omega)
  clear h hl
  generalize l ++ Wire.num n = all at *
  go_enter Tryd.func20, Tryd.ntmps20
  go_wp2_with fail
  go_loopw [1] (fun t V => NumRel w b v all t V) (fun t _ => (intOf t).toNat)
  case atStart => exact H0.out
  case round =>
    clear H0
    obtain ⟨m, l', ht, hm, hw, ha⟩ := hrel
    subst ht
    obtain ⟨v1, ho, hf, hla⟩ := hw
    have HF := Lib.hid hf
    have HL := Lib.hid hla
    have hll : l'.length ≤ 100010 := by have := HA.out; rw [← ha] at this; simp at this; omega
    have HAll := Lib.hid ha
    have c1 : wr.cell? ⟨b, 0, none⟩ = some v1 := ho.1.cell 0
    obtain ⟨i0, hi, hz0, hzs, hzb⟩ := info_parts infoW5
    have HI := Lib.hid hi
    have HZ0 := Lib.hid hz0
    have HZs := Lib.hid hzs
    have HZb := Lib.hid hzb
    clear hf hla ha hi hz0 hzs hzb
    by_cases hlt : m < 128
    · have hx : (m : Int) % 256 = (m : Int) := by omega
      have HStep := Lib.hid (out_one (x := m) ho)
      have HOwn := Lib.hid (ho.2.alloc (.cells #[.int .u8 (m : Int)] 5))
      clear ho
      go_wp2_with (at_builtin; refine wpList_append_own_at _ rfl _ _ 45 rfl 0 5 i0 (.int .u8 0) 1 1 und59 HI.out HZ0.out HZs.out HZb.out rfl (by decide) _ _ _ rfl HOwn.out ⟨wr.heap.size, 0, none⟩ 1 1 [.int .u8 (m : Int)] rfl rfl (cell_one_new _ _ _) (fun u hu => by rw [List.mem_singleton.1 hu]; rfl) (by unfold maxLen; omega) (by omega) (Nat.zero_le _) ?_; intro v2 V2 hown2 hgr2 hnil2 hat2; obtain ⟨A2, C2, rfl⟩ := own_shape hown2; obtain ⟨hst, c2, f2⟩ := HStep.out _ V2 hown2 hgr2 hat2)
      go_end0
      refine ⟨rfl, ?_⟩
      rw [← HAll.out, Wire.num_lt hlt]
      exact Wrote.trans HF.out HL.out hst
    · have hx : (m : Int) % 256 = ((m % 256 : Nat) : Int) := by simp
      have hor := or128 (m % 256) (by omega)
      rw [show m % 256 % 128 = m % 128 by omega] at hor
      generalize m % 256 = y at *
      generalize hq : m % 128 + 128 = x at *
      have HQ := Lib.hid hq
      have HStep := Lib.hid (out_one (x := x) ho)
      have HOwn := Lib.hid (ho.2.alloc (.cells #[.int .u8 (x : Int)] 5))
      clear hq ho
      go_wp2_with (at_builtin; refine wpList_append_own_at _ rfl _ _ 45 rfl 0 5 i0 (.int .u8 0) 1 1 und59 HI.out HZ0.out HZs.out HZb.out rfl (by decide) _ _ _ rfl HOwn.out ⟨wr.heap.size, 0, none⟩ 1 1 [.int .u8 (x : Int)] rfl rfl (cell_one_new _ _ _) (fun u hu => by rw [List.mem_singleton.1 hu]; rfl) (by unfold maxLen; omega) (by omega) (Nat.zero_le _) ?_; intro v2 V2 hown2 hgr2 hnil2 hat2; obtain ⟨A2, C2, rfl⟩ := own_shape hown2; obtain ⟨hst, c2, f2⟩ := HStep.out _ V2 hown2 hgr2 hat2)
      go_round
      case rel => exact ⟨m / 128, l' ++ [x], by go_num, by omega, Wrote.trans HF.out HL.out hst, by rw [← HAll.out, Wire.num_ge hlt, HQ.out]; simp⟩
      case measure => simp [intOf]; omega
end Go.Proofs.YtooeahpkhocaeaaDoor
/- The contract of Out.Hash. Conditions: 32 bytes; what was written has at most 100000 bytes. -/
namespace Go.Proofs.YtooeahpkhocaeaaDoor
open Go.RowKit

set_option maxRecDepth 100000 in
set_option maxHeartbeats 2000000 in
theorem outHash_any (b : Nat) (x : List Nat) (v : Value) (l : List Nat) (w : World) (hx : x.length = 32) (h : Out w b v l) (hl : l.length ≤ 100000) :
    Calls Tryd.prog 21 #[.pointer (some ⟨b, 0, none⟩), .agg (U8 x).toArray] w fun e w' => e = .returned (.tuple #[]) ∧ Wrote w b v (l ++ x) w' := by
  obtain ⟨W, hW⟩ : ∃ W, w.alloc (.cells (U8 x).toArray 23) = W := ⟨_, rfl⟩
  have hX : Has W w.heap.size 23 (U8 x) := by rw [← hW]; exact Has.new _ _ _
  have hB1 : Below w.heap.size w W := by rw [← hW]; exact (Below.refl _ _).alloc (Nat.le_refl _) _
  have hO1 : Out W b v l := h.below hB1
  have c0 : W.drew.cell? ⟨b, 0, none⟩ = some v := hO1.1.cell 0
  have HNews : Hid (∀ j u, (U8 x)[j]? = some u → W.drew.cell? ((⟨w.heap.size, 0, none⟩ : Addr).add j) = some u) := fun j u hu => by
    rw [show (⟨w.heap.size, 0, none⟩ : Addr).add j = ⟨w.heap.size, j, none⟩ from by unfold Addr.add; split <;> simp_all]
    exact (hX.cell j).trans hu
  have HLx : Hid ((U8 x).length = 32 * 1) := by show _ = _; rw [U8_length, hx]
  have HOwn : Hid (W.drew.ownsRow 0 5 1 v l.length (U8 l)) := hO1.2
  have HStep : Hid (∀ (g cap : Nat) (V2 : World), V2.ownsRow 0 5 1 (.slice (some ⟨g, 0, none⟩) (l.length + 32) cap) (l.length + 32) (U8 l ++ U8 x) → W.drew.grownBy V2 v.ownBlock → (v.ownBlock = some g ∨ g = W.heap.size) →
      Wrote w b v (l ++ x) (V2.setCell ⟨b, 0, none⟩ (.slice (some ⟨g, 0, none⟩) (l.length + 32) cap)) ∧ V2.cell? ⟨b, 0, none⟩ = some v ∧ V2.frozen? ⟨b, 0, none⟩ = false) := fun g cap V2 h1 h2 h3 =>
    out_store h hB1.drew (by rw [List.length_append, U8_append, hx]; exact h1) h2 (by
      rcases h3 with h3 | h3
      · left; rw [h3]; rfl
      · right; rw [h3]; rfl)
  obtain ⟨i0, hi, hz0, hzs, hzb⟩ := info_parts infoW5
  have HI := Lib.hid hi
  have HZ0 := Lib.hid hz0
  have HZs := Lib.hid hzs
  have HZb := Lib.hid hzb
  have HW := Lib.hid hW
  clear h hO1 hx hX hB1 hi hz0 hzs hzb hW
  go_enter Tryd.func21, Tryd.ntmps21
  go_wp2
  rw [HW.out]
  go_region_law ((refine step_append_lies _ rfl (.tmp 8) (.tmp 9) 45 rfl 0 5 i0 (.int .u8 0) 1 1 und59 HI.out HZ0.out HZs.out HZb.out rfl (by decide) v l.length (U8 l) (by simp [Act.eval]) HOwn.out ⟨w.heap.size, 0, none⟩ 32 32 (U8 x) (by simp [Act.eval]) HLx.out HNews.out (U8_one x) (by decide) (by unfold maxLen; omega) (by omega) (Nat.zero_le _) W.heap.size rfl ?_; intro g cap V2 hown2 hgr2 hat2 hlt2; obtain ⟨hst, c2, f2⟩ := HStep.out g cap V2 hown2 hgr2 hat2))
  go_wp2
  go_end0
  exact ⟨rfl, hst⟩
end Go.Proofs.YtooeahpkhocaeaaDoor
/- The contract of Done. Conditions: at most 300000 bytes. -/
namespace Go.Proofs.YtooeahpkhocaeaaDoor
open Go.RowKit

theorem conv_out {w : World} {v : Value} {l : List Nat} (h : w.ownsRow 0 5 1 v l.length (U8 l)) : Sem.run Tryd.prog (convert 45 9 v) w = .ok (.string (S l)) w := by
  rcases h.2 with ⟨hv, hn⟩ | ⟨g, cap, cur, hv, _⟩
  · have hl : l = [] := List.length_eq_zero_iff.1 hn
    subst hl hv
    rw [run_convert_bytes_string (P := Tryd.prog) w 45 9 5 none 0 0 und59 und5 und9]
    rfl
  · subst hv
    have hc := h.cells (g := g) rfl
    have := run_convert_bytes_arg (P := Tryd.prog) (w := w) 45 5 und59 (by kernel_rfl) g 0 l.length cap (l.map fun n : Nat => (n : Int)) (by simp) (fun i hi => by
      have hr := hc i _ (U8_get hi)
      rw [show (⟨g, 0, none⟩ : Addr).add i = ⟨g, 0 + i, none⟩ from by unfold Addr.add; split <;> simp_all] at hr
      rw [hr]
      simp [hi]) 9 und9
    rw [this]
    simp [strOfNums, S]
theorem done_any (b : Nat) (v : Value) (l : List Nat) (w : World) (h : Out w b v l) :
    Calls Tryd.prog 22 #[.pointer (some ⟨b, 0, none⟩)] w fun e w' => e = .returned (.string (S l)) ∧ w = w' := by
  have c1 : w.cell? ⟨b, 0, none⟩ = some v := h.1.cell 0
  have hc := conv_out h.2
  clear h
  go_enter Tryd.func22, Tryd.ntmps22
  go_wp2
  go_ret
  exact ⟨rfl, rfl⟩
end Go.Proofs.YtooeahpkhocaeaaDoor
