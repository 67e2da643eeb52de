/- Words for memory: what is written, and what is read, and what a call leaves alone. No condition. -/
import Derived.Test.YtbcmglggplmkfaaDoorRows
import Derived.Test.YtbcmglggplmkfaaDoorMem
import Derived.Test.YtbcmglggplmkfaaDoorJA
import Derived.Maps.AppendAt
import Derived.Lib.AppendStr
import Derived.Lib.ConvBytes
import Derived.Laws.BitsAllLaws
import Derived.Deep.RegionLaw
import Derived.Deep.AppendLies
import Derived.BigRegion
import Derived.Laws.DeepNot64
namespace Go.Proofs.YtbcmglggplmkfaaDoor
open Go.RowKit

theorem und59 : Tryd.prog.underlying 77 = some (.slice 5) := by kernel_rfl
theorem und9 : Tryd.prog.underlying 9 = some .string := by kernel_rfl
theorem und5 : Tryd.prog.underlying 5 = some (.int .u8) := by kernel_rfl
theorem infoW5 : (Tryd.prog.info? 5).map (fun i => (i.zero, i.size, i.bytes)) = some (some (.int .u8 0), 1, 1) := by kernel_rfl

/-- Nothing that was there has turned, but block b and the row of v. -/
structure Fr (b : Nat) (v : Value) (w w' : World) : Prop where
  os : w'.os = w.os
  tape : w'.tape = w.tape
  output : w'.output = w.output
  size : w.heap.size ≤ w'.heap.size
  block : ∀ k, k < w.heap.size → k ≠ b → some k ≠ v.ownBlock → w'.heap[k]? = w.heap[k]?
/-- The row of v' is that of v, or a new one. -/
def Later (n : Nat) (v v' : Value) : Prop := v'.ownBlock = v.ownBlock ∨ ∃ k, v'.ownBlock = some k ∧ n ≤ k
theorem Later.refl (n : Nat) (v : Value) : Later n v v := .inl rfl
theorem Later.trans {n m : Nat} {a b c : Value} (h : Later n a b) (k : Later m b c) (hm : n ≤ m) : Later n a c := by
  rcases k with k | ⟨x, k, hx⟩
  · rcases h with h | ⟨y, h, hy⟩
    · exact .inl (k.trans h)
    · exact .inr ⟨y, k.trans h, hy⟩
  · exact .inr ⟨x, k, by omega⟩
theorem Fr.refl (b : Nat) (v : Value) (w : World) : Fr b v w w := ⟨rfl, rfl, rfl, Nat.le_refl _, fun _ _ _ _ => rfl⟩
theorem Fr.trans {b : Nat} {v v1 : Value} {w w1 w2 : World} (h : Fr b v w w1) (hl : Later w.heap.size v v1) (k : Fr b v1 w1 w2) : Fr b v w w2 :=
  ⟨k.os.trans h.os, k.tape.trans h.tape, k.output.trans h.output, Nat.le_trans h.size k.size, fun i hi hb hv => by
    rw [k.block i (Nat.lt_of_lt_of_le hi h.size) hb (fun e => by
      rcases hl with hl | ⟨x, hl, hx⟩
      · exact hv (e.trans hl)
      · rw [hl] at e; injection e with e; omega)]
    exact h.block i hi hb hv⟩
theorem Fr.alloc {b : Nat} {v : Value} {w w1 : World} (h : Fr b v w w1) (o : Obj) : Fr b v w (w1.alloc o) :=
  ⟨h.os, h.tape, h.output, by have := h.size; simp; omega, fun i hi hb hv => by rw [Below.heap_alloc _ _ _ (Nat.lt_of_lt_of_le hi h.size)]; exact h.block i hi hb hv⟩
theorem Fr.drew {b : Nat} {v : Value} {w w1 : World} (h : Fr b v w w1) : Fr b v w w1.drew := ⟨h.os, h.tape, h.output, h.size, h.block⟩
theorem Fr.set {b : Nat} {v : Value} {w w1 : World} (h : Fr b v w w1) (i : Nat) (u : Value) : Fr b v w (w1.setCell ⟨b, i, none⟩ u) :=
  ⟨h.os, h.tape, h.output, by have := h.size; simpa [World.setCell] using this, fun k hk hb hv => by rw [Below.heap_setCell w1 ⟨b, i, none⟩ u k hb]; exact h.block k hk hb hv⟩
theorem Fr.below {b B : Nat} {v : Value} {w w' : World} (h : Fr b v w w') (hb : B ≤ b) (hB : B ≤ w.heap.size) (hv : ∀ k, v.ownBlock = some k → B ≤ k) : Below B w w' :=
  ⟨h.os, h.tape, h.output, h.size, fun k hk => h.block k (by omega) (by omega) (fun e => by have := hv k e.symm; omega)⟩
theorem Fr.of_below {b : Nat} {v : Value} {w w1 w2 : World} (h : Fr b v w w1) (k : Below w1.heap.size w1 w2) : Fr b v w w2 :=
  ⟨k.os.trans h.os, k.tape.trans h.tape, k.output.trans h.output, Nat.le_trans h.size k.size, fun i hi hb hv => (k.block i (Nat.lt_of_lt_of_le hi h.size)).trans (h.block i hi hb hv)⟩
theorem Has.fr {b g : Nat} {v : Value} {w w' : World} {t : TypeId} {cs : List Value} (h : Has w g t cs) (k : Fr b v w w') (hb : g ≠ b) (hv : some g ≠ v.ownBlock) : Has w' g t cs := (k.block g h.lt hb hv).trans h
theorem Has.ne {w : World} {g g' : Nat} {t t' : TypeId} {cs cs' : List Value} (h : Has w g t cs) (h' : Has w g' t' cs') (hne : t ≠ t') : g ≠ g' := by
  rintro rfl
  unfold Has at h h'
  rw [h] at h'
  injection h' with h'
  injection h' with _ ht
  exact hne ht
theorem own_ne {w : World} {base g n : Nat} {e t : TypeId} {size : Nat} {v : Value} {xs cs : List Value} (h : w.ownsRow base e size v n xs) (hg : Has w g t cs) (hne : e ≠ t) : some g ≠ v.ownBlock := by
  rcases h.2 with ⟨rfl, _⟩ | ⟨g', cap, cur, rfl, _, hh, _⟩
  · simp [Value.ownBlock]
  · intro he
    have : g = g' := by simpa [Value.ownBlock] using he
    subst this
    unfold Has at hg
    rw [hh] at hg
    injection hg with hg
    injection hg with _ ht
    exact hne ht

/-- What is written: block b holds v, whose row is l. -/
def Out (w : World) (b : Nat) (v : Value) (l : List Nat) : Prop := Has w b 79 [v] ∧ w.ownsRow 0 5 1 v l.length (U8 l)
/-- Behind a call that writes. -/
def Wrote (w : World) (b : Nat) (v : Value) (l : List Nat) (w' : World) : Prop := ∃ v', Out w' b v' l ∧ Fr b v w w' ∧ Later w.heap.size v v'
theorem Wrote.refl {w : World} {b : Nat} {v : Value} {l : List Nat} (h : Out w b v l) : Wrote w b v l w := ⟨v, h, Fr.refl _ _ _, Later.refl _ _⟩
theorem Wrote.trans {w w1 w2 : World} {b : Nat} {v v1 : Value} {l : List Nat} (h : Fr b v w w1) (hl : Later w.heap.size v v1) (k : Wrote w1 b v1 l w2) : Wrote w b v l w2 := by
  obtain ⟨v2, k1, k2, k3⟩ := k
  exact ⟨v2, k1, h.trans hl k2, hl.trans k3 h.size⟩
/-- What another writes. -/
theorem Out.fr {w w' : World} {b b2 : Nat} {v v2 : Value} {l : List Nat} (h : Out w b v l) (k : Fr b2 v2 w w') (hb : b ≠ b2) (h1 : some b ≠ v2.ownBlock) (h2 : v.ownBlock ≠ some b2) (h3 : v.ownBlock = none ∨ v.ownBlock ≠ v2.ownBlock) : Out w' b v l := by
  refine ⟨h.1.fr k hb h1, ?_⟩
  obtain ⟨hl, hr⟩ := h.2
  refine ⟨hl, ?_⟩
  rcases hr with hr | ⟨g, cap, cur, rfl, hg, hh, r⟩
  · exact .inl hr
  · refine .inr ⟨g, cap, cur, rfl, hg, ?_, r⟩
    simp only [Value.ownBlock] at h2 h3
    rw [k.block g (Array.getElem?_eq_some_iff.1 hh).1 (fun e => h2 (by rw [e])) (fun e => by simp at h3; exact h3 e)]
    exact hh
theorem Out.below {w w' : World} {b : Nat} {v : Value} {l : List Nat} (h : Out w b v l) (k : Below w.heap.size w w') : Out w' b v l := by
  refine ⟨h.1.below k h.1.lt, h.2.1, ?_⟩
  rcases h.2.2 with hr | ⟨g, cap, cur, rfl, hg, hh, r⟩
  · exact .inl hr
  · exact .inr ⟨g, cap, cur, rfl, hg, (k.block g (Array.getElem?_eq_some_iff.1 hh).1).trans hh, r⟩
theorem Out.len {w : World} {b : Nat} {v : Value} {l : List Nat} (h : Out w b v l) : ∃ a c, v = .slice a l.length c := by
  rcases h.2.2 with ⟨hv, hn⟩ | ⟨g, cap, cur, hv, _⟩
  · exact ⟨none, 0, by rw [hv, hn]⟩
  · exact ⟨_, _, hv⟩
/-- Behind an append onto what was written, stored. -/
theorem out_store {w V V2 : World} {b : Nat} {v v2 : Value} {l x : List Nat} (h : Out w b v l) (hB : Below w.heap.size w V) (hown : V2.ownsRow 0 5 1 v2 (l ++ x).length (U8 (l ++ x))) (hg : V.grownBy V2 v.ownBlock) (hat : v2.ownBlock = v.ownBlock ∨ v2.ownBlock = some V.heap.size) :
    Wrote w b v (l ++ x) (V2.setCell ⟨b, 0, none⟩ v2) ∧ V2.cell? ⟨b, 0, none⟩ = some v ∧ V2.frozen? ⟨b, 0, none⟩ = false := by
  have hbV : b < V.heap.size := Nat.lt_of_lt_of_le h.1.lt hB.size
  have hV2 : Has V2 b 79 [v] := (hg.block b hbV (own_ne h.2 h.1 (by decide))).trans (h.1.below hB h.1.lt)
  have hfr : Fr b v w V2 := ⟨hg.os.trans hB.os, hg.tape.trans hB.tape, hg.output.trans hB.output, Nat.le_trans hB.size hg.size, fun k hk _ hv => (hg.block k (Nat.lt_of_lt_of_le hk hB.size) hv).trans (hB.block k hk)⟩
  have hne : some b ≠ v2.ownBlock := own_ne hown hV2 (by decide)
  refine ⟨⟨v2, ⟨by simpa using hV2.set_ 0 v2, hown.1, ?_⟩, hfr.set 0 v2, ?_⟩, hV2.cell 0, hV2.open_ 0⟩
  · rcases hown.2 with hr | ⟨g, cap, cur, rfl, hg, hh, r⟩
    · exact .inl hr
    · refine .inr ⟨g, cap, cur, rfl, hg, ?_, r⟩
      rw [Below.heap_setCell V2 ⟨b, 0, none⟩ _ g (fun e => hne (by simp [Value.ownBlock, e]))]
      exact hh
  · rcases hat with hat | hat
    · exact .inl hat
    · exact .inr ⟨_, hat, hB.size⟩

/-- The bytes of a string. -/
def bl (s : ByteArray) : List Nat := s.data.toList.map UInt8.toNat
def S (l : List Nat) : ByteArray := ⟨(l.map UInt8.ofNat).toArray⟩
theorem bl_length (s : ByteArray) : (bl s).length = s.size := by simp [bl]
theorem bl_bytes (s : ByteArray) : ∀ c ∈ bl s, c < 256 := fun c hc => by
  obtain ⟨x, _, rfl⟩ := List.mem_map.1 hc
  exact x.toNat_lt
theorem S_bl (s : ByteArray) : S (bl s) = s := by
  obtain ⟨⟨l⟩⟩ := s
  simp only [S, bl, List.map_map]
  congr 2
  conv => rhs; rw [← List.map_id l]
  apply List.map_congr_left
  intro x _
  simp
theorem bl_S {l : List Nat} (h : ∀ c ∈ l, c < 256) : bl (S l) = l := by
  simp only [bl, S, List.map_map]
  conv => rhs; rw [← List.map_id l]
  apply List.map_congr_left
  intro x hx
  simp [Nat.mod_eq_of_lt (h x hx)]
theorem S_size (l : List Nat) : (S l).size = l.length := by simp [S, ByteArray.size]
theorem bl_append (s t : ByteArray) : bl (s ++ t) = bl s ++ bl t := by
  simp [bl, ByteArray.data_append]
theorem bl_inj {s t : ByteArray} (h : bl s = bl t) : s = t := by rw [← S_bl s, h, S_bl]
end Go.Proofs.YtbcmglggplmkfaaDoor
/- Words for memory: what is written, and what is read, and what a call leaves alone. No condition. -/
namespace Go.Proofs.YtbcmglggplmkfaaDoor
open Go.RowKit
set_option maxRecDepth 100000

/-- What is read: block b holds what is left, and what was wrong. -/
def In (w : World) (b : Nat) (s : ByteArray) (e : Nat) : Prop := Has w b 99 [.string s, .int .i64 (e : Int)]
def nul : Value := .bool false
/-- Behind a call that reads. -/
def Did (w : World) (b : Nat) (s : ByteArray) (e : Nat) (w' : World) : Prop := In w' b s e ∧ Fr b nul w w'
end Go.Proofs.YtbcmglggplmkfaaDoor
/- The contracts of NewOut, Out.Num, Done, folded. Conditions: what was written has at most 100000 bytes; a number of 64 bits. -/
namespace Go.Proofs.YtbcmglggplmkfaaDoor
open Go.RowKit

theorem newOut_any (w : World) : Calls Tryd.prog 22 #[] w fun e w' => e = .returned (.pointer (some ⟨w.heap.size, 0, none⟩)) ∧ w' = w.alloc (.cells #[.slice none 0 0] 79) := by
  go_enter Tryd.func22, Tryd.ntmps22
  go_wp2
  go_ret
  exact ⟨rfl, rfl⟩
theorem out_new (w : World) : Out (w.alloc (.cells #[.slice none 0 0] 79)) w.heap.size (.slice none 0 0) [] := ⟨Has.new w 79 [.slice none 0 0], World.ownsRow_nil _ _ _ _⟩

theorem or128 (n : Nat) (h : n < 256) : bits BinOp.or IntKind.u8 (n : Int) 128 = ((n % 128 + 128 : Nat) : Int) := by
  have : ∀ n : Nat, n < 256 → bits BinOp.or IntKind.u8 (n : Int) 128 = ((n % 128 + 128 : Nat) : Int) := by decide +kernel
  exact this n h

theorem own_shape {w : World} {base n : Nat} {e : TypeId} {size : Nat} {v : Value} {xs : List Value} (h : w.ownsRow base e size v n xs) : ∃ a c, v = .slice a n c := by
  rcases h.2 with ⟨hv, hn⟩ | ⟨g, cap, cur, hv, _⟩
  · exact ⟨none, 0, by rw [hv, hn]⟩
  · exact ⟨_, _, hv⟩
theorem out_one {w : World} {b x : Nat} {v : Value} {l : List Nat} (h : Out w b v l) : ∀ v2 V2, V2.ownsRow 0 5 1 v2 (l.length + 1) (U8 l ++ [.int .u8 (x : Int)]) → (w.alloc (.cells #[.int .u8 (x : Int)] 5)).grownBy V2 v.ownBlock → (v2.ownBlock = v.ownBlock ∨ v2.ownBlock = some (w.alloc (.cells #[.int .u8 (x : Int)] 5)).heap.size) →
    Wrote w b v (l ++ [x]) (V2.setCell ⟨b, 0, none⟩ v2) ∧ V2.cell? ⟨b, 0, none⟩ = some v ∧ V2.frozen? ⟨b, 0, none⟩ = false := fun v2 V2 h1 h2 h3 =>
  out_store h ((Below.refl _ _).alloc (Nat.le_refl _) _) (by rw [List.length_append, U8_append]; exact h1) h2 h3
def NumRel (w : World) (b : Nat) (v : Value) (all : List Nat) (t : Value) (V : World) : Prop := ∃ (m : Nat) (l' : List Nat), t = .int .u64 (m : Int) ∧ m < 18446744073709551616 ∧ Wrote w b v l' V ∧ l' ++ Wire.num m = all
set_option maxRecDepth 100000 in
set_option maxHeartbeats 1000000 in
theorem outNum_any (b n : Nat) (v : Value) (l : List Nat) (w : World) (hn : n < 18446744073709551616) (h : Out w b v l) (hl : l.length ≤ 100000) :
    Calls Tryd.prog 23 #[.pointer (some ⟨b, 0, none⟩), .int .u64 (n : Int)] w fun e w' => e = .returned (.tuple #[]) ∧ Wrote w b v (l ++ Wire.num n) w' := by
  have H0 := Lib.hid (show NumRel w b v (l ++ Wire.num n) (.int .u64 (n : Int)) w from ⟨n, l, rfl, hn, Wrote.refl h, rfl⟩)
  have HA := Lib.hid (show (l ++ Wire.num n).length ≤ 100010 by have := Wire.num_len10 n hn; simp; omega)
  clear h hl
  generalize l ++ Wire.num n = all at *
  go_enter Tryd.func23, Tryd.ntmps23
  go_wp2_with fail
  go_loopw [1] (fun t V => NumRel w b v all t V) (fun t _ => (intOf t).toNat)
  case atStart => exact H0.out
  case round =>
    clear H0
    obtain ⟨m, l', ht, hm, hw, ha⟩ := hrel
    subst ht
    obtain ⟨v1, ho, hf, hla⟩ := hw
    have HF := Lib.hid hf
    have HL := Lib.hid hla
    have hll : l'.length ≤ 100010 := by have := HA.out; rw [← ha] at this; simp at this; omega
    have HAll := Lib.hid ha
    have c1 : wr.cell? ⟨b, 0, none⟩ = some v1 := ho.1.cell 0
    obtain ⟨i0, hi, hz0, hzs, hzb⟩ := info_parts infoW5
    have HI := Lib.hid hi
    have HZ0 := Lib.hid hz0
    have HZs := Lib.hid hzs
    have HZb := Lib.hid hzb
    clear hf hla ha hi hz0 hzs hzb
    by_cases hlt : m < 128
    · have hx : (m : Int) % 256 = (m : Int) := by omega
      have HStep := Lib.hid (out_one (x := m) ho)
      have HOwn := Lib.hid (ho.2.alloc (.cells #[.int .u8 (m : Int)] 5))
      clear ho
      go_wp2_with (at_builtin; refine wpList_append_own_at _ rfl _ _ 77 rfl 0 5 i0 (.int .u8 0) 1 1 und59 HI.out HZ0.out HZs.out HZb.out rfl (by decide) _ _ _ rfl HOwn.out ⟨wr.heap.size, 0, none⟩ 1 1 [.int .u8 (m : Int)] rfl rfl (cell_one_new _ _ _) (fun u hu => by rw [List.mem_singleton.1 hu]; rfl) (by unfold maxLen; omega) (by omega) (Nat.zero_le _) ?_; intro v2 V2 hown2 hgr2 hnil2 hat2; obtain ⟨A2, C2, rfl⟩ := own_shape hown2; obtain ⟨hst, c2, f2⟩ := HStep.out _ V2 hown2 hgr2 hat2)
      go_end0
      refine ⟨rfl, ?_⟩
      rw [← HAll.out, Wire.num_lt hlt]
      exact Wrote.trans HF.out HL.out hst
    · have hx : (m : Int) % 256 = ((m % 256 : Nat) : Int) := by simp
      have hor := or128 (m % 256) (by omega)
      rw [show m % 256 % 128 = m % 128 by omega] at hor
      generalize m % 256 = y at *
      generalize hq : m % 128 + 128 = x at *
      have HQ := Lib.hid hq
      have HStep := Lib.hid (out_one (x := x) ho)
      have HOwn := Lib.hid (ho.2.alloc (.cells #[.int .u8 (x : Int)] 5))
      clear hq ho
      go_wp2_with (at_builtin; refine wpList_append_own_at _ rfl _ _ 77 rfl 0 5 i0 (.int .u8 0) 1 1 und59 HI.out HZ0.out HZs.out HZb.out rfl (by decide) _ _ _ rfl HOwn.out ⟨wr.heap.size, 0, none⟩ 1 1 [.int .u8 (x : Int)] rfl rfl (cell_one_new _ _ _) (fun u hu => by rw [List.mem_singleton.1 hu]; rfl) (by unfold maxLen; omega) (by omega) (Nat.zero_le _) ?_; intro v2 V2 hown2 hgr2 hnil2 hat2; obtain ⟨A2, C2, rfl⟩ := own_shape hown2; obtain ⟨hst, c2, f2⟩ := HStep.out _ V2 hown2 hgr2 hat2)
      go_round
      case rel => exact ⟨m / 128, l' ++ [x], by go_num, by omega, Wrote.trans HF.out HL.out hst, by rw [← HAll.out, Wire.num_ge hlt, HQ.out]; simp⟩
      case measure => simp [intOf]; omega
end Go.Proofs.YtbcmglggplmkfaaDoor
/- The contract of Out.Hash. Conditions: 32 bytes; what was written has at most 100000 bytes. -/
namespace Go.Proofs.YtbcmglggplmkfaaDoor
open Go.RowKit

set_option maxRecDepth 100000 in
set_option maxHeartbeats 2000000 in
theorem outHash_any (b : Nat) (x : List Nat) (v : Value) (l : List Nat) (w : World) (hx : x.length = 32) (h : Out w b v l) (hl : l.length ≤ 100000) :
    Calls Tryd.prog 59 #[.pointer (some ⟨b, 0, none⟩), .agg (U8 x).toArray] w fun e w' => e = .returned (.tuple #[]) ∧ Wrote w b v (l ++ x) w' := by
  obtain ⟨W, hW⟩ : ∃ W, w.alloc (.cells (U8 x).toArray 39) = W := ⟨_, rfl⟩
  have hX : Has W w.heap.size 39 (U8 x) := by rw [← hW]; exact Has.new _ _ _
  have hB1 : Below w.heap.size w W := by rw [← hW]; exact (Below.refl _ _).alloc (Nat.le_refl _) _
  have hO1 : Out W b v l := h.below hB1
  have c0 : W.drew.cell? ⟨b, 0, none⟩ = some v := hO1.1.cell 0
  have HNews : Hid (∀ j u, (U8 x)[j]? = some u → W.drew.cell? ((⟨w.heap.size, 0, none⟩ : Addr).add j) = some u) := fun j u hu => by
    rw [show (⟨w.heap.size, 0, none⟩ : Addr).add j = ⟨w.heap.size, j, none⟩ from by unfold Addr.add; split <;> simp_all]
    exact (hX.cell j).trans hu
  have HLx : Hid ((U8 x).length = 32 * 1) := by show _ = _; rw [U8_length, hx]
  have HOwn : Hid (W.drew.ownsRow 0 5 1 v l.length (U8 l)) := hO1.2
  have HStep : Hid (∀ (g cap : Nat) (V2 : World), V2.ownsRow 0 5 1 (.slice (some ⟨g, 0, none⟩) (l.length + 32) cap) (l.length + 32) (U8 l ++ U8 x) → W.drew.grownBy V2 v.ownBlock → (v.ownBlock = some g ∨ g = W.heap.size) →
      Wrote w b v (l ++ x) (V2.setCell ⟨b, 0, none⟩ (.slice (some ⟨g, 0, none⟩) (l.length + 32) cap)) ∧ V2.cell? ⟨b, 0, none⟩ = some v ∧ V2.frozen? ⟨b, 0, none⟩ = false) := fun g cap V2 h1 h2 h3 =>
    out_store h hB1.drew (by rw [List.length_append, U8_append, hx]; exact h1) h2 (by
      rcases h3 with h3 | h3
      · left; rw [h3]; rfl
      · right; rw [h3]; rfl)
  obtain ⟨i0, hi, hz0, hzs, hzb⟩ := info_parts infoW5
  have HI := Lib.hid hi
  have HZ0 := Lib.hid hz0
  have HZs := Lib.hid hzs
  have HZb := Lib.hid hzb
  have HW := Lib.hid hW
  clear h hO1 hx hX hB1 hi hz0 hzs hzb hW
  go_enter Tryd.func59, Tryd.ntmps59
  go_wp2
  rw [HW.out]
  go_region_law ((refine step_append_lies _ rfl (.tmp 8) (.tmp 9) 77 rfl 0 5 i0 (.int .u8 0) 1 1 und59 HI.out HZ0.out HZs.out HZb.out rfl (by decide) v l.length (U8 l) (by simp [Act.eval]) HOwn.out ⟨w.heap.size, 0, none⟩ 32 32 (U8 x) (by simp [Act.eval]) HLx.out HNews.out (U8_one x) (by decide) (by unfold maxLen; omega) (by omega) (Nat.zero_le _) W.heap.size rfl ?_; intro g cap V2 hown2 hgr2 hat2 hlt2; obtain ⟨hst, c2, f2⟩ := HStep.out g cap V2 hown2 hgr2 hat2))
  go_wp2
  go_end0
  exact ⟨rfl, hst⟩
end Go.Proofs.YtbcmglggplmkfaaDoor
/- The contract of Done. Conditions: at most 300000 bytes. -/
namespace Go.Proofs.YtbcmglggplmkfaaDoor
open Go.RowKit

theorem conv_out {w : World} {v : Value} {l : List Nat} (h : w.ownsRow 0 5 1 v l.length (U8 l)) : Sem.run Tryd.prog (convert 77 9 v) w = .ok (.string (S l)) w := by
  rcases h.2 with ⟨hv, hn⟩ | ⟨g, cap, cur, hv, _⟩
  · have hl : l = [] := List.length_eq_zero_iff.1 hn
    subst hl hv
    rw [run_convert_bytes_string (P := Tryd.prog) w 77 9 5 none 0 0 und59 und5 und9]
    rfl
  · subst hv
    have hc := h.cells (g := g) rfl
    have := run_convert_bytes_arg (P := Tryd.prog) (w := w) 77 5 und59 (by kernel_rfl) g 0 l.length cap (l.map fun n : Nat => (n : Int)) (by simp) (fun i hi => by
      have hr := hc i _ (U8_get hi)
      rw [show (⟨g, 0, none⟩ : Addr).add i = ⟨g, 0 + i, none⟩ from by unfold Addr.add; split <;> simp_all] at hr
      rw [hr]
      simp [hi]) 9 und9
    rw [this]
    simp [strOfNums, S]
theorem done_any (b : Nat) (v : Value) (l : List Nat) (w : World) (h : Out w b v l) :
    Calls Tryd.prog 26 #[.pointer (some ⟨b, 0, none⟩)] w fun e w' => e = .returned (.string (S l)) ∧ w = w' := by
  have c1 : w.cell? ⟨b, 0, none⟩ = some v := h.1.cell 0
  have hc := conv_out h.2
  clear h
  go_enter Tryd.func26, Tryd.ntmps26
  go_wp2
  go_ret
  exact ⟨rfl, rfl⟩
end Go.Proofs.YtbcmglggplmkfaaDoor
/- The contracts of NewOut, Out.Num, Done, folded. Conditions: what was written has at most 100000 bytes; a number of 64 bits. -/
namespace Go.Proofs.YtbcmglggplmkfaaDoor
open Go.RowKit
set_option maxRecDepth 100000

end Go.Proofs.YtbcmglggplmkfaaDoor
/- The contracts of folded and unfolded. Conditions: a number of 64 bits. -/
namespace Go.Proofs.YtbcmglggplmkfaaDoor
open Go.RowKit
set_option maxRecDepth 100000

theorem not64 (E : Nat) (h : E < 18446744073709551616) : bits BinOp.xor IntKind.u64 IntKind.u64.max (E : Int) = ((18446744073709551615 - E : Nat) : Int) := by
  have e : IntKind.u64.max = ((18446744073709551615 : Nat) : Int) := by decide
  rw [e, u64_xor_nat _ _ (by decide) h]
  congr 1
  apply Nat.eq_of_testBit_eq
  intro i
  rw [Nat.testBit_xor, show (18446744073709551615 : Nat) = 2 ^ 64 - 1 by decide, Nat.testBit_two_pow_sub_one, show 2 ^ 64 - 1 - E = 2 ^ 64 - (E + 1) by omega, Nat.testBit_two_pow_sub_succ (by omega)]
  by_cases hi : i < 64
  · simp [hi]
  · have : E.testBit i = false := Nat.testBit_lt_two_pow (Nat.lt_of_lt_of_le h (by
      have : 2 ^ 64 ≤ 2 ^ i := Nat.pow_le_pow_right (by omega) (by omega)
      simpa using this))
    simp [hi, this]
theorem u64_wrap (n : Int) : IntKind.u64.wrap n = n % 18446744073709551616 := by
  simp [IntKind.wrap, IntKind.signed, IntKind.bits]
theorem folded_any (n : Int) (w : World) (h1 : -9223372036854775808 ≤ n) (h2 : n ≤ 9223372036854775807) :
    Calls Tryd.prog 49 #[.int .i64 n] w fun e w' => e = .returned (.int .u64 (Wire.fold n : Nat)) ∧ w = w' := by
  by_cases h : 0 ≤ n
  · have HE := Lib.hid (show 2 * n = (Wire.fold n : Nat) by unfold Wire.fold; rw [if_pos h]; omega)
    go_enter Tryd.func49, Tryd.ntmps49
    go_wp2
    go_ret
    exact ⟨congrArg (fun n => Ending.returned (.int .u64 n)) HE.out, rfl⟩
  · have HE := Lib.hid (show bits BinOp.xor IntKind.u64 IntKind.u64.max (IntKind.u64.wrap (2 * IntKind.u64.wrap n)) = (Wire.fold n : Nat) by
      have e : IntKind.u64.wrap (2 * IntKind.u64.wrap n) = ((2 * n + 18446744073709551616).toNat : Int) := by
        rw [u64_wrap, u64_wrap]; omega
      rw [e, not64 _ (by omega)]
      unfold Wire.fold
      rw [if_neg h]
      omega)
    go_enter Tryd.func49, Tryd.ntmps49
    go_wp2
    go_ret
    exact ⟨congrArg (fun n => Ending.returned (.int .u64 n)) HE.out, rfl⟩
theorem unfolded_any (n : Nat) (w : World) (h1 : n < 18446744073709551616) :
    Calls Tryd.prog 55 #[.int .u64 (n : Int)] w fun e w' => e = .returned (.int .i64 (Wire.unfold_ n)) ∧ w = w' := by
  by_cases h : n % 2 = 0
  · have HE := Lib.hid (show (n : Int) / 2 = Wire.unfold_ n by unfold Wire.unfold_; rw [if_pos h]; omega)
    go_enter Tryd.func55, Tryd.ntmps55
    go_wp2
    go_ret
    exact ⟨congrArg (fun n => Ending.returned (.int .i64 n)) HE.out, rfl⟩
  · have HE := Lib.hid (show bits BinOp.xor IntKind.i64 (-1) ((n : Int) / 2) = Wire.unfold_ n by
      have := i64_not (n / 2) (by omega)
      rw [show ((n / 2 : Nat) : Int) = (n : Int) / 2 by omega] at this
      rw [this]
      unfold Wire.unfold_
      rw [if_neg h]
      omega)
    go_enter Tryd.func55, Tryd.ntmps55
    go_wp2
    go_ret
    exact ⟨congrArg (fun n => Ending.returned (.int .i64 n)) HE.out, rfl⟩
end Go.Proofs.YtbcmglggplmkfaaDoor
/- The contracts of Out.Int, Out.Text, Out.Hash, Done. Conditions: what was written has at most 50000 bytes. -/
namespace Go.Proofs.YtbcmglggplmkfaaDoor
open Go.RowKit
set_option maxRecDepth 100000

theorem outInt_any (b : Nat) (n : Int) (v : Value) (l : List Nat) (w : World) (h1 : -9223372036854775808 ≤ n) (h2 : n ≤ 9223372036854775807) (h : Out w b v l) (hl : l.length ≤ 100000) :
    Calls Tryd.prog 24 #[.pointer (some ⟨b, 0, none⟩), .int .i64 n] w fun e w' => e = .returned (.tuple #[]) ∧ Wrote w b v (l ++ Wire.num (Wire.fold n)) w' := by
  have HO := Lib.hid h
  have HF := Lib.hid (Wire.fold_lt n h1 h2)
  clear h
  go_enter Tryd.func24, Tryd.ntmps24
  go_wp2_with fail
  refine (folded_any n w h1 h2).mono ?_
  rintro e w1 ⟨rfl, rfl⟩
  go_wp2_with fail
  refine (outNum_any b (Wire.fold n) v l w HF.out HO.out hl).mono ?_
  rintro e w1 ⟨rfl, hw⟩
  go_wp2
  go_end0
  exact ⟨rfl, hw⟩

end Go.Proofs.YtbcmglggplmkfaaDoor
/- The contract of Out.Hash. Conditions: 32 bytes; what was written has at most 100000 bytes. -/
namespace Go.Proofs.YtbcmglggplmkfaaDoor
open Go.RowKit
set_option maxRecDepth 100000

end Go.Proofs.YtbcmglggplmkfaaDoor
/- The contract of number: what the bytes begin with. Conditions: none but that a string is no longer than may be. -/
namespace Go.Proofs.YtbcmglggplmkfaaDoor
open Go.RowKit
set_option maxRecDepth 100000

def RdRel (s : ByteArray) (t u : Value) : Prop := ∃ k v : Nat, k ≤ s.size ∧ k ≤ 9 ∧ v < 128 ^ k ∧ t = .int .u64 (v : Int) ∧ u = .int .i64 (k : Int) ∧ Wire.rd (bl s) = Wire.rdFrom k v ((bl s).drop k)
def rdVal (r : Nat × Nat × Nat) : Value := .tuple #[.int .u64 (r.1 : Int), .int .i64 (r.2.1 : Int), .int .i64 (r.2.2 : Int)]
theorem bl_drop (s : ByteArray) (k : Nat) (h : k < s.size) : (bl s).drop k = s[k].toNat :: (bl s).drop (k + 1) := by
  rw [List.drop_eq_getElem_cons (by rw [bl_length]; exact h)]
  congr 1
  simp [bl]
  rfl
theorem and127 (c : Nat) (h : c < 256) : bits BinOp.and IntKind.u8 (c : Int) 127 = ((c % 128 : Nat) : Int) := by
  have : ∀ c : Nat, c < 256 → bits BinOp.and IntKind.u8 (c : Int) 127 = ((c % 128 : Nat) : Int) := by decide +kernel
  exact this c h
theorem u64_small (n : Nat) (h : n < 18446744073709551616) : IntKind.u64.wrap (n : Int) = (n : Int) := by
  simp [IntKind.wrap, IntKind.signed, IntKind.bits]; omega
theorem or_place (k v d : Nat) (hv : v < 128 ^ k) (hd : d * 128 ^ k < 18446744073709551616) (hk : 128 ^ k ≤ 9223372036854775808) : bits BinOp.or IntKind.u64 (v : Int) (IntKind.u64.wrap ((d : Int) * 2 ^ (7 * k))) = ((v + d * 128 ^ k : Nat) : Int) := by
  have e : (2 : Nat) ^ (7 * k) = 128 ^ k := by rw [Nat.pow_mul]
  have e2 : (d : Int) * 2 ^ (7 * k) = ((d * 128 ^ k : Nat) : Int) := by rw [← e]; simp
  rw [e2, u64_small _ hd, u64_or_nat _ _ (by omega) hd]
  congr 1
  rw [← e] at hv ⊢
  rw [Nat.or_comm, Nat.mul_comm d, ← Nat.two_pow_add_eq_or_of_lt hv, Nat.add_comm]
theorem pow_le (k : Nat) (h : k ≤ 9) : 128 ^ k ≤ 9223372036854775808 := by
  have := Nat.pow_le_pow_right (n := 128) (by omega) h
  simpa using this
set_option maxRecDepth 100000 in
set_option maxHeartbeats 1000000 in
theorem number_any (s : ByteArray) (w : World) :
    Calls Tryd.prog 70 #[.string s] w fun e w' => e = .returned (rdVal (Wire.rd (bl s))) ∧ w = w' := by
  go_enter Tryd.func70, Tryd.ntmps70
  go_wp2_with fail
  go_loop [5, 10] (fun t u => RdRel s t u) (fun _ u => s.size - (intOf u).toNat)
  case atStart => exact ⟨0, 0, Nat.zero_le _, by omega, by decide, rfl, rfl, by simp [Wire.rd]⟩
  case round =>
    obtain ⟨k, v, hk, hk9, hv, ht, hu, he⟩ := hrel
    subst ht hu
    have HE := Lib.hid he
    clear he
    by_cases hlt : k < s.size
    · have hd := bl_drop s k hlt
      have hc := s[k].toNat_lt
      rw [hd] at HE
      clear hd
      generalize hx : s[k].toNat = c at *
      have hc2 : c < 256 := hc
      clear hc
      by_cases hf : (0 < k ∧ c = 0) ∨ (k = 9 ∧ 1 < c)
      · have HR := Lib.hid (HE.out.trans (Wire.rdFrom_form hf))
        clear HE hv
        rcases hf with ⟨h1, rfl⟩ | ⟨rfl, h1⟩
        · go_wp2
          go_ret3
          exact ⟨by rw [HR.out]; rfl, rfl⟩
        · have t2 : ((c : Int) == 0) = false := by simp; omega
          go_wp2
          go_ret3
          exact ⟨by rw [HR.out]; rfl, rfl⟩
      · have hand := and127 c hc2
        have hdl : c % 128 < 128 := Nat.mod_lt _ (by omega)
        have hpl := pow_le k hk9
        have hdp : c % 128 * 128 ^ k < 18446744073709551616 := by
          by_cases h9 : k = 9
          · subst h9; have : c ≤ 1 := by omega
            have : c % 128 ≤ 1 := by omega
            omega
          · have h8 := Nat.pow_le_pow_right (n := 128) (by omega) (show k ≤ 8 by omega)
            have : c % 128 * 128 ^ k ≤ 127 * 128 ^ 8 := Nat.mul_le_mul (by omega) h8
            omega
        have HOr := Lib.hid (or_place k v (c % 128) hv hdp hpl)
        have HW := Lib.hid (u64_small (c % 128) (by omega))
        have hnew : v + c % 128 * 128 ^ k < 128 ^ (k + 1) := by
          rw [Nat.pow_succ]
          have : c % 128 * 128 ^ k ≤ 127 * 128 ^ k := Nat.mul_le_mul_right _ (by omega)
          omega
        have HNew := Lib.hid hnew
        clear hnew hdp hpl hv
        by_cases hc1 : c < 128
        · have HR := Lib.hid (HE.out.trans (Wire.rdFrom_last hf hc1))
          clear HE HNew
          generalize c % 128 = d at *
          by_cases h9 : k = 9
          · subst h9
            have t2 : ((c : Int) == 0) = false := by simp; omega
            have t3 : decide ((1 : Int) < (c : Int)) = false := by simp; omega
            go_wp2
            go_ret3
            exact ⟨by rw [HR.out]; unfold rdVal; rw [← HOr.out, ← HW.out]; rfl, rfl⟩
          · have t4 : ((k : Int) == 9) = false := by simp; omega
            by_cases h0 : k = 0
            · subst h0
              have HO0 := Lib.hid (show bits BinOp.or IntKind.u64 (v : Int) (d : Int) = ((v + d * 128 ^ 0 : Nat) : Int) by
                have := HOr.out
                rwa [show (d : Int) * 2 ^ (7 * 0) = (d : Int) by simp, HW.out] at this)
              go_wp2
              go_ret3
              exact ⟨by rw [HR.out]; unfold rdVal; rw [← HO0.out]; rfl, rfl⟩
            · have t2 : ((c : Int) == 0) = false := by simp; omega
              go_wp2
              go_ret3
              exact ⟨by rw [HR.out]; unfold rdVal; rw [← HOr.out, ← HW.out]; rfl, rfl⟩
        · have HR := Lib.hid (HE.out.trans (Wire.rdFrom_more hf hc1))
          clear HE
          generalize c % 128 = d at *
          have t4 : ((k : Int) == 9) = false := by simp; omega
          have t2 : ((c : Int) == 0) = false := by simp; omega
          by_cases h0 : k = 0
          · subst h0
            have HO0 := Lib.hid (show bits BinOp.or IntKind.u64 (v : Int) (d : Int) = ((v + d * 128 ^ 0 : Nat) : Int) by
                have := HOr.out
                rwa [show (d : Int) * 2 ^ (7 * 0) = (d : Int) by simp, HW.out] at this)
            go_wp2
            go_round
            case rel => exact ⟨1, _, by omega, by omega, HNew.out, by rw [← HO0.out], rfl, HR.out⟩
            case measure => simp [intOf]; omega
          · go_wp2
            go_round
            case rel => exact ⟨k + 1, _, by omega, by omega, HNew.out, by rw [← HOr.out, ← HW.out], by go_num, HR.out⟩
            case measure => simp [intOf]; omega
    · have hn : (bl s).drop k = [] := List.drop_of_length_le (by rw [bl_length]; omega)
      rw [hn] at HE
      clear hn
      go_wp2
      go_ret3
      exact ⟨by rw [HE.out]; rfl, rfl⟩
end Go.Proofs.YtbcmglggplmkfaaDoor
/- The contract of the document's own number. No condition. -/
namespace Go.Proofs.YtbcmglggplmkfaaDoor
open Go.RowKit
set_option maxRecDepth 100000

def RdRel2 (s : ByteArray) (t p u : Value) : Prop := ∃ k v : Nat, k ≤ s.size ∧ k ≤ 9 ∧ v < 128 ^ k ∧ t = .int .u64 (v : Int) ∧ p = .int .u64 ((128 ^ k : Nat) : Int) ∧ u = .int .i64 (k : Int) ∧ Wire.rd (bl s) = Wire.rdFrom k v ((bl s).drop k)
set_option maxRecDepth 100000 in
set_option maxHeartbeats 1000000 in
theorem refNumber_any (s : ByteArray) (w : World) :
    Calls Tryd.prog 56 #[.string s] w fun e w' => e = .returned (rdVal (Wire.rd (bl s))) ∧ w = w' := by
  go_enter Tryd.func56, Tryd.ntmps56
  go_wp2_with fail
  go_loop [5, 6, 7] (fun t p u => RdRel2 s t p u) (fun _ _ u => s.size - (intOf u).toNat)
  case atStart => exact ⟨0, 0, Nat.zero_le _, by omega, by decide, rfl, rfl, rfl, by simp [Wire.rd]⟩
  case round =>
    obtain ⟨k, v, hk, hk9, hv, ht, hp, hu, he⟩ := hrel
    subst ht hp hu
    have HE := Lib.hid he
    clear he
    by_cases hlt : k < s.size
    · have hd := bl_drop s k hlt
      have hc := s[k].toNat_lt
      rw [hd] at HE
      clear hd
      generalize hx : s[k].toNat = c at *
      have hc2 : c < 256 := hc
      clear hc
      by_cases hf : (0 < k ∧ c = 0) ∨ (k = 9 ∧ 1 < c)
      · have HR := Lib.hid (HE.out.trans (Wire.rdFrom_form hf))
        clear HE hv
        generalize 128 ^ k = P at *
        rcases hf with ⟨h1, rfl⟩ | ⟨rfl, h1⟩
        · go_wp2
          go_ret3
          exact ⟨by rw [HR.out]; rfl, rfl⟩
        · have t2 : ((c : Int) == 0) = false := by simp; omega
          go_wp2
          go_ret3
          exact ⟨by rw [HR.out]; rfl, rfl⟩
      · have hdl : c % 128 < 128 := Nat.mod_lt _ (by omega)
        have hcd : (c : Int) % 128 = ((c % 128 : Nat) : Int) := by simp
        have hpl := pow_le k hk9
        have hdp : c % 128 * 128 ^ k + v < 18446744073709551616 := by
          by_cases h9 : k = 9
          · subst h9
            have : c % 128 ≤ 1 := by omega
            omega
          · have h8 := Nat.pow_le_pow_right (n := 128) (by omega) (show k ≤ 8 by omega)
            have : c % 128 * 128 ^ k ≤ 127 * 128 ^ 8 := Nat.mul_le_mul (by omega) h8
            omega
        have hnew : v + c % 128 * 128 ^ k < 128 ^ (k + 1) := by
          rw [Nat.pow_succ]
          have : c % 128 * 128 ^ k ≤ 127 * 128 ^ k := Nat.mul_le_mul_right _ (by omega)
          omega
        have hpm : ((c % 128 : Nat) : Int) * ((128 ^ k : Nat) : Int) = ((c % 128 * 128 ^ k : Nat) : Int) := by simp
        have HNew := Lib.hid hnew
        have HPs := Lib.hid (Nat.pow_succ (n := 128) (m := k))
        by_cases hc1 : c < 128
        · have HR := Lib.hid (HE.out.trans (Wire.rdFrom_last hf hc1))
          clear HE HNew HPs hnew hv
          generalize c % 128 = d at *
          generalize d * 128 ^ k = M at *
          generalize 128 ^ k = P at *
          have hvm : (v : Int) + (M : Int) = ((v + M : Nat) : Int) := by omega
          have hvl : v + M < 18446744073709551616 := by omega
          generalize v + M = V at *
          clear hdp
          by_cases h9 : k = 9
          · subst h9
            have t2 : ((c : Int) == 0) = false := by simp; omega
            have t3 : decide ((1 : Int) < (c : Int)) = false := by simp; omega
            go_wp2
            go_ret3
            exact ⟨by rw [HR.out]; rfl, rfl⟩
          · have t4 : ((k : Int) == 9) = false := by simp; omega
            by_cases h0 : k = 0
            · subst h0
              go_wp2
              go_ret3
              exact ⟨by rw [HR.out]; rfl, rfl⟩
            · have t2 : ((c : Int) == 0) = false := by simp; omega
              go_wp2
              go_ret3
              exact ⟨by rw [HR.out]; rfl, rfl⟩
        · have HR := Lib.hid (HE.out.trans (Wire.rdFrom_more hf hc1))
          have h8 := Nat.pow_le_pow_right (n := 128) (by omega) (show k ≤ 8 by omega)
          have hp8 : 128 ^ k ≤ 72057594037927936 := by omega
          clear HE hnew hv h8 hpl
          generalize c % 128 = d at *
          generalize d * 128 ^ k = M at *
          obtain ⟨P2, hP2⟩ : ∃ P2, P2 = 128 ^ (k + 1) := ⟨_, rfl⟩
          have hp2 : ((128 ^ k : Nat) : Int) * 128 = (P2 : Int) := by rw [hP2, HPs.out]; simp
          have hpb : P2 ≤ 9223372036854775808 := by rw [hP2, HPs.out]; omega
          have HP2 := Lib.hid hP2
          clear hP2
          generalize 128 ^ k = P at *
          have hvm : (v : Int) + (M : Int) = ((v + M : Nat) : Int) := by omega
          have hvl : v + M < 18446744073709551616 := by omega
          generalize v + M = V at *
          clear hdp HPs
          have t4 : ((k : Int) == 9) = false := by simp; omega
          have t2 : ((c : Int) == 0) = false := by simp; omega
          by_cases h0 : k = 0
          · subst h0
            go_wp2
            go_round
            case rel => exact ⟨1, V, by omega, by omega, HNew.out, rfl, by rw [HP2.out], rfl, HR.out⟩
            case measure => simp [intOf]; omega
          · go_wp2
            go_round
            case rel => exact ⟨k + 1, V, by omega, by omega, HNew.out, rfl, by rw [HP2.out], by go_num, HR.out⟩
            case measure => simp [intOf]; omega
    · have hn : (bl s).drop k = [] := List.drop_of_length_le (by rw [bl_length]; omega)
      rw [hn] at HE
      clear hn hv
      generalize 128 ^ k = P at *
      go_wp2
      go_ret3
      exact ⟨by rw [HE.out]; rfl, rfl⟩
end Go.Proofs.YtbcmglggplmkfaaDoor
/- A field, as the document's answer has it: its cells. No condition. -/
namespace Go.Proofs.YtbcmglggplmkfaaDoor
open Go.RowKit
set_option maxRecDepth 100000

structure Fld where
  kind : Int
  most : Int
  n : Nat
  i : Int
  s : ByteArray
  h : List Nat
structure Fld.Ok (f : Fld) : Prop where
  k1 : -9223372036854775808 ≤ f.kind
  k2 : f.kind ≤ 9223372036854775807
  m1 : -9223372036854775808 ≤ f.most
  m2 : f.most ≤ 9223372036854775807
  n2 : f.n < 18446744073709551616
  i1 : -9223372036854775808 ≤ f.i
  i2 : f.i ≤ 9223372036854775807
  hl : f.h.length = 32
  hb : ∀ x ∈ f.h, x < 256
def Fld.cells (f : Fld) : List Value := .int .i64 f.kind :: .int .i64 f.most :: .int .u64 (f.n : Int) :: .int .i64 f.i :: .string f.s :: U8 f.h
def Fld.val (f : Fld) : Value := .agg f.cells.toArray
theorem Fld.len {f : Fld} (h : f.Ok) : f.cells.length = 37 := by simp [Fld.cells, h.hl]
/-- The value v is a slice of the fields fs. -/
def Flds (w : World) (v : Value) (fs : List Fld) : Prop :=
  ∃ (A : Option Addr) (c : Nat), v = .slice A fs.length c ∧ fs.length ≤ c ∧ c ≤ maxLen ∧ (∀ f ∈ fs, f.Ok) ∧ (0 < fs.length → ∃ b o, A = some ⟨b, o, none⟩ ∧ b < w.heap.size ∧ ∀ (i : Nat) (f : Fld), fs[i]? = some f → ∀ j u, f.cells[j]? = some u → w.cell? ⟨b, o + i * 37 + j, none⟩ = some u)
end Go.Proofs.YtbcmglggplmkfaaDoor
