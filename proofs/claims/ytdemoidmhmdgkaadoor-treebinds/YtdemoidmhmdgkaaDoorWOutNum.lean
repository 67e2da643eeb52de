/- The contracts of NewOut, Out.Num, Done, folded. Conditions: what was written has at most 100000 bytes; a number of 64 bits. -/
import Derived.Test.YtdemoidmhmdgkaaDoorWFr
import Derived.Laws.BitsAllLaws
import Derived.Deep.RegionLaw
import Derived.Deep.AppendLies
import Derived.BigRegion
namespace Go.Proofs.YtdemoidmhmdgkaaDoor
open Go.RowKit

theorem newOut_any (w : World) : Calls Tryd.prog 70 #[] w fun e w' => e = .returned (.pointer (some ⟨w.heap.size, 0, none⟩)) ∧ w' = w.alloc (.cells #[.slice none 0 0] 110) := by
  go_enter Tryd.func70, Tryd.ntmps70
  go_wp2
  go_ret
  exact ⟨rfl, rfl⟩
theorem out_new (w : World) : Out (w.alloc (.cells #[.slice none 0 0] 110)) w.heap.size (.slice none 0 0) [] := ⟨Has.new w 110 [.slice none 0 0], World.ownsRow_nil _ _ _ _⟩

theorem or128 (n : Nat) (h : n < 256) : bits BinOp.or IntKind.u8 (n : Int) 128 = ((n % 128 + 128 : Nat) : Int) := by
  have : ∀ n : Nat, n < 256 → bits BinOp.or IntKind.u8 (n : Int) 128 = ((n % 128 + 128 : Nat) : Int) := by decide +kernel
  exact this n h

theorem own_shape {w : World} {base n : Nat} {e : TypeId} {size : Nat} {v : Value} {xs : List Value} (h : w.ownsRow base e size v n xs) : ∃ a c, v = .slice a n c := by
  rcases h.2 with ⟨hv, hn⟩ | ⟨g, cap, cur, hv, _⟩
  · exact ⟨none, 0, by rw [hv, hn]⟩
  · exact ⟨_, _, hv⟩
theorem out_one {w : World} {b x : Nat} {v : Value} {l : List Nat} (h : Out w b v l) : ∀ v2 V2, V2.ownsRow 0 5 1 v2 (l.length + 1) (U8 l ++ [.int .u8 (x : Int)]) → (w.alloc (.cells #[.int .u8 (x : Int)] 5)).grownBy V2 v.ownBlock → (v2.ownBlock = v.ownBlock ∨ v2.ownBlock = some (w.alloc (.cells #[.int .u8 (x : Int)] 5)).heap.size) →
    Wrote w b v (l ++ [x]) (V2.setCell ⟨b, 0, none⟩ v2) ∧ V2.cell? ⟨b, 0, none⟩ = some v ∧ V2.frozen? ⟨b, 0, none⟩ = false := fun v2 V2 h1 h2 h3 =>
  out_store h ((Below.refl _ _).alloc (Nat.le_refl _) _) (by rw [List.length_append, U8_append]; exact h1) h2 h3
def NumRel (w : World) (b : Nat) (v : Value) (all : List Nat) (t : Value) (V : World) : Prop := ∃ (m : Nat) (l' : List Nat), t = .int .u64 (m : Int) ∧ m < 18446744073709551616 ∧ Wrote w b v l' V ∧ l' ++ Wire.num m = all
set_option maxRecDepth 100000 in
set_option maxHeartbeats 1000000 in
theorem outNum_any (b n : Nat) (v : Value) (l : List Nat) (w : World) (hn : n < 18446744073709551616) (h : Out w b v l) (hl : l.length ≤ 100000) :
    Calls Tryd.prog 71 #[.pointer (some ⟨b, 0, none⟩), .int .u64 (n : Int)] w fun e w' => e = .returned (.tuple #[]) ∧ Wrote w b v (l ++ Wire.num n) w' := by
  have H0 := Lib.hid (show NumRel w b v (l ++ Wire.num n) (.int .u64 (n : Int)) w from ⟨n, l, rfl, hn, Wrote.refl h, rfl⟩)
  have HA := Lib.hid (show (l ++ Wire.num n).length ≤ 100010 by have := Wire.num_len10 n hn; simp; omega)
  clear h hl
  generalize l ++ Wire.num n = all at *
  go_enter Tryd.func71, Tryd.ntmps71
  go_wp2_with fail
  go_loopw [1] (fun t V => NumRel w b v all t V) (fun t _ => (intOf t).toNat)
  case atStart => exact H0.out
  case round =>
    clear H0
    obtain ⟨m, l', ht, hm, hw, ha⟩ := hrel
    subst ht
    obtain ⟨v1, ho, hf, hla⟩ := hw
    have HF := Lib.hid hf
    have HL := Lib.hid hla
    have hll : l'.length ≤ 100010 := by have := HA.out; rw [← ha] at this; simp at this; omega
    have HAll := Lib.hid ha
    have c1 : wr.cell? ⟨b, 0, none⟩ = some v1 := ho.1.cell 0
    obtain ⟨i0, hi, hz0, hzs, hzb⟩ := info_parts infoW5
    have HI := Lib.hid hi
    have HZ0 := Lib.hid hz0
    have HZs := Lib.hid hzs
    have HZb := Lib.hid hzb
    clear hf hla ha hi hz0 hzs hzb
    by_cases hlt : m < 128
    · have hx : (m : Int) % 256 = (m : Int) := by omega
      have HStep := Lib.hid (out_one (x := m) ho)
      have HOwn := Lib.hid (ho.2.alloc (.cells #[.int .u8 (m : Int)] 5))
      clear ho
      go_wp2_with (at_builtin; refine wpList_append_own_at _ rfl _ _ 37 rfl 0 5 i0 (.int .u8 0) 1 1 und59 HI.out HZ0.out HZs.out HZb.out rfl (by decide) _ _ _ rfl HOwn.out ⟨wr.heap.size, 0, none⟩ 1 1 [.int .u8 (m : Int)] rfl rfl (cell_one_new _ _ _) (fun u hu => by rw [List.mem_singleton.1 hu]; rfl) (by unfold maxLen; omega) (by omega) (Nat.zero_le _) ?_; intro v2 V2 hown2 hgr2 hnil2 hat2; obtain ⟨A2, C2, rfl⟩ := own_shape hown2; obtain ⟨hst, c2, f2⟩ := HStep.out _ V2 hown2 hgr2 hat2)
      go_end0
      refine ⟨rfl, ?_⟩
      rw [← HAll.out, Wire.num_lt hlt]
      exact Wrote.trans HF.out HL.out hst
    · have hx : (m : Int) % 256 = ((m % 256 : Nat) : Int) := by simp
      have hor := or128 (m % 256) (by omega)
      rw [show m % 256 % 128 = m % 128 by omega] at hor
      generalize m % 256 = y at *
      generalize hq : m % 128 + 128 = x at *
      have HQ := Lib.hid hq
      have HStep := Lib.hid (out_one (x := x) ho)
      have HOwn := Lib.hid (ho.2.alloc (.cells #[.int .u8 (x : Int)] 5))
      clear hq ho
      go_wp2_with (at_builtin; refine wpList_append_own_at _ rfl _ _ 37 rfl 0 5 i0 (.int .u8 0) 1 1 und59 HI.out HZ0.out HZs.out HZb.out rfl (by decide) _ _ _ rfl HOwn.out ⟨wr.heap.size, 0, none⟩ 1 1 [.int .u8 (x : Int)] rfl rfl (cell_one_new _ _ _) (fun u hu => by rw [List.mem_singleton.1 hu]; rfl) (by unfold maxLen; omega) (by omega) (Nat.zero_le _) ?_; intro v2 V2 hown2 hgr2 hnil2 hat2; obtain ⟨A2, C2, rfl⟩ := own_shape hown2; obtain ⟨hst, c2, f2⟩ := HStep.out _ V2 hown2 hgr2 hat2)
      go_round
      case rel => exact ⟨m / 128, l' ++ [x], by go_num, by omega, Wrote.trans HF.out HL.out hst, by rw [← HAll.out, Wire.num_ge hlt, HQ.out]; simp⟩
      case measure => simp [intOf]; omega
end Go.Proofs.YtdemoidmhmdgkaaDoor
/- The contract of Out.Hash. Conditions: 32 bytes; what was written has at most 100000 bytes. -/
namespace Go.Proofs.YtdemoidmhmdgkaaDoor
open Go.RowKit

set_option maxRecDepth 100000 in
set_option maxHeartbeats 2000000 in
theorem outHash_any (b : Nat) (x : List Nat) (v : Value) (l : List Nat) (w : World) (hx : x.length = 32) (h : Out w b v l) (hl : l.length ≤ 100000) :
    Calls Tryd.prog 72 #[.pointer (some ⟨b, 0, none⟩), .agg (U8 x).toArray] w fun e w' => e = .returned (.tuple #[]) ∧ Wrote w b v (l ++ x) w' := by
  obtain ⟨W, hW⟩ : ∃ W, w.alloc (.cells (U8 x).toArray 26) = W := ⟨_, rfl⟩
  have hX : Has W w.heap.size 26 (U8 x) := by rw [← hW]; exact Has.new _ _ _
  have hB1 : Below w.heap.size w W := by rw [← hW]; exact (Below.refl _ _).alloc (Nat.le_refl _) _
  have hO1 : Out W b v l := h.below hB1
  have c0 : W.drew.cell? ⟨b, 0, none⟩ = some v := hO1.1.cell 0
  have HNews : Hid (∀ j u, (U8 x)[j]? = some u → W.drew.cell? ((⟨w.heap.size, 0, none⟩ : Addr).add j) = some u) := fun j u hu => by
    rw [show (⟨w.heap.size, 0, none⟩ : Addr).add j = ⟨w.heap.size, j, none⟩ from by unfold Addr.add; split <;> simp_all]
    exact (hX.cell j).trans hu
  have HLx : Hid ((U8 x).length = 32 * 1) := by show _ = _; rw [U8_length, hx]
  have HOwn : Hid (W.drew.ownsRow 0 5 1 v l.length (U8 l)) := hO1.2
  have HStep : Hid (∀ (g cap : Nat) (V2 : World), V2.ownsRow 0 5 1 (.slice (some ⟨g, 0, none⟩) (l.length + 32) cap) (l.length + 32) (U8 l ++ U8 x) → W.drew.grownBy V2 v.ownBlock → (v.ownBlock = some g ∨ g = W.heap.size) →
      Wrote w b v (l ++ x) (V2.setCell ⟨b, 0, none⟩ (.slice (some ⟨g, 0, none⟩) (l.length + 32) cap)) ∧ V2.cell? ⟨b, 0, none⟩ = some v ∧ V2.frozen? ⟨b, 0, none⟩ = false) := fun g cap V2 h1 h2 h3 =>
    out_store h hB1.drew (by rw [List.length_append, U8_append, hx]; exact h1) h2 (by
      rcases h3 with h3 | h3
      · left; rw [h3]; rfl
      · right; rw [h3]; rfl)
  obtain ⟨i0, hi, hz0, hzs, hzb⟩ := info_parts infoW5
  have HI := Lib.hid hi
  have HZ0 := Lib.hid hz0
  have HZs := Lib.hid hzs
  have HZb := Lib.hid hzb
  have HW := Lib.hid hW
  clear h hO1 hx hX hB1 hi hz0 hzs hzb hW
  go_enter Tryd.func72, Tryd.ntmps72
  go_wp2
  rw [HW.out]
  go_region_law ((refine step_append_lies _ rfl (.tmp 8) (.tmp 9) 37 rfl 0 5 i0 (.int .u8 0) 1 1 und59 HI.out HZ0.out HZs.out HZb.out rfl (by decide) v l.length (U8 l) (by simp [Act.eval]) HOwn.out ⟨w.heap.size, 0, none⟩ 32 32 (U8 x) (by simp [Act.eval]) HLx.out HNews.out (U8_one x) (by decide) (by unfold maxLen; omega) (by omega) (Nat.zero_le _) W.heap.size rfl ?_; intro g cap V2 hown2 hgr2 hat2 hlt2; obtain ⟨hst, c2, f2⟩ := HStep.out g cap V2 hown2 hgr2 hat2))
  go_wp2
  go_end0
  exact ⟨rfl, hst⟩
end Go.Proofs.YtdemoidmhmdgkaaDoor
