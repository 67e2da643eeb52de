/- The contract of Out.Hash. Conditions: 32 bytes; what was written has at most 100000 bytes. -/
import Derived.Test.YtlldcicnakdjmaaDoorWOutNum
import Derived.Deep.RegionLaw
import Derived.Deep.AppendLies
import Derived.BigRegion
namespace Go.Proofs.YtlldcicnakdjmaaDoor
open Go.RowKit

set_option maxRecDepth 100000 in
set_option maxHeartbeats 2000000 in
theorem outHash_any (b : Nat) (x : List Nat) (v : Value) (l : List Nat) (w : World) (hx : x.length = 32) (h : Out w b v l) (hl : l.length ≤ 100000) :
    Calls Tryd.prog 56 #[.pointer (some ⟨b, 0, none⟩), .agg (U8 x).toArray] w fun e w' => e = .returned (.tuple #[]) ∧ Wrote w b v (l ++ x) w' := by
  obtain ⟨W, hW⟩ : ∃ W, w.alloc (.cells (U8 x).toArray 26) = W := ⟨_, rfl⟩
  have hX : Has W w.heap.size 26 (U8 x) := by rw [← hW]; exact Has.new _ _ _
  have hB1 : Below w.heap.size w W := by rw [← hW]; exact (Below.refl _ _).alloc (Nat.le_refl _) _
  have hO1 : Out W b v l := h.below hB1
  have c0 : W.drew.cell? ⟨b, 0, none⟩ = some v := hO1.1.cell 0
  have HNews : Hid (∀ j u, (U8 x)[j]? = some u → W.drew.cell? ((⟨w.heap.size, 0, none⟩ : Addr).add j) = some u) := fun j u hu => by
    rw [show (⟨w.heap.size, 0, none⟩ : Addr).add j = ⟨w.heap.size, j, none⟩ from by unfold Addr.add; split <;> simp_all]
    exact (hX.cell j).trans hu
  have HLx : Hid ((U8 x).length = 32 * 1) := by show _ = _; rw [U8_length, hx]
  have HOwn : Hid (W.drew.ownsRow 0 5 1 v l.length (U8 l)) := hO1.2
  have HStep : Hid (∀ (g cap : Nat) (V2 : World), V2.ownsRow 0 5 1 (.slice (some ⟨g, 0, none⟩) (l.length + 32) cap) (l.length + 32) (U8 l ++ U8 x) → W.drew.grownBy V2 v.ownBlock → (v.ownBlock = some g ∨ g = W.heap.size) →
      Wrote w b v (l ++ x) (V2.setCell ⟨b, 0, none⟩ (.slice (some ⟨g, 0, none⟩) (l.length + 32) cap)) ∧ V2.cell? ⟨b, 0, none⟩ = some v ∧ V2.frozen? ⟨b, 0, none⟩ = false) := fun g cap V2 h1 h2 h3 =>
    out_store h hB1.drew (by rw [List.length_append, U8_append, hx]; exact h1) h2 (by
      rcases h3 with h3 | h3
      · left; rw [h3]; rfl
      · right; rw [h3]; rfl)
  obtain ⟨i0, hi, hz0, hzs, hzb⟩ := info_parts infoW5
  have HI := Lib.hid hi
  have HZ0 := Lib.hid hz0
  have HZs := Lib.hid hzs
  have HZb := Lib.hid hzb
  have HW := Lib.hid hW
  clear h hO1 hx hX hB1 hi hz0 hzs hzb hW
  go_enter Tryd.func56, Tryd.ntmps56
  go_wp2
  rw [HW.out]
  go_region_law ((refine step_append_lies _ rfl (.tmp 8) (.tmp 9) 46 rfl 0 5 i0 (.int .u8 0) 1 1 und59 HI.out HZ0.out HZs.out HZb.out rfl (by decide) v l.length (U8 l) (by simp [Act.eval]) HOwn.out ⟨w.heap.size, 0, none⟩ 32 32 (U8 x) (by simp [Act.eval]) HLx.out HNews.out (U8_one x) (by decide) (by unfold maxLen; omega) (by omega) (Nat.zero_le _) W.heap.size rfl ?_; intro g cap V2 hown2 hgr2 hat2 hlt2; obtain ⟨hst, c2, f2⟩ := HStep.out g cap V2 hown2 hgr2 hat2))
  go_wp2
  go_end0
  exact ⟨rfl, hst⟩
end Go.Proofs.YtlldcicnakdjmaaDoor
