/- Layer 10: Root. Conditions: at most 10000 vertices. -/
import Derived.Test.YtbcmglggplmkfaaDoorYRows
import Derived.Test.YtbcmglggplmkfaaDoorTTop
import Derived.Test.YtbcmglggplmkfaaDoorTRefB
namespace Go.Proofs.YtbcmglggplmkfaaDoor
open Go.RowKit
set_option maxRecDepth 100000

def rowsX (l : List Vx) : List ByteArray := l.map putX
theorem rowsX_small (l : List Vx) : ∀ s ∈ rowsX l, s.size ≤ 19 := fun s hs => by
  obtain ⟨x, _, rfl⟩ := List.mem_map.1 hs
  unfold putX
  rw [S_size]
  by_cases h : rightX x = true
  · rw [if_pos h]; exact (bytesX_size h).2
  · rw [if_neg h]; simp
def rootX (l : List Vx) : List Nat := Tree.root (rowsX l).length (Tree.top ((rowsX l).map bl))
theorem rootX_len (l : List Vx) : (rootX l).length = 32 := root_len _ _
set_option maxRecDepth 100000 in
set_option maxHeartbeats 1000000 in
theorem sroot_any (l : List Vx) (v : Value) (w : World) (hV : Verts w v l) (hl : l.length ≤ 10000) (hk : Kept w) : Ans 18 [v] w (fun u w' => u = .agg (U8 (rootX l)).toArray ∧ Below w.heap.size w w') := by
  refine calls_qx (args := [v]) 6 Tryd.func18 rfl (by kernel_rfl) (by simp) (fun a hS => ?_)
  refine qx_seq (reg_seq ?_)
  refine seq_op hS (by decide) alloc_hash (fun v1 w1 a1 hp1 hS => ?_)
  obtain ⟨rfl, rfl⟩ := hp1
  have hH1 := Has.new w 39 (U8 (List.replicate 32 0))
  have hB1 : Below w.heap.size w (w.alloc (.cells (U8 (List.replicate 32 0)).toArray 39)) := (Below.refl _ _).alloc (Nat.le_refl _) _
  generalize w.alloc (.cells (U8 (List.replicate 32 0)).toArray 39) = w1 at *
  have hV1 := hV.kept hB1
  have hk1 := hk.below hB1 hk.pos
  refine nil_ok (qx_seq (reg_seq ?_))
  refine seq_is hS (by decide) (runs_move rfl) (fun a1 hS => ?_)
  refine seq_op hS (by decide) (runs_call (args := [v]) goes17 rfl (srows_any l v w1 hV1 hl)) (fun v2 w2 a2 hp2 hS => ?_)
  obtain ⟨hR, hB2⟩ := hp2
  have hroot := root_any (rowsX l) v2 w2 hR (fun s hs => Nat.le_trans (rowsX_small l s hs) (by omega)) (by simp [rowsX]; omega) (hk1.below hB2 hk1.pos)
  refine seq_op hS (by decide) (runs_call (args := [v2]) goes19 rfl (hash_post (fun w' => Below w2.heap.size w2 w') hroot (fun _ h => h))) (fun v3 w3 a3 hp3 hS => ?_)
  obtain ⟨rfl, hB3⟩ := hp3
  have hH3 := (hH1.below hB2 hH1.lt).below hB3 (Nat.lt_of_lt_of_le hH1.lt hB2.size)
  have hlen : (rootX l).length = 32 := rootX_len l
  refine seq_none hS (runs_storeRow (cs := (U8 (rootX l)).toArray) rfl rfl hH3 (by simp [hlen]) (agg_all _) (by rw [infHash]; simp [hlen])) (fun v6 w6 a6 hp6 hS => ?_)
  obtain ⟨rfl, rfl⟩ := hp6
  exact nil_ok (qx_ret (retRow (t := 0) (p := 2) (by kernel_rfl) hS rfl (has_setRow (cs := U8 (rootX l)) hH3) rfl undHash rfl (by rw [infHash]; simp [hlen]) ⟨_, rfl, rfl, below_row ((hB1.trans (hB2.mono hB1.size)).trans (hB3.mono (Nat.le_trans hB1.size hB2.size))) (Nat.le_refl _) _⟩))
end Go.Proofs.YtbcmglggplmkfaaDoor
