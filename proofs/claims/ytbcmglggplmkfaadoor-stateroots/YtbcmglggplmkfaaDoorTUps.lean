/- Layer 3: a leaf's proof comes to the top; the chapter's example. No condition. -/
import Derived.Test.YtbcmglggplmkfaaDoorTCheck
namespace Go.Proofs.YtbcmglggplmkfaaDoor
open Go.RowKit
set_option maxRecDepth 100000

theorem ups_append : ∀ (xs : List (Nat × Nat × Bool)) (hs : List (List Nat)) (t : List Nat) (x : Nat × Nat × Bool) (h : List Nat), xs.length = hs.length → ups t (xs ++ [x]) (hs ++ [h]) = Tree.step (ups t xs hs) h x.2.2
  | [], [], t, x, h, _ => by simp [ups]
  | [], _ :: _, _, _, _, hl => by simp at hl
  | _ :: _, [], _, _, _, hl => by simp at hl
  | y :: xs, g :: hs, t, x, h, hl => by
    have := ups_append xs hs (Tree.step t g y.2.2) x h (by simpa using hl)
    simpa [ups] using this
/-- A proof of a leaf comes to the top. -/
theorem ups_part (l : List (List Nat)) : ∀ (n first at_ : Nat), 0 < n → first + n ≤ l.length → first ≤ at_ → at_ < first + n → ups (Tree.leaf (l.getD at_ [])) (Tree.path first n at_) ((Tree.path first n at_).map (topOf l)) = Tree.top ((l.drop first).take n) := by
  intro n
  induction n using Nat.strongRecOn with
  | _ n ih =>
    intro first at_ h0 hl ha hb
    have hlen : ((l.drop first).take n).length = n := by simp; omega
    by_cases h2 : n < 2
    · obtain rfl : n = 1 := by omega
      obtain rfl : at_ = first := by omega
      rw [Tree.path_small (by omega)]
      have hg : (l.drop at_).take 1 = [l.getD at_ []] := by
        rw [List.getD_eq_getElem?_getD, List.getElem?_eq_getElem (by omega), List.take_one, List.head?_drop, List.getElem?_eq_getElem (by omega)]
        simp
      rw [hg, Tree.top_one]; rfl
    · have hh1 := Tree.half_lt (n := n) (by omega)
      have hh0 := Tree.half_pos n
      have ht := Tree.top_more (l := (l.drop first).take n) (by omega)
      rw [hlen] at ht
      have e1 : ((l.drop first).take n).take (Tree.half n) = (l.drop first).take (Tree.half n) := by rw [List.take_take, Nat.min_eq_left (by omega)]
      have e2 : ((l.drop first).take n).drop (Tree.half n) = (l.drop (first + Tree.half n)).take (n - Tree.half n) := by rw [List.drop_take, List.drop_drop]
      rw [e1, e2] at ht
      by_cases hat : at_ < first + Tree.half n
      · rw [Tree.path_left (by omega) hat, List.map_append, List.map_singleton, ups_append _ _ _ _ _ (by simp), ih _ hh1 first at_ (by omega) (by omega) ha hat, ht]
        unfold Tree.step topOf
        rw [if_neg (by simp), show first + n - (first + Tree.half n) = n - Tree.half n by omega]
      · rw [Tree.path_right (by omega) hat, List.map_append, List.map_singleton, ups_append _ _ _ _ _ (by simp), ih _ (by omega) (first + Tree.half n) at_ (by omega) (by omega) (by omega) (by omega), ht]
        unfold Tree.step topOf
        rw [if_pos rfl, show first + Tree.half n - first = Tree.half n by omega]
theorem ups_proof (l : List (List Nat)) (at_ : Nat) (h : at_ < l.length) : ups (Tree.leaf (l.getD at_ [])) (Tree.path 0 l.length at_) (proofOf l at_) = Tree.top l := by
  have := ups_part l l.length 0 at_ (by omega) (by omega) (by omega) (by omega)
  rwa [List.drop_zero, List.take_length] at this
theorem proof_len (l : List (List Nat)) (at_ : Nat) (h : at_ < l.length) (hn : l.length ≤ 1073741824) : (proofOf l at_).length = deepZ l.length at_ := by
  unfold proofOf deepZ
  rw [List.length_map, if_neg (by simp [thereB]; omega)]
  simp
/-- A proof proves its leaf. -/
theorem check_proof (l : List (List Nat)) (at_ : Nat) (h : at_ < l.length) (hn : l.length ≤ 1073741824) : checkB (Tree.root l.length (Tree.top l)) l.length at_ (l.getD at_ []) (proofOf l at_) = true := by
  have hp := proof_len l at_ h hn
  unfold checkB
  rw [if_neg (by rw [hp]; simp [thereB]; omega)]
  simp only [Int.toNat_natCast]
  rw [ups_proof l at_ h]; simp
end Go.Proofs.YtbcmglggplmkfaaDoor
