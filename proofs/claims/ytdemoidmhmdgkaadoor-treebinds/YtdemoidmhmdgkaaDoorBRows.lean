/- The rows on the way from a leaf to the root; two ways to one root meet in two rows of one sum. Conditions: leaves of at most 900 bytes. -/
import Derived.Test.YtdemoidmhmdgkaaDoorEngA
namespace Go.Proofs.YtdemoidmhmdgkaaDoor
open Go.RowKit
set_option maxRecDepth 100000

theorem goes17 : Goes Tryd.prog 17 := goes_of Tryd.func17 (by kernel_rfl) rfl
theorem goes43 : Goes Tryd.prog 43 := goes_of Tryd.func43 (by kernel_rfl) rfl
/-- All that is summed up on the way, from the top on down. -/
def rowsL (m p : Nat) (s : List Nat) (hs : List (List Nat)) : List (List Nat) :=
  if _h : m < 2 then [0 :: s]
  else if p < Tree.half m then (1 :: (Sha.sha ((rowsL (Tree.half m) p s hs.dropLast).headD []) ++ hs.getLastD [])) :: rowsL (Tree.half m) p s hs.dropLast
  else (1 :: (hs.getLastD [] ++ Sha.sha ((rowsL (m - Tree.half m) (p - Tree.half m) s hs.dropLast).headD []))) :: rowsL (m - Tree.half m) (p - Tree.half m) s hs.dropLast
termination_by m
decreasing_by
  · exact Tree.half_lt (by omega)
  · have := Tree.half_pos m; omega
theorem rows_small {m p : Nat} {s : List Nat} {hs : List (List Nat)} (h : m < 2) : rowsL m p s hs = [0 :: s] := by rw [rowsL, dif_pos h]
theorem rows_left {m p : Nat} {s : List Nat} {hs : List (List Nat)} (h : ¬ m < 2) (hp : p < Tree.half m) : rowsL m p s hs = (1 :: (Sha.sha ((rowsL (Tree.half m) p s hs.dropLast).headD []) ++ hs.getLastD [])) :: rowsL (Tree.half m) p s hs.dropLast := by rw [rowsL, dif_neg h, if_pos hp]
theorem rows_right {m p : Nat} {s : List Nat} {hs : List (List Nat)} (h : ¬ m < 2) (hp : ¬ p < Tree.half m) : rowsL m p s hs = (1 :: (hs.getLastD [] ++ Sha.sha ((rowsL (m - Tree.half m) (p - Tree.half m) s hs.dropLast).headD []))) :: rowsL (m - Tree.half m) (p - Tree.half m) s hs.dropLast := by rw [rowsL, dif_neg h, if_neg hp]
theorem last_split {hs : List (List Nat)} (h : 0 < hs.length) : hs = hs.dropLast ++ [hs.getLastD []] := by
  have hne : hs ≠ [] := List.length_pos_iff.1 h
  rw [List.getLastD_eq_getLast?, List.getLast?_eq_some_getLast hne]
  exact (List.dropLast_concat_getLast hne).symm
theorem path_len_l {m p : Nat} (h : ¬ m < 2) (hp : p < Tree.half m) : (Tree.path 0 m p).length = (Tree.path 0 (Tree.half m) p).length + 1 := by rw [path_l (by omega) hp]; simp
theorem path_len_r {m p : Nat} (h : ¬ m < 2) (hp : ¬ p < Tree.half m) : (Tree.path 0 m p).length = (Tree.path 0 (m - Tree.half m) (p - Tree.half m)).length + 1 := by rw [path_r (by omega) hp]; simp
/-- The first row's sum is what the way comes to; all rows are short, and bytes. -/
theorem rows_facts (s : List Nat) (hsb : Sha.Bytes s) (hsl : s.length ≤ 900) : ∀ (m p : Nat) (hs : List (List Nat)), hs.length = (Tree.path 0 m p).length → (∀ h ∈ hs, h.length = 32 ∧ Sha.Bytes h) → (∃ x xs, rowsL m p s hs = x :: xs ∧ Sha.sha x = ups (Tree.leaf s) (Tree.path 0 m p) hs) ∧ (∀ r ∈ rowsL m p s hs, Sha.Bytes r ∧ r.length ≤ 901) ∧ (rowsL m p s hs).length = hs.length + 1 := by
  intro m
  induction m using Nat.strongRecOn with
  | _ m ih =>
    intro p hs hl hok
    by_cases hm : m < 2
    · rw [Tree.path_small hm] at hl ⊢
      rw [rows_small hm]
      refine ⟨⟨_, _, rfl, ?_⟩, fun r hr => ?_, by rw [show hs.length = 0 from hl]; rfl⟩
      · cases hs with
        | nil => rfl
        | cons _ _ => simp at hl
      · rw [List.mem_singleton.1 hr]
        exact ⟨bytes_cons (by omega) hsb, by simp; omega⟩
    · have hh := Tree.half_lt (n := m) (by omega)
      have hp0 := Tree.half_pos m
      by_cases hp : p < Tree.half m
      · have hpl := path_len_l hm hp
        have hsp := last_split (hs := hs) (by omega)
        have hdl : hs.dropLast.length = hs.length - 1 := by simp
        have hlast : (hs.getLastD []).length = 32 ∧ Sha.Bytes (hs.getLastD []) := hok _ (by rw [hsp]; simp)
        obtain ⟨⟨x, xs, e1, e2⟩, e3, e4⟩ := ih _ hh p hs.dropLast (by omega) (fun h hm' => hok h (List.dropLast_subset _ hm'))
        rw [rows_left hm hp, e1]
        have hnode : Sha.sha (1 :: (Sha.sha x ++ hs.getLastD [])) = ups (Tree.leaf s) (Tree.path 0 m p) hs := by
          have := ups_append (Tree.path 0 (Tree.half m) p) hs.dropLast (Tree.leaf s) (Tree.half m, m, false) (hs.getLastD []) (by omega)
          rw [← path_l (by omega) hp, ← hsp] at this
          rw [this, e2]; rfl
        refine ⟨⟨_, _, rfl, hnode⟩, fun r hr => ?_, by rw [← e1, List.length_cons, e4]; omega⟩
        rcases List.mem_cons.1 hr with rfl | hr
        · exact ⟨bytes_cons (by omega) (bytes_append (sha_bytes _) hlast.2), by
            have : (Sha.sha x).length = 32 := Sha.Holds.sumText
            rw [List.headD_cons, List.length_cons, List.length_append, this, hlast.1]; omega⟩
        · exact e3 r (by rw [e1]; exact hr)
      · have hpl := path_len_r hm hp
        have hsp := last_split (hs := hs) (by omega)
        have hdl : hs.dropLast.length = hs.length - 1 := by simp
        have hlast : (hs.getLastD []).length = 32 ∧ Sha.Bytes (hs.getLastD []) := hok _ (by rw [hsp]; simp)
        obtain ⟨⟨x, xs, e1, e2⟩, e3, e4⟩ := ih (m - Tree.half m) (by omega) (p - Tree.half m) hs.dropLast (by omega) (fun h hm' => hok h (List.dropLast_subset _ hm'))
        rw [rows_right hm hp, e1]
        have hnode : Sha.sha (1 :: (hs.getLastD [] ++ Sha.sha x)) = ups (Tree.leaf s) (Tree.path 0 m p) hs := by
          have := ups_append ((Tree.path 0 (m - Tree.half m) (p - Tree.half m)).map (shift (Tree.half m))) hs.dropLast (Tree.leaf s) (0, Tree.half m, true) (hs.getLastD []) (by simp; omega)
          rw [← path_r (by omega) hp, ← hsp, ups_shift] at this
          rw [this, e2]; rfl
        refine ⟨⟨_, _, rfl, hnode⟩, fun r hr => ?_, by rw [← e1, List.length_cons, e4]; omega⟩
        rcases List.mem_cons.1 hr with rfl | hr
        · exact ⟨bytes_cons (by omega) (bytes_append hlast.2 (sha_bytes _)), by
            have : (Sha.sha x).length = 32 := Sha.Holds.sumText
            rw [List.headD_cons, List.length_cons, List.length_append, this, hlast.1]; omega⟩
        · exact e3 r (by rw [e1]; exact hr)
/-- Two ways that come to one sum, of leaves that aren't the same, meet in two rows of one sum. -/
theorem rows_clash (a b : List Nat) (hab : a ≠ b) : ∀ (m p : Nat) (hs gs : List (List Nat)), hs.length = (Tree.path 0 m p).length → gs.length = (Tree.path 0 m p).length → (∀ h ∈ hs, h.length = 32) → (∀ h ∈ gs, h.length = 32) →
    Sha.sha ((rowsL m p a hs).headD []) = Sha.sha ((rowsL m p b gs).headD []) → ∃ (i : Nat) (x y : List Nat), (rowsL m p a hs)[i]? = some x ∧ (rowsL m p b gs)[i]? = some y ∧ x ≠ y ∧ Sha.sha x = Sha.sha y := by
  intro m
  induction m using Nat.strongRecOn with
  | _ m ih =>
    intro p hs gs hl gl h32 g32 he
    by_cases hm : m < 2
    · rw [rows_small hm, rows_small hm] at he ⊢
      exact ⟨0, _, _, rfl, rfl, fun h => hab (List.cons.inj h).2, he⟩
    · have hh := Tree.half_lt (n := m) (by omega)
      have hp0 := Tree.half_pos m
      have sl : ∀ l, (Sha.sha l).length = 32 := fun l => Sha.Holds.sumText
      by_cases hp : p < Tree.half m
      · have hpl := path_len_l hm hp
        have hsp := last_split (hs := hs) (by omega)
        have gsp := last_split (hs := gs) (by omega)
        have hd1 : hs.dropLast.length = hs.length - 1 := by simp
        have hd2 : gs.dropLast.length = gs.length - 1 := by simp
        rw [rows_left hm hp, rows_left hm hp] at he ⊢
        simp only [List.headD_cons] at he
        by_cases hne : (1 :: (Sha.sha ((rowsL (Tree.half m) p a hs.dropLast).headD []) ++ hs.getLastD [])) = (1 :: (Sha.sha ((rowsL (Tree.half m) p b gs.dropLast).headD []) ++ gs.getLastD []))
        · have h2 := (List.append_inj (List.cons.inj hne).2 (by rw [sl, sl])).1
          obtain ⟨i, x, y, e1, e2, e3, e4⟩ := ih _ hh p hs.dropLast gs.dropLast (by omega) (by omega) (fun h hm' => h32 h (List.dropLast_subset _ hm')) (fun h hm' => g32 h (List.dropLast_subset _ hm')) h2
          exact ⟨i + 1, x, y, by simpa using e1, by simpa using e2, e3, e4⟩
        · exact ⟨0, _, _, rfl, rfl, hne, he⟩
      · have hpl := path_len_r hm hp
        have hsp := last_split (hs := hs) (by omega)
        have gsp := last_split (hs := gs) (by omega)
        have hd1 : hs.dropLast.length = hs.length - 1 := by simp
        have hd2 : gs.dropLast.length = gs.length - 1 := by simp
        have l1 : (hs.getLastD []).length = 32 := h32 _ (by rw [hsp]; simp)
        have l2 : (gs.getLastD []).length = 32 := g32 _ (by rw [gsp]; simp)
        rw [rows_right hm hp, rows_right hm hp] at he ⊢
        simp only [List.headD_cons] at he
        by_cases hne : (1 :: (hs.getLastD [] ++ Sha.sha ((rowsL (m - Tree.half m) (p - Tree.half m) a hs.dropLast).headD []))) = (1 :: (gs.getLastD [] ++ Sha.sha ((rowsL (m - Tree.half m) (p - Tree.half m) b gs.dropLast).headD [])))
        · have h2 := (List.append_inj (List.cons.inj hne).2 (by rw [l1, l2])).2
          obtain ⟨i, x, y, e1, e2, e3, e4⟩ := ih (m - Tree.half m) (by omega) (p - Tree.half m) hs.dropLast gs.dropLast (by omega) (by omega) (fun h hm' => h32 h (List.dropLast_subset _ hm')) (fun h hm' => g32 h (List.dropLast_subset _ hm')) h2
          exact ⟨i + 1, x, y, by simpa using e1, by simpa using e2, e3, e4⟩
        · exact ⟨0, _, _, rfl, rfl, hne, he⟩
/-- A row of strings that the call made, as a slice of them. -/
def SR (rs : List (List Nat)) : List Value := rs.map (fun r => Value.string (S r))
theorem SR_cons (r : List Nat) (rs : List (List Nat)) : SR (r :: rs) = [.string (S r)] ++ SR rs := rfl
theorem SR_one (rs : List (List Nat)) : ∀ u ∈ SR rs, u.oneCell' = true := by
  intro u hu
  obtain ⟨r, _, rfl⟩ := List.mem_map.1 hu
  rfl
set_option maxHeartbeats 1000000 in
theorem rows_any (s : ByteArray) (hsz : s.size ≤ 900) : ∀ (m p : Nat) (pv : Value) (hs : List (List Nat)) (w : World), p < m → m ≤ 1073741824 → Hashes w pv hs → hs.length = (Tree.path 0 m p).length →
    Calls Tryd.prog 43 #[.int .i64 (m : Int), .int .i64 (p : Int), .string s, pv] w fun e w' => ∃ v, e = .returned v ∧ w'.ownsRow w.heap.size 9 1 v (rowsL m p (bl s) hs).length (SR (rowsL m p (bl s) hs)) ∧ Below w.heap.size w w' := by
  intro m
  induction m using Nat.strongRecOn with
  | _ m ih =>
    intro p pv hs w hpm hm30 hH hl
    obtain ⟨A, c, rfl, hc1, hc2, hok, hA⟩ := id hH
    have hl30 : (Tree.path 0 m p).length ≤ 30 := path_len 30 m 0 p (by omega)
    obtain ⟨i9, hi9, hz9, hzs9, hzb9⟩ := info_parts infStr
    refine calls_qx (args := [.int .i64 (m : Int), .int .i64 (p : Int), .string s, .slice A hs.length c]) 82 Tryd.func43 rfl (by kernel_rfl) (by simp) (fun a hS => ?_)
    refine qx_seq (reg_seq ?_)
    refine seq_is hS (by decide) (runs_assign rfl) (fun a1 hS => ?_)
    refine nil_ok (qx_seq (qx_seq (reg_seq ?_)))
    refine seq_is hS (by decide) (runs_move rfl) (fun a1 hS => ?_)
    by_cases hm1 : m = 1
    · subst hm1
      rw [rows_small (by omega)]
      refine seq_is hS (by decide) (runs_eql (r := true) rfl rfl rfl) (fun a1 hS => ?_)
      obtain ⟨z, hz⟩ : ∃ z : ByteArray, ⟨#[0]⟩ ++ s = z := ⟨_, rfl⟩
      have hzS : S (0 :: bl s) = z := by rw [← S_bl z, ← hz, bl_append, bl0]; rfl
      refine nil_ok (wp_cond_true (hS.eval rfl) (qx_seq (reg_seq ?_)))
      refine seq_is hS (by decide) (runs_move rfl) (fun a1 hS => ?_)
      refine seq_is hS (by decide) (runs_cat rfl rfl hz (by rw [one0]; omega)) (fun a1 hS => ?_)
      refine seq_op hS (by decide) (runs_buildSlice (pv := [(0, .string z)]) rfl undStrs hi9 hz9 hzs9 (by omega) (by omega) (cells := #[.string z]) (by kernel_rfl)) (fun v1 w1 a1 hp1 hS => ?_)
      obtain ⟨rfl, rfl⟩ := hp1
      refine seq_is hS (by decide) (runs_assign rfl) (fun a1 hS => ?_)
      refine nil_ok (qx_ret (ret1 (t := 8) (by kernel_rfl) hS rfl ⟨_, rfl, ?_, (Below.refl _ _).alloc (Nat.le_refl _) _⟩))
      have := World.ownsRow_lit (e := 9) (size := 1) (base := w.heap.size) w #[.string z] 1 (Nat.le_refl _) (by unfold maxLen; omega) (by simp)
      simpa [SR, hzS] using this
    have hm2 : ¬ m < 2 := by omega
    refine seq_is hS (by decide) (runs_eql (r := false) rfl rfl (by rw [beq_eq_false_iff_ne]; omega)) (fun a1 hS => ?_)
    refine nil_ok (wp_cond_false (hS.eval rfl) (wp_skip ?_))
    have hpos : 0 < hs.length := by have := path_one (n := m) (at_ := p) (by omega); omega
    refine qx_seq (qx_seq (reg_seq ?_))
    refine seq_is hS (by decide) (runs_move rfl) (fun a1 hS => ?_)
    refine seq_is hS (by decide) (runs_len rfl undHashes) (fun a1 hS => ?_)
    refine seq_is hS (by decide) (runs_eql (r := false) rfl rfl (by rw [beq_eq_false_iff_ne]; omega)) (fun a1 hS => ?_)
    refine nil_ok (wp_cond_false (hS.eval rfl) (wp_skip ?_))
    have hhl := Tree.half_lt (n := m) (by omega)
    have hhp := Tree.half_pos m
    have hhalf := refHalf_any m w (by omega) (by omega)
    have hrl := fun hp => rows_left (m := m) (p := p) (s := bl s) (hs := hs) hm2 hp
    have hrr := fun hp => rows_right (m := m) (p := p) (s := bl s) (hs := hs) hm2 hp
    have hpl := fun hp => path_len_l (m := m) (p := p) hm2 hp
    have hpr := fun hp => path_len_r (m := m) (p := p) hm2 hp
    obtain ⟨k, hk⟩ : ∃ k, k = Tree.half m := ⟨_, rfl⟩
    rw [← hk] at hhalf hhl hhp hrl hrr hpl hpr
    obtain ⟨b, o, rfl, hb, hra⟩ := hA hpos
    have hlast : hs.getD (hs.length - 1) [] = hs.getLastD [] := by
      rw [List.getLastD_eq_getLast?, List.getLast?_eq_getElem?, List.getD_eq_getElem?_getD]
    have hxr := hash_mid hra hok (hs.length - 1) (by omega)
    rw [hlast] at hxr
    have hspl := last_split hpos
    obtain ⟨hxl, hxb⟩ := hok (hs.getLastD []) (by rw [hspl]; simp)
    have hdl : hs.dropLast.length = hs.length - 1 := by simp
    have hdok : ∀ h ∈ hs.dropLast, h.length = 32 ∧ Sha.Bytes h := fun h hm' => hok h (List.dropLast_subset _ hm')
    have hHd : Hashes w (.slice (some ⟨b, o, none⟩) (hs.length - 1) c) hs.dropLast := by
      have := hashes_take hH hb hra (hs.length - 1) (by omega)
      rwa [← List.dropLast_eq_take] at this
    obtain ⟨x, hx⟩ : ∃ x, x = hs.getLastD [] := ⟨_, rfl⟩
    obtain ⟨ds, hds⟩ : ∃ x, x = hs.dropLast := ⟨_, rfl⟩
    rw [← hx] at hxr hxl hxb hrl hrr
    rw [← hds] at hHd hdl hdok hrl hrr
    refine qx_seq (reg_seq ?_)
    refine seq_is hS (by decide) (runs_move rfl) (fun a1 hS => ?_)
    refine seq_is hS (by decide) (runs_call (args := [.int .i64 (m : Int)]) goes75 rfl hhalf) (fun a1 hS => ?_)
    refine seq_is hS (by decide) (runs_assign rfl) (fun a1 hS => ?_)
    refine nil_ok (qx_seq (reg_seq ?_))
    refine seq_is hS (by decide) (runs_move rfl) (fun a1 hS => ?_)
    refine seq_is hS (by decide) (runs_move rfl) (fun a1 hS => ?_)
    refine seq_is hS (by decide) (runs_len rfl undHashes) (fun a1 hS => ?_)
    refine seq_is hS (by decide) (runs_sub rfl rfl ((IntWalk.i64_in _ (by omega)).trans (show _ = ((hs.length - 1 : Nat) : Int) by omega))) (fun a1 hS => ?_)
    refine seq_is hS (by decide) (runs_indexAddrN (j := hs.length - 1) rfl rfl undHashes infHash rfl (by omega)) (fun a1 hS => ?_)
    refine seq_is hS (by decide) (runs_loadMid rfl hxr undHash rfl (by rw [infHash, U8_length, hxl])) (fun a1 hS => ?_)
    refine seq_op hS (by decide) (alloc_hash) (fun v1 w1 a1 hp1 hS => ?_)
    obtain ⟨rfl, rfl⟩ := hp1
    have hT1 := Has.new w 26 (U8 (List.replicate 32 0))
    have hB1 : Below w.heap.size w (w.alloc (.cells (U8 (List.replicate 32 0)).toArray 26)) := (Below.refl _ _).alloc (Nat.le_refl _) _
    generalize w.alloc (.cells (U8 (List.replicate 32 0)).toArray 26) = w1 at *
    refine seq_none hS (runs_storeRow rfl rfl hT1 (by simp [hxl]) (agg_all _) (by rw [infHash]; simp [hxl])) (fun v2 w2 a2 hp2 hS => ?_)
    obtain ⟨rfl, rfl⟩ := hp2
    have hT2 := has_setRow (cs := U8 x) hT1
    have hB2 : Below w.heap.size w (w1.setRow w.heap.size (U8 x).toArray) := below_row hB1 (Nat.le_refl _) _
    generalize w1.setRow w.heap.size (U8 x).toArray = w2 at *
    refine nil_ok (qx_seq (qx_seq (reg_seq ?_)))
    refine seq_is hS (by decide) (runs_move rfl) (fun a1 hS => ?_)
    refine seq_is hS (by decide) (runs_move rfl) (fun a1 hS => ?_)
    by_cases hp : p < k
    · refine seq_is hS (by decide) (runs_lss (r := true) rfl rfl (by rw [decide_eq_true_eq]; omega)) (fun a1 hS => ?_)
      have hple := hpl hp
      have hre := hrl hp
      have hf := rows_facts (bl s) (bl_bytes s) (by rw [bl_length]; exact hsz) k p ds (by omega) hdok
      obtain ⟨⟨r0, rs, he, _⟩, hrb, hrn⟩ := hf
      have hih := ih k (by omega) p _ ds w2 (by omega) (by omega) (hHd.kept hB2) (by omega)
      rw [he] at hre hrb hrn hih
      rw [List.headD_cons] at hre
      rw [hre]
      refine nil_ok (wp_cond_true (hS.eval rfl) (qx_seq (reg_seq ?_)))
      refine seq_is hS (by decide) (runs_move rfl) (fun a1 hS => ?_)
      refine seq_is hS (by decide) (runs_move rfl) (fun a1 hS => ?_)
      refine seq_is hS (by decide) (runs_move rfl) (fun a1 hS => ?_)
      refine seq_is hS (by decide) (runs_move rfl) (fun a1 hS => ?_)
      refine seq_is hS (by decide) (runs_move rfl) (fun a1 hS => ?_)
      refine seq_is hS (by decide) (runs_len rfl undHashes) (fun a1 hS => ?_)
      refine seq_is hS (by decide) (runs_sub rfl rfl ((IntWalk.i64_in _ (by omega)).trans (show _ = ((hs.length - 1 : Nat) : Int) by omega))) (fun a1 hS => ?_)
      refine seq_is hS (by decide) (runs_sliceToG rfl rfl rfl undHashes rfl (by omega)) (fun a1 hS => ?_)
      refine seq_op hS (by decide) (runs_call (args := [.int .i64 (k : Int), .int .i64 (p : Int), .string s, .slice (some ⟨b, o, none⟩) (hs.length - 1) c]) goes43 rfl hih) (fun v3 w3 a3 hp3 hS => ?_)
      obtain ⟨ho3, hB3⟩ := hp3
      have hsh : ∃ g c', v3 = .slice (some ⟨g, 0, none⟩) (rs.length + 1) c' := by
        rcases ho3.2 with ⟨_, h0⟩ | ⟨g, cap, _, rfl, _⟩
        · simp at h0
        · exact ⟨_, _, rfl⟩
      obtain ⟨g3, c3, rfl⟩ := hsh
      have hg3 := ho3.lt g3 rfl
      have hB23 : Below w.heap.size w w3 := hB2.trans (hB3.mono hB2.size)
      have hT3 := hT2.below hB3 hT2.lt
      have hc0 := ho3.cells (g := g3) rfl 0 _ rfl
      obtain ⟨hr0b, hr0l⟩ := hrb r0 (by simp)
      rw [List.length_cons] at hrn
      refine seq_is hS (by decide) (runs_assign rfl) (fun a1 hS => ?_)
      refine nil_ok (qx_seq (qx_seq (reg_seq ?_)))
      refine seq_is hS (by decide) (runs_move rfl) (fun a1 hS => ?_)
      refine seq_is hS (by decide) (runs_len rfl undStrs) (fun a1 hS => ?_)
      refine seq_is hS (by decide) (runs_eql (r := false) rfl rfl (by rw [beq_eq_false_iff_ne]; omega)) (fun a1 hS => ?_)
      refine nil_ok (wp_cond_false (hS.eval rfl) (wp_skip ?_))
      have hsr0 : (S r0).size ≤ 1000 := by rw [S_size]; omega
      have hof := fun w' => refof_any (S r0) w' hsr0
      rw [bl_S hr0b] at hof
      have hy32 : (Sha.sha r0).length = 32 := Sha.Holds.sumText
      have hyb := sha_bytes r0
      obtain ⟨y, hy⟩ : ∃ y, y = Sha.sha r0 := ⟨_, rfl⟩
      rw [← hy] at hof hy32 hyb
      rw [← hy]
      obtain ⟨z, hz⟩ : ∃ z : ByteArray, ⟨#[1]⟩ ++ S y = z := ⟨_, rfl⟩
      obtain ⟨u, hu⟩ : ∃ u : ByteArray, z ++ S x = u := ⟨_, rfl⟩
      have hsx : (S x).size = 32 := by rw [S_size, hxl]
      have hsy : (S y).size = 32 := by rw [S_size, hy32]
      have hzz : z.size = 33 := by rw [← hz, ByteArray.size_append, one1]; omega
      have huS : S (1 :: (y ++ x)) = u := by rw [← S_bl u, ← hu, ← hz, bl_append, bl_append, bl1, bl_S hyb, bl_S hxb]; rfl
      rw [SR_cons, huS]
      refine qx_seq ?_
      have hS := hS.only [(11, .slice (some ⟨g3, 0, none⟩) (rs.length + 1) c3), (10, .pointer (some ⟨w.heap.size, 0, none⟩))] ⟨rfl, rfl, trivial⟩
      refine reg_guard (fun w' => Below w3.heap.size w3 w') [.inl (.slice (some ⟨g3, 0, none⟩) (rs.length + 1) c3), .inl (.pointer (some ⟨g3, 0 + 0, none⟩)), .inl (.string (S r0)), .inl (.string (S y)), .inl (.string z), .inl (.slice (some ⟨w.heap.size, 0, none⟩) 32 32), .inl (.string (S x)), .inl (.string u), .inr (fun v w' => (∃ g, v = .slice (some ⟨g, 0, none⟩) 1 1) ∧ w'.ownsRow w.heap.size 9 1 v 1 [.string u]), .inl (.slice (some ⟨g3, 0, none⟩) (rs.length + 1) c3)] 10 2 mixed rfl (by kernel_rfl) hS (Below.refl _ _) (fun _ h => h.drew) ?_
      refine hs_is rfl (fun w' hw => runs_move rfl) ?_
      refine hs_is rfl (fun w' hw => runs_indexAddr (j := 0) rfl rfl undStrs infStr1 rfl (by omega)) ?_
      refine hs_is rfl (fun w' hw => runs_load rfl (by kernel_rfl) (by rw [hw.cell (p := ⟨g3, 0 + 0, none⟩) hg3.2]; exact hc0)) ?_
      refine hs_val rfl (fun w' hw hq => runs_call (args := [.string (S r0)]) goes45 rfl (str_post _ (hof w') (fun _ h => ⟨hw.trans (h.mono hw.size), h⟩))) ?_
      refine hs_is rfl (fun w' hw => runs_cat rfl rfl hz (by rw [one1]; omega)) ?_
      refine hs_is rfl (fun w' hw => runs_sliceArr rfl undHash infByte1) ?_
      refine hs_is rfl (fun w' hw => runs_conv rfl (conv_range (hT3.below hw hT3.lt).all 32 32 hxl)) ?_
      refine hs_is rfl (fun w' hw => runs_cat rfl rfl hu (by omega)) ?_
      refine hs_pr rfl (fun _ _ _ h hb => ⟨h.1, owns_kept h.2 hb⟩) (fun w' hw hq => (runs_buildSlice (pv := [(0, .string u)]) rfl undStrs hi9 hz9 hzs9 (by omega) (by omega) (cells := #[.string u]) (by kernel_rfl)).mono (by rintro v w2 ⟨rfl, rfl⟩; exact ⟨⟨⟨_, rfl⟩, by have := World.ownsRow_lit (e := 9) (size := 1) (base := w.heap.size) w' #[.string u] 1 (Nat.le_trans hB23.size hw.size) (by unfold maxLen; omega) (by simp); simpa using this⟩, hw.alloc hw.size _, (Below.refl _ _).alloc (Nat.le_refl _) _⟩)) (fun v9 => ?_)
      refine hs_is rfl (fun w' hw => runs_move rfl) ?_
      refine (fun a5 w5 hS5 hB5 hps => ?_)
      obtain ⟨⟨g5, rfl⟩, hO5⟩ := hps _ List.mem_cons_self
      have hB25 : Below w.heap.size w w5 := hB23.trans (hB5.mono hB23.size)
      have ho5 := owns_kept ho3 hB5
      refine tail_op 10 (by kernel_rfl) rfl hS5 (by decide) (runs_append undStrs hi9 hz9 hzs9 hzb9 rfl rfl hO5 rfl (by rw [SR, List.length_map, List.length_cons]) (news := SR (r0 :: rs)) (fun j u hj => ho5.cells (g := g3) rfl j u hj) (SR_one _) (by unfold maxLen; omega) (by omega) hB25.size (by omega)) (fun v6 w6 a6 hp6 hS6 => ⟨trivial, ?_⟩)
      obtain ⟨hown6, hgr6, _⟩ := hp6
      refine tail_op 11 (by kernel_rfl) rfl hS6 (by decide) (runs_assign rfl) (fun v7 w7 a7 hp7 hS7 => ⟨trivial, ?_⟩)
      obtain ⟨rfl, rfl⟩ := hp7
      refine wpAnyH_done (by kernel_rfl) ?_ _
      refine qx_ret (ret1 (t := 8) (by kernel_rfl) hS7 rfl ⟨_, rfl, ?_, below_grown hB25 hgr6 (fun g hg => (hO5.lt g hg).1) hB25.size⟩)
      rw [List.length_cons, show (r0 :: rs).length + 1 = 1 + (rs.length + 1) by simp; omega]
      exact hown6
    · refine seq_is hS (by decide) (runs_lss (r := false) rfl rfl (by rw [decide_eq_false_iff_not]; omega)) (fun a1 hS => ?_)
      have hple := hpr hp
      have hre := hrr hp
      have hf := rows_facts (bl s) (bl_bytes s) (by rw [bl_length]; exact hsz) (m - k) (p - k) ds (by omega) hdok
      obtain ⟨⟨r0, rs, he, _⟩, hrb, hrn⟩ := hf
      have hih := ih (m - k) (by omega) (p - k) _ ds w2 (by omega) (by omega) (hHd.kept hB2) (by omega)
      rw [he] at hre hrb hrn hih
      rw [List.headD_cons] at hre
      rw [hre]
      refine nil_ok (wp_cond_false (hS.eval rfl) (wp_skip (qx_seq (reg_seq ?_))))
      refine seq_is hS (by decide) (runs_move rfl) (fun a1 hS => ?_)
      refine seq_is hS (by decide) (runs_move rfl) (fun a1 hS => ?_)
      refine seq_is hS (by decide) (runs_sub rfl rfl ((IntWalk.i64_in _ (by omega)).trans (show _ = ((m - k : Nat) : Int) by omega))) (fun a1 hS => ?_)
      refine seq_is hS (by decide) (runs_move rfl) (fun a1 hS => ?_)
      refine seq_is hS (by decide) (runs_move rfl) (fun a1 hS => ?_)
      refine seq_is hS (by decide) (runs_sub rfl rfl ((IntWalk.i64_in _ (by omega)).trans (show _ = ((p - k : Nat) : Int) by omega))) (fun a1 hS => ?_)
      refine seq_is hS (by decide) (runs_move rfl) (fun a1 hS => ?_)
      refine seq_is hS (by decide) (runs_move rfl) (fun a1 hS => ?_)
      refine seq_is hS (by decide) (runs_move rfl) (fun a1 hS => ?_)
      refine seq_is hS (by decide) (runs_len rfl undHashes) (fun a1 hS => ?_)
      refine seq_is hS (by decide) (runs_sub rfl rfl ((IntWalk.i64_in _ (by omega)).trans (show _ = ((hs.length - 1 : Nat) : Int) by omega))) (fun a1 hS => ?_)
      refine seq_is hS (by decide) (runs_sliceToG rfl rfl rfl undHashes rfl (by omega)) (fun a1 hS => ?_)
      refine seq_op hS (by decide) (runs_call (args := [.int .i64 ((m - k : Nat) : Int), .int .i64 ((p - k : Nat) : Int), .string s, .slice (some ⟨b, o, none⟩) (hs.length - 1) c]) goes43 rfl hih) (fun v3 w3 a3 hp3 hS => ?_)
      obtain ⟨ho3, hB3⟩ := hp3
      have hsh : ∃ g c', v3 = .slice (some ⟨g, 0, none⟩) (rs.length + 1) c' := by
        rcases ho3.2 with ⟨_, h0⟩ | ⟨g, cap, _, rfl, _⟩
        · simp at h0
        · exact ⟨_, _, rfl⟩
      obtain ⟨g3, c3, rfl⟩ := hsh
      have hg3 := ho3.lt g3 rfl
      have hB23 : Below w.heap.size w w3 := hB2.trans (hB3.mono hB2.size)
      have hT3 := hT2.below hB3 hT2.lt
      have hc0 := ho3.cells (g := g3) rfl 0 _ rfl
      obtain ⟨hr0b, hr0l⟩ := hrb r0 (by simp)
      rw [List.length_cons] at hrn
      refine seq_is hS (by decide) (runs_assign rfl) (fun a1 hS => ?_)
      refine nil_ok (qx_seq (qx_seq (reg_seq ?_)))
      refine seq_is hS (by decide) (runs_move rfl) (fun a1 hS => ?_)
      refine seq_is hS (by decide) (runs_len rfl undStrs) (fun a1 hS => ?_)
      refine seq_is hS (by decide) (runs_eql (r := false) rfl rfl (by rw [beq_eq_false_iff_ne]; omega)) (fun a1 hS => ?_)
      refine nil_ok (wp_cond_false (hS.eval rfl) (wp_skip ?_))
      have hsr0 : (S r0).size ≤ 1000 := by rw [S_size]; omega
      have hof := fun w' => refof_any (S r0) w' hsr0
      rw [bl_S hr0b] at hof
      have hy32 : (Sha.sha r0).length = 32 := Sha.Holds.sumText
      have hyb := sha_bytes r0
      obtain ⟨y, hy⟩ : ∃ y, y = Sha.sha r0 := ⟨_, rfl⟩
      rw [← hy] at hof hy32 hyb
      rw [← hy]
      obtain ⟨z, hz⟩ : ∃ z : ByteArray, ⟨#[1]⟩ ++ S x = z := ⟨_, rfl⟩
      obtain ⟨u, hu⟩ : ∃ u : ByteArray, z ++ S y = u := ⟨_, rfl⟩
      have hsx : (S x).size = 32 := by rw [S_size, hxl]
      have hsy : (S y).size = 32 := by rw [S_size, hy32]
      have hzz : z.size = 33 := by rw [← hz, ByteArray.size_append, one1]; omega
      have huS : S (1 :: (x ++ y)) = u := by rw [← S_bl u, ← hu, ← hz, bl_append, bl_append, bl1, bl_S hyb, bl_S hxb]; rfl
      rw [SR_cons, huS]
      refine qx_seq ?_
      have hS := hS.only [(12, .slice (some ⟨g3, 0, none⟩) (rs.length + 1) c3), (10, .pointer (some ⟨w.heap.size, 0, none⟩))] ⟨rfl, rfl, trivial⟩
      refine reg_guard (fun w' => Below w3.heap.size w3 w') [.inl (.slice (some ⟨w.heap.size, 0, none⟩) 32 32), .inl (.string (S x)), .inl (.string z), .inl (.slice (some ⟨g3, 0, none⟩) (rs.length + 1) c3), .inl (.pointer (some ⟨g3, 0 + 0, none⟩)), .inl (.string (S r0)), .inl (.string (S y)), .inl (.string u), .inr (fun v w' => (∃ g, v = .slice (some ⟨g, 0, none⟩) 1 1) ∧ w'.ownsRow w.heap.size 9 1 v 1 [.string u]), .inl (.slice (some ⟨g3, 0, none⟩) (rs.length + 1) c3)] 10 2 mixed rfl (by kernel_rfl) hS (Below.refl _ _) (fun _ h => h.drew) ?_
      refine hs_is rfl (fun w' hw => runs_sliceArr rfl undHash infByte1) ?_
      refine hs_is rfl (fun w' hw => runs_conv rfl (conv_range (hT3.below hw hT3.lt).all 32 32 hxl)) ?_
      refine hs_is rfl (fun w' hw => runs_cat rfl rfl hz (by rw [one1]; omega)) ?_
      refine hs_is rfl (fun w' hw => runs_move rfl) ?_
      refine hs_is rfl (fun w' hw => runs_indexAddr (j := 0) rfl rfl undStrs infStr1 rfl (by omega)) ?_
      refine hs_is rfl (fun w' hw => runs_load rfl (by kernel_rfl) (by rw [hw.cell (p := ⟨g3, 0 + 0, none⟩) hg3.2]; exact hc0)) ?_
      refine hs_val rfl (fun w' hw hq => runs_call (args := [.string (S r0)]) goes45 rfl (str_post _ (hof w') (fun _ h => ⟨hw.trans (h.mono hw.size), h⟩))) ?_
      refine hs_is rfl (fun w' hw => runs_cat rfl rfl hu (by omega)) ?_
      refine hs_pr rfl (fun _ _ _ h hb => ⟨h.1, owns_kept h.2 hb⟩) (fun w' hw hq => (runs_buildSlice (pv := [(0, .string u)]) rfl undStrs hi9 hz9 hzs9 (by omega) (by omega) (cells := #[.string u]) (by kernel_rfl)).mono (by rintro v w2 ⟨rfl, rfl⟩; exact ⟨⟨⟨_, rfl⟩, by have := World.ownsRow_lit (e := 9) (size := 1) (base := w.heap.size) w' #[.string u] 1 (Nat.le_trans hB23.size hw.size) (by unfold maxLen; omega) (by simp); simpa using this⟩, hw.alloc hw.size _, (Below.refl _ _).alloc (Nat.le_refl _) _⟩)) (fun v9 => ?_)
      refine hs_is rfl (fun w' hw => runs_move rfl) ?_
      refine (fun a5 w5 hS5 hB5 hps => ?_)
      obtain ⟨⟨g5, rfl⟩, hO5⟩ := hps _ List.mem_cons_self
      have hB25 : Below w.heap.size w w5 := hB23.trans (hB5.mono hB23.size)
      have ho5 := owns_kept ho3 hB5
      refine tail_op 10 (by kernel_rfl) rfl hS5 (by decide) (runs_append undStrs hi9 hz9 hzs9 hzb9 rfl rfl hO5 rfl (by rw [SR, List.length_map, List.length_cons]) (news := SR (r0 :: rs)) (fun j u hj => ho5.cells (g := g3) rfl j u hj) (SR_one _) (by unfold maxLen; omega) (by omega) hB25.size (by omega)) (fun v6 w6 a6 hp6 hS6 => ⟨trivial, ?_⟩)
      obtain ⟨hown6, hgr6, _⟩ := hp6
      refine tail_op 11 (by kernel_rfl) rfl hS6 (by decide) (runs_assign rfl) (fun v7 w7 a7 hp7 hS7 => ⟨trivial, ?_⟩)
      obtain ⟨rfl, rfl⟩ := hp7
      refine wpAnyH_done (by kernel_rfl) ?_ _
      refine qx_ret (ret1 (t := 8) (by kernel_rfl) hS7 rfl ⟨_, rfl, ?_, below_grown hB25 hgr6 (fun g hg => (hO5.lt g hg).1) hB25.size⟩)
      rw [List.length_cons, show (r0 :: rs).length + 1 = 1 + (rs.length + 1) by simp; omega]
      exact hown6
end Go.Proofs.YtdemoidmhmdgkaaDoor
