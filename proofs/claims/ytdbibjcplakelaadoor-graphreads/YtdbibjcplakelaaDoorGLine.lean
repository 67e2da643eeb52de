/- Layer 5: a line of a word and numbers. Conditions: none of our own. -/
import Derived.Test.YtdbibjcplakelaaDoorGNum
import Derived.Test.YtdbibjcplakelaaDoorShelf
namespace Go.Proofs.YtdbibjcplakelaaDoor
open Go.RowKit
set_option maxRecDepth 100000

theorem goes57 : Goes Tryd.prog 57 := goes_of Tryd.func57 (by kernel_rfl) rfl
theorem goes74 : Goes Tryd.prog 74 := goes_of Tryd.func74 (by kernel_rfl) rfl
/-- What the walks ask of the library's own variables: the length from which the library looks otherwise, and the powers of ten. -/
def Kept (w : World) : Prop := (∃ m : Int, w.cell? ⟨1, 0, none⟩ = some (.int .i64 m)) ∧ Lib.TabIs Tryd.prog w "internal/strconv.uint64pow10" .u64 Lib.pow10Tab
def ints (ls : List Nat) : List Value := ls.map fun x : Nat => Value.int .i64 (x : Int)
theorem mapM_snoc (l : List Bs) (p : Bs) : (l ++ [p]).mapM num = (l.mapM num).bind fun a => (num p).map fun b => a ++ [b] := by
  rw [List.mapM_append]
  cases l.mapM num with
  | none => rfl
  | some a =>
    rw [List.mapM_cons]
    cases num p <;> rfl
theorem take_map_snoc {bs : List ByteArray} {i : Nat} {b : ByteArray} (h : bs[i]? = some b) : (bs.take (i + 1)).map (·.data.toList) = (bs.take i).map (·.data.toList) ++ [b.data.toList] := by
  rw [List.take_add_one, h]; simp
theorem parts_yes {word : Bs} {m : Nat} {b0 : Bs} {ps : List Bs} (hw : b0 = word) (hl : ps.length = m) : partsOf word m (b0 :: ps) = ps.mapM num := by
  simp [partsOf, hw, hl]
theorem parts_no {word : Bs} {m : Nat} {ps : List Bs} (h : ps.length ≠ 1 + m ∨ ps.head? ≠ some word) : partsOf word m ps = none := by
  cases ps with
  | nil => rfl
  | cons b0 ps =>
    simp only [partsOf]
    rw [if_neg]
    rintro ⟨h1, h2⟩
    rcases h with h | h
    · exact h (by simp [h2]; omega)
    · exact h (by simp [h1])
def LineGot (B : Nat) (w : World) (u : Value) (ok : Bool) : Option (List Nat) → Prop
  | some ls => ok = true ∧ ∃ g c, u = .slice (some ⟨g, 0, none⟩) ls.length c ∧ B ≤ g ∧ g < w.heap.size ∧ w.rangeAt g 0 (ints ls)
  | none => ok = false
set_option maxHeartbeats 1000000 in
theorem line_any (line word : ByteArray) (m : Nat) (hm : 0 < m) (hm9 : m ≤ 100) (hsz : line.size < 4294967281) (w : World) (hk : Kept w) : Ans 57 [.string line, .string word, .int .i64 (m : Int)] w (fun v w' => Below w.heap.size w w' ∧ ∃ u ok, v = .tuple #[u, .bool ok] ∧ LineGot w.heap.size w' u ok (lineOf word.data.toList m line.data.toList)) := by
  obtain ⟨mx, hmx⟩ := hk.1
  have hpl := parts_line word.data.toList m hm line.data.toList
  rw [size_list] at hpl
  have hsd := Lib.splitB_data ⟨#[32]⟩ 0 (min (1 + m) (line.size + 1) - 1) line
  rw [show (ByteArray.mk #[32]).data.toList = [32] from rfl] at hsd
  rw [← hsd] at hpl
  obtain ⟨i3, hi3, hz3, hs3, hb3⟩ := info_parts inf3
  refine calls_qx (args := [.string line, .string word, .int .i64 (m : Int)]) 50 Tryd.func57 rfl (by kernel_rfl) (by simp) (fun a hS => ?_)
  refine qx_seq (reg_seq ?_)
  refine seq_is hS (by decide) (runs_assign rfl) (fun a1 hS => ?_)
  refine seq_is hS (by decide) (runs_assign rfl) (fun a1 hS => ?_)
  refine nil_ok (qx_seq (reg_seq ?_))
  refine seq_is hS (by decide) (runs_move rfl) (fun a1 hS => ?_)
  refine seq_is hS (by decide) (runs_move rfl) (fun a1 hS => ?_)
  refine seq_is hS (by decide) (runs_add (r := ((1 + m : Nat) : Int)) rfl rfl (by simp [IntKind.wrap, IntKind.bits, IntKind.signed]; omega)) (fun a1 hS => ?_)
  refine seq_op hS (by decide) (runs_call (args := [.string line, .string ⟨#[32]⟩, .int .i64 ((1 + m : Nat) : Int)]) (Post := fun v w' => v = .slice (some ⟨w.heap.size, 0, none⟩) (Lib.splitB ⟨#[32]⟩ 0 (min (1 + m) (line.size + 1) - 1) line).length (min (1 + m) (line.size + 1)) ∧ w' = w.alloc (.cells (Lib.cellsOf (Lib.splitB ⟨#[32]⟩ 0 (min (1 + m) (line.size + 1) - 1) line) (min (1 + m) (line.size + 1))) 9)) goes74 rfl ((strings_SplitN line ⟨#[32]⟩ (1 + m) mx w hsz hmx (by decide) (by omega) (by omega)).mono (by rintro e w' ⟨rfl, rfl⟩; exact ⟨_, rfl, rfl, rfl⟩))) (fun v1 w1 a1 hp1 hS => ?_)
  obtain ⟨rfl, hw1⟩ := hp1
  have hlen := Lib.splitB_length_le ⟨#[32]⟩ 0 (min (1 + m) (line.size + 1) - 1) line
  generalize Lib.splitB ⟨#[32]⟩ 0 (min (1 + m) (line.size + 1) - 1) line = bs at *
  generalize hcc : min (1 + m) (line.size + 1) = cc at *
  obtain ⟨hP, hB1⟩ : Has w1 w.heap.size 9 (bs.map Value.string ++ List.replicate (cc - bs.length) (.string ByteArray.empty)) ∧ Below w.heap.size w w1 := by rw [hw1]; exact new_box w 9 _
  clear hw1 hsd
  generalize hgp : w.heap.size = gp at *
  refine seq_is hS (by decide) (runs_assign rfl) (fun a1 hS => ?_)
  have hget : ∀ (i : Nat) b, bs[i]? = some b → w1.cell? ⟨gp, 0 + i, none⟩ = some (.string b) := fun i b hb => by
    rw [hP.cell, Nat.zero_add, List.getElem?_append_left (by have := (List.getElem?_eq_some_iff.1 hb).1; simpa using this), List.getElem?_map, hb]; rfl
  refine nil_ok (qx_seq (qx_seq (reg_seq ?_)))
  refine seq_is hS (by decide) (runs_move rfl) (fun a1 hS => ?_)
  refine seq_is hS (by decide) (runs_len rfl und58) (fun a1 hS => ?_)
  refine seq_is hS (by decide) (runs_move rfl) (fun a1 hS => ?_)
  refine seq_is hS (by decide) (runs_add (r := ((1 + m : Nat) : Int)) rfl rfl (by simp [IntKind.wrap, IntKind.bits, IntKind.signed]; omega)) (fun a1 hS => ?_)
  by_cases h1 : ((bs.length : Nat) : Int) = ((1 + m : Nat) : Int)
  · skip
    refine seq_is hS (by decide) (runs_neq (r := false) rfl rfl (by simp; omega)) (fun a1 hS => ?_)
    obtain ⟨b0, ps, rfl⟩ : ∃ b0 ps, bs = b0 :: ps := by
      cases bs with
      | nil => simp at h1; omega
      | cons b0 ps => exact ⟨b0, ps, rfl⟩
    have hm1 : ps.length = m := by simp only [List.length_cons] at h1; omega
    have hm2 : ((b0 :: ps).map (·.data.toList)) = b0.data.toList :: ps.map (·.data.toList) := rfl
    refine seq_is hS (by decide) (runs_move rfl) (fun a1 hS => ?_)
    refine seq_yis hS (by decide) rfl (by decide) rfl (runs_move rfl) (fun a1 hS => ?_)
    refine seq_yis hS (by decide) rfl (by decide) rfl (runs_indexAddr (j := 0) rfl rfl und58 siz9 rfl (by simp)) (fun a1 hS => ?_)
    refine seq_yis hS (by decide) rfl (by decide) rfl (runs_load rfl und_plain9 (hget 0 b0 rfl)) (fun a1 hS => ?_)
    refine seq_yis hS (by decide) rfl (by decide) rfl (runs_move rfl) (fun a1 hS => ?_)
    by_cases h2 : b0.data.toList = word.data.toList
    · skip
      refine seq_yis hS (by decide) rfl (by decide) rfl (runs_neStr (r := false) rfl rfl (by simp [h2])) (fun a1 hS => ?_)
      refine seq_is hS (by decide) (runs_pick rfl rfl) (fun a1 hS => ?_)
      rw [hm2, parts_yes h2 (by simpa using hm1)] at hpl
      refine nil_ok (wp_cond_false (hS.eval rfl) (wp_skip (qx_seq (reg_seq ?_))))
      refine seq_is hS (by decide) (runs_assign rfl) (fun a1 hS => ?_)
      have hcc1 : cc ≠ 1 := by have := hlen; simp only [List.length_cons] at this; omega
      have hcm : cc ≤ maxLen := by unfold maxLen; omega
      refine nil_ok (qx_seq (qx_seq (reg_seq ?_)))
      refine seq_is hS (by decide) (runs_move rfl) (fun a1 hS => ?_)
      refine seq_is hS (by decide) (runs_sliceTail (l := 1) rfl rfl rfl und58 siz9 (by simp) hcc1 (by simpa using hm1)) (fun a1 hS => ?_)
      refine seq_is hS (by decide) (runs_len rfl und58) (fun a1 hS => ?_)
      refine seq_is hS (by decide) (runs_move rfl) (fun a1 hS => ?_)
      refine nil_ok (qx_range (fun k a w' => ∃ (i : Nat) (ls : List Nat) (sv : Value), i ≤ m ∧ k = m - i ∧ Below w1.heap.size w1 w' ∧ ((ps.take i).map (·.data.toList)).mapM num = some ls ∧ w'.ownsRow w1.heap.size 3 1 sv i (ints ls) ∧ (0 < i → sv ≠ .slice none 0 0) ∧ Sees 50 [(33, .int .i64 (i : Int)), (32, .int .i64 (m : Int)), (31, .slice (some ⟨gp, 0 + 1 * 1, none⟩) m (cc - 1)), (9, sv)] a) m ⟨0, [], .slice none 0 0, by omega, by omega, Below.refl _ _, by simp, ⟨rfl, .inl ⟨rfl, rfl⟩⟩, fun h => by omega, hS.only _ ⟨rfl, rfl, rfl, rfl, trivial⟩⟩ ?_)
      rintro k a w' ⟨i, ls, sv, hi, rfl, hB, hms, hown, hsv, hS⟩
      refine reg_seq ?_
      by_cases hlt : i < m
      · skip
        obtain ⟨p, hp⟩ : ∃ p, ps[i]? = some p := ⟨_, List.getElem?_eq_getElem (by omega)⟩
        have hcp : w'.cell? ⟨gp, 0 + 1 * 1 + i, none⟩ = some (.string p) := by
          rw [hB.cell (p := ⟨gp, 0 + 1 * 1 + i, none⟩) hP.lt, show 0 + 1 * 1 + i = 0 + (i + 1) by omega]
          exact hget (i + 1) p (by simpa using hp)
        refine seq_is hS (by decide) (runs_lss (r := true) rfl rfl (by rw [decide_eq_true_eq]; omega)) (fun a1 hS => ?_)
        refine nil_ok ⟨_, hS.eval rfl, fun h => by simp at h, fun _ => ?_⟩
        refine qx_seq (qx_block (qx_seq (reg_seq ?_)))
        refine seq_is hS (by decide) (runs_indexAddr (j := i) rfl rfl und58 siz9 rfl hlt) (fun a1 hS => ?_)
        refine seq_is hS (by decide) (runs_load rfl und_plain9 hcp) (fun a1 hS => ?_)
        refine seq_is hS (by decide) (runs_assign rfl) (fun a1 hS => ?_)
        refine nil_ok (qx_seq (reg_seq ?_))
        refine seq_is hS (by decide) (runs_move rfl) (fun a1 hS => ?_)
        refine seq_op hS (by decide) (runs_call (args := [.string p]) goes75 rfl (number_any p w')) (fun v2 w2 a2 hp2 hS => ?_)
        obtain ⟨rfl, rfl⟩ := hp2
        refine seq_is hS (by decide) (runs_move rfl) (fun a1 hS => ?_)
        refine seq_is hS (by decide) (runs_extract rfl rfl) (fun a1 hS => ?_)
        refine seq_is hS (by decide) (runs_extract rfl rfl) (fun a1 hS => ?_)
        refine seq_is hS (by decide) (runs_assign rfl) (fun a1 hS => ?_)
        refine seq_is hS (by decide) (runs_assign rfl) (fun a1 hS => ?_)
        refine nil_ok (qx_seq (qx_seq (reg_seq ?_)))
        cases hn : num p.data.toList with
        | none =>
          rw [hn] at hS
          refine seq_is hS (by decide) (runs_move rfl) (fun a1 hS => ?_)
          refine seq_is hS (by decide) (runs_not (b := false) rfl) (fun a1 hS => ?_)
          refine nil_ok (wp_cond_true (hS.eval rfl) (qx_seq (reg_seq ?_)))
          refine seq_is hS (by decide) (runs_assign rfl) (fun a1 hS => ?_)
          refine seq_is hS (by decide) (runs_assign rfl) (fun a1 hS => ?_)
          exact nil_ok (qx_ret (ret2 (t := 6) (u := 7) (by kernel_rfl) hS rfl rfl ⟨_, rfl, hB1.trans (hB.mono (by have := hB1.size; omega)), _, _, rfl, by rw [← hpl, mapM_none (List.mem_map.2 ⟨p, List.mem_of_getElem? hp, rfl⟩) hn]; rfl⟩))
        | some x =>
          rw [hn] at hS
          simp only [Option.getD_some, Option.isSome_some] at hS
          refine seq_is hS (by decide) (runs_move rfl) (fun a1 hS => ?_)
          refine seq_is hS (by decide) (runs_not (b := true) rfl) (fun a1 hS => ?_)
          refine nil_ok (wp_cond_false (hS.eval rfl) (wp_skip (reg_seq ?_)))
          refine seq_is hS (by decide) (runs_move rfl) (fun a1 hS => ?_)
          refine seq_is hS (by decide) (runs_move rfl) (fun a1 hS => ?_)
          refine seq_op hS (by decide) (runs_buildSlice (pv := [(0, .int .i64 (x : Int))]) rfl und60 hi3 hz3 hs3 (by omega) (by omega) (cells := #[.int .i64 (x : Int)]) (by kernel_rfl)) (fun v3 w3 a3 hp3 hS => ?_)
          obtain ⟨rfl, hw3⟩ := hp3
          obtain ⟨hX, hB3⟩ : Has w3 w2.heap.size 3 [.int .i64 (x : Int)] ∧ Below w2.heap.size w2 w3 := by rw [hw3]; exact new_box w2 3 _
          clear hw3
          have hown := owns_kept hown hB3
          have hB := hB.trans (hB3.mono hB.size)
          generalize w2.heap.size = gx at *
          refine seq_op hS (by decide) (runs_append (news := [.int .i64 (x : Int)]) und60 hi3 hz3 hs3 hb3 rfl rfl hown rfl rfl (fun j u hj => by rw [add_zero_addr, Nat.zero_add, hX.cell]; exact hj) (by simp [Value.oneCell']) (by unfold maxLen; omega) (by omega) hB.size (by omega)) (fun v4 w4 a4 hp4 hS => ?_)
          obtain ⟨hown4, hgr4, hne4⟩ := hp4
          have hB := below_grown hB hgr4 (fun g hg => by rcases hown.2 with ⟨rfl, _⟩ | ⟨g0, cap, _, rfl, hg0, _⟩ <;> simp [Value.ownBlock] at hg; omega) hB.size
          refine seq_is hS (by decide) (runs_assign rfl) (fun a1 hS => ?_)
          refine nil_ok (reg_seq ?_)
          refine seq_is hS (by decide) (runs_add (r := ((i + 1 : Nat) : Int)) rfl rfl (by simp [IntKind.wrap, IntKind.bits, IntKind.signed]; omega)) (fun a1 hS => ?_)
          refine seq_is hS (by decide) (runs_move rfl) (fun a1 hS => ?_)
          exact nil_ok ⟨_, by omega, i + 1, ls ++ [x], v4, by omega, rfl, hB, by rw [take_map_snoc hp, mapM_snoc, hms, hn]; rfl, by rw [ints, List.map_append]; exact hown4, fun _ => hne4, hS.only _ ⟨rfl, rfl, rfl, rfl, trivial⟩⟩
      · skip
        refine seq_is hS (by decide) (runs_lss (r := false) rfl rfl (by rw [decide_eq_false_iff_not]; omega)) (fun a1 hS => ?_)
        obtain rfl : i = m := by omega
        refine nil_ok ⟨_, hS.eval rfl, fun _ => ?_, fun h => by simp at h⟩
        refine qx_seq (reg_seq ?_)
        refine seq_is hS (by decide) (runs_move rfl) (fun a1 hS => ?_)
        refine seq_is hS (by decide) (runs_assign rfl) (fun a1 hS => ?_)
        refine seq_is hS (by decide) (runs_assign rfl) (fun a1 hS => ?_)
        rw [List.take_of_length_le (by omega), hpl] at hms
        have hll : ls.length = i := by have := hown.1; simpa [ints] using this
        obtain ⟨g, cap, rfl, hgb, hg, _, _, hr⟩ := own_form hown (hsv (by omega))
        exact nil_ok (qx_ret (ret2 (t := 6) (u := 7) (by kernel_rfl) hS rfl rfl ⟨_, rfl, hB1.trans (hB.mono (by have := hB1.size; omega)), _, _, rfl, by rw [hms]; exact ⟨rfl, g, cap, by rw [hll], Nat.le_trans (by have := hB1.size; omega) hgb, hg, hr⟩⟩))
    · skip
      refine seq_yis hS (by decide) rfl (by decide) rfl (runs_neStr (r := true) rfl rfl (by simpa using h2)) (fun a1 hS => ?_)
      refine seq_is hS (by decide) (runs_pick rfl rfl) (fun a1 hS => ?_)
      refine nil_ok (wp_cond_true (hS.eval rfl) (qx_seq (reg_seq ?_)))
      refine seq_is hS (by decide) (runs_assign rfl) (fun a1 hS => ?_)
      refine seq_is hS (by decide) (runs_assign rfl) (fun a1 hS => ?_)
      exact nil_ok (qx_ret (ret2 (t := 6) (u := 7) (by kernel_rfl) hS rfl rfl ⟨_, rfl, hB1, _, _, rfl, by rw [← hpl, parts_no (.inr (by simpa using h2))]; rfl⟩))
  · skip
    refine seq_is hS (by decide) (runs_neq (r := true) rfl rfl (by simp; omega)) (fun a1 hS => ?_)
    refine seq_is hS (by decide) (runs_move rfl) (fun a1 hS => ?_)
    refine seq_no hS (by decide) rfl (by decide) rfl rfl (fun a1 hS => ?_)
    refine seq_no hS (by decide) rfl (by decide) rfl rfl (fun a1 hS => ?_)
    refine seq_no hS (by decide) rfl (by decide) rfl rfl (fun a1 hS => ?_)
    refine seq_no hS (by decide) rfl (by decide) rfl rfl (fun a1 hS => ?_)
    refine seq_no hS (by decide) rfl (by decide) rfl rfl (fun a1 hS => ?_)
    refine seq_is hS (by decide) (runs_pick rfl rfl) (fun a1 hS => ?_)
    refine nil_ok (wp_cond_true (hS.eval rfl) (qx_seq (reg_seq ?_)))
    refine seq_is hS (by decide) (runs_assign rfl) (fun a1 hS => ?_)
    refine seq_is hS (by decide) (runs_assign rfl) (fun a1 hS => ?_)
    exact nil_ok (qx_ret (ret2 (t := 6) (u := 7) (by kernel_rfl) hS rfl rfl ⟨_, rfl, hB1, _, _, rfl, by rw [← hpl, parts_no (.inl (by simp; omega))]; rfl⟩))
end Go.Proofs.YtdbibjcplakelaaDoor
