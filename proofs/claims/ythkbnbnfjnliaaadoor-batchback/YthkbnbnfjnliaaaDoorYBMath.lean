/- Plain mathematics: messages as bytes, and read again. No condition. -/
import Derived.Test.YthkbnbnfjnliaaaDoorJ00
import Derived.Test.YthkbnbnfjnliaaaDoorJ27
namespace Go.Proofs.YthkbnbnfjnliaaaDoor
open Wire
set_option maxRecDepth 100000

/-- May a message be? Which ones may be together? -/
def okM (m : E) : Bool := decide (0 ≤ m.1) && decide (m.1 < 64) && decide (0 ≤ m.2.1) && decide (m.2.1 < 64) && !great m.2.2
def rightM (l : List E) : Bool := l.all okM && !twiceB l && decide (l.length ≤ 512)
/-- A message's row; the rows of messages, in order; a row as a text; the bytes of messages. -/
def rowM (m : E) : List Nat := if m.1 < 0 ∨ m.2.1 < 0 then [] else num m.1.toNat ++ num m.2.1.toNat ++ num (fold m.2.2)
def rowsM (l : List E) : List (List Nat) := (sortM l).map rowM
def txt (r : List Nat) : List Nat := num r.length ++ r
def bytesM (l : List E) : List Nat := num l.length ++ ((rowsM l).map txt).flatten
/-- A text of at most so many bytes: it, how many bytes were taken, what is wrong. -/
def rdT (most : Nat) (l : List Nat) : List Nat × Nat × Nat :=
  if (rd l).2.2 ≠ 0 then ([], 0, (rd l).2.2) else if most < (rd l).1 then ([], 0, 22) else if l.length - (rd l).2.1 < (rd l).1 then ([], 0, 20) else ((l.drop (rd l).2.1).take (rd l).1, (rd l).2.1 + (rd l).1, 0)
/-- The message of a row's numbers; of a row, and what is wrong. -/
def ofR (v : List Nat) : E := (if v.getD 0 0 < 64 then (v.getD 0 0 : Int) else 64, if v.getD 1 0 < 64 then (v.getD 1 0 : Int) else 64, unfold_ (v.getD 2 0))
def rdR (l : List Nat) : E × Nat := if (rdk 3 l).2.2 ≠ 0 then ((0, 0, 0), (rdk 3 l).2.2) else if (rdk 3 l).2.1 ≠ [] then ((0, 0, 0), 22) else (ofR (rdk 3 l).1, 0)
/-- So many messages, one behind the other: they, what is left, what is wrong. -/
def rdB : Nat → List Nat → List E × List Nat × Nat
  | 0, l => ([], l, 0)
  | k + 1, l => if (rdT 40 l).2.2 ≠ 0 then ([], [], (rdT 40 l).2.2) else if (rdR (rdT 40 l).1).2 ≠ 0 then ([], [], (rdR (rdT 40 l).1).2) else ((rdR (rdT 40 l).1).1 :: (rdB k (l.drop (rdT 40 l).2.1)).1, (rdB k (l.drop (rdT 40 l).2.1)).2)
/-- Each ahead of the next one. -/
def upM : List E → Bool
  | [] => true
  | [_] => true
  | a :: b :: l => lessM a b && upM (b :: l)
/-- What bytes are: messages, and what is wrong. -/
def getM (l : List Nat) : List E × Nat :=
  if (rd l).2.2 ≠ 0 then ([], (rd l).2.2)
  else if 512 < (rd l).1 then ([], 110)
  else if (rdB (rd l).1 (l.drop (rd l).2.1)).2.2 ≠ 0 then ([], (rdB (rd l).1 (l.drop (rd l).2.1)).2.2)
  else if (rdB (rd l).1 (l.drop (rd l).2.1)).2.1 ≠ [] then ([], 22)
  else if upM (rdB (rd l).1 (l.drop (rd l).2.1)).1 && rightM (rdB (rd l).1 (l.drop (rd l).2.1)).1 then ((rdB (rd l).1 (l.drop (rd l).2.1)).1, 0)
  else ([], 110)
theorem okM_iff (m : E) : okM m = true ↔ 0 ≤ m.1 ∧ m.1 < 64 ∧ 0 ≤ m.2.1 ∧ m.2.1 < 64 ∧ great m.2.2 = false := by
  simp [okM, and_assoc]
theorem rightM_iff (l : List E) : rightM l = true ↔ (∀ m ∈ l, okM m = true) ∧ l.Pairwise Apart ∧ l.length ≤ 512 := by
  simp only [rightM, Bool.and_eq_true, List.all_eq_true, Bool.not_eq_true', twice_iff, decide_eq_true_eq, and_assoc]
theorem rightM_perm {l m : List E} (h : l.Perm m) : rightM l = rightM m := by
  unfold rightM; rw [twice_perm h, h.length_eq, h.all_eq]
theorem rightM_sort (l : List E) : rightM (sortM l) = rightM l := rightM_perm (sortM_perm l)
theorem rowsM_length (l : List E) : (rowsM l).length = l.length := by simp [rowsM, sortM_length]
theorem rowM_lt (m : E) : ∀ c ∈ rowM m, c < 256 := fun c hc => by
  unfold rowM at hc
  split at hc
  · cases hc
  · simp only [List.mem_append] at hc
    rcases hc with (hc | hc) | hc <;> exact num_bytes _ c hc
theorem txt_lt {r : List Nat} (h : ∀ c ∈ r, c < 256) : ∀ c ∈ txt r, c < 256 := fun c hc => by
  rcases List.mem_append.1 hc with hc | hc
  · exact num_bytes _ c hc
  · exact h c hc
theorem bytesM_lt (l : List E) : ∀ c ∈ bytesM l, c < 256 := fun c hc => by
  rcases List.mem_append.1 hc with hc | hc
  · exact num_bytes _ c hc
  · obtain ⟨t, ht, hc⟩ := List.mem_flatten.1 hc
    obtain ⟨r, hr, rfl⟩ := List.mem_map.1 ht
    obtain ⟨m, _, rfl⟩ := List.mem_map.1 hr
    exact txt_lt (rowM_lt m) c hc
/-- A row is of at most 30 bytes. -/
theorem rowM_size {m : E} (h1 : m.1 < 18446744073709551616) (h2 : m.2.1 < 18446744073709551616) (h3 : -9223372036854775808 ≤ m.2.2) (h4 : m.2.2 ≤ 9223372036854775807) : (rowM m).length ≤ 30 := by
  unfold rowM
  split
  · simp
  · have a := num_len10 m.1.toNat (by omega)
    have b := num_len10 m.2.1.toNat (by omega)
    have c := num_len10 (fold m.2.2) (fold_lt _ h3 h4)
    simp only [List.length_append]; omega
theorem okM_size {m : E} (h : okM m = true) : (rowM m).length ≤ 30 := by
  obtain ⟨_, _, _, _, h5⟩ := (okM_iff m).1 h
  have := great_no h5
  exact rowM_size (by omega) (by omega) (by omega) (by omega)
theorem rowM_nums {m : E} (h : okM m = true) : rowM m = (([m.1.toNat, m.2.1.toNat, fold m.2.2]).map num).flatten := by
  obtain ⟨h1, _, h3, _, _⟩ := (okM_iff m).1 h
  unfold rowM; rw [if_neg (by omega)]; simp
theorem rdR_row {m : E} (h : okM m = true) : rdR (rowM m) = (m, 0) := by
  obtain ⟨h1, h2, h3, h4, h5⟩ := (okM_iff m).1 h
  have hg := great_no h5
  have h6 := fold_lt m.2.2 (by omega) (by omega)
  have hr := rdk_nums [m.1.toNat, m.2.1.toNat, fold m.2.2] [] (fun n hn => by
    simp only [List.mem_cons, List.not_mem_nil, or_false] at hn
    rcases hn with rfl | rfl | rfl <;> omega)
  rw [List.append_nil, ← rowM_nums h] at hr
  have hr : rdk 3 (rowM m) = ([m.1.toNat, m.2.1.toNat, fold m.2.2], [], 0) := hr
  unfold rdR
  rw [hr]
  simp only [ne_eq, not_true_eq_false, if_false, ofR, List.getD_cons_zero, List.getD_cons_succ, unfold_fold]
  rw [if_pos (by omega), if_pos (by omega)]
  refine Prod.ext (Prod.ext ?_ (Prod.ext ?_ rfl)) rfl
  · exact Int.toNat_of_nonneg h1
  · exact Int.toNat_of_nonneg h3
theorem rdT_txt {r : List Nat} (rest : List Nat) (h : r.length ≤ 40) : rdT 40 (txt r ++ rest) = (r, (txt r).length, 0) := by
  have hr := rd_num r.length (r ++ rest) (by omega)
  unfold rdT txt
  rw [List.append_assoc, hr]
  simp only [ne_eq, not_true_eq_false, if_false]
  rw [if_neg (by omega), if_neg (by simp only [List.length_append]; omega)]
  simp
theorem rdB_rows : ∀ (ms : List E) (rest : List Nat), (∀ m ∈ ms, okM m = true) → rdB ms.length (((ms.map rowM).map txt).flatten ++ rest) = (ms, rest, 0)
  | [], rest, _ => by simp [rdB]
  | m :: ms, rest, h => by
    have hm := h m (by simp)
    have ih := rdB_rows ms rest (fun x hx => h x (by simp [hx]))
    have ht := rdT_txt ((((ms.map rowM).map txt).flatten ++ rest)) (Nat.le_trans (okM_size hm) (by omega))
    simp only [List.map_cons, List.flatten_cons, List.length_cons, List.append_assoc, rdB, ht, rdR_row hm, ne_eq, not_true_eq_false, if_false, List.drop_left', ih]
theorem upM_of : ∀ (l : List E), l.Pairwise leM → l.Pairwise Apart → upM l = true
  | [], _, _ => rfl
  | [_], _, _ => rfl
  | a :: b :: l, h, k => by
    have h1 := (List.pairwise_cons.1 h).1 b (by simp)
    have k1 := (List.pairwise_cons.1 k).1 b (by simp)
    simp only [upM, Bool.and_eq_true]
    refine ⟨?_, upM_of (b :: l) (List.pairwise_cons.1 h).2 (List.pairwise_cons.1 k).2⟩
    rw [leM_iff] at h1; rw [lessM_iff]; unfold Apart at k1; omega
theorem upM_sorted : ∀ (l : List E), upM l = true → l.Pairwise leM
  | [], _ => List.Pairwise.nil
  | [_], _ => by simp
  | a :: b :: l, h => by
    simp only [upM, Bool.and_eq_true] at h
    have ih := upM_sorted (b :: l) h.2
    refine List.pairwise_cons.2 ⟨fun x hx => ?_, ih⟩
    rcases List.mem_cons.1 hx with rfl | hx
    · exact leM_of_less h.1
    · exact leM_trans (leM_of_less h.1) ((List.pairwise_cons.1 ih).1 x hx)
/-- What is put is got again, in order. -/
theorem getM_bytes {l : List E} (h : rightM l = true) : getM (bytesM l) = (sortM l, 0) := by
  obtain ⟨h1, h2, h3⟩ := (rightM_iff l).1 h
  have hn := rd_num l.length ((rowsM l).map txt).flatten (by omega)
  have hb := rdB_rows (sortM l) [] (fun m hm => h1 m (sortM_mem.1 hm))
  rw [List.append_nil, sortM_length] at hb
  have hup : upM (sortM l) = true := upM_of _ (sortM_sorted l) ((List.Perm.pairwise_iff (fun {a b} h => apart_comm h) (sortM_perm l)).2 h2)
  unfold getM bytesM
  rw [hn]
  simp only [ne_eq, not_true_eq_false, if_false, List.drop_left', rowsM, hb]
  rw [if_neg (by omega), hup, rightM_sort, h]
  rfl
theorem rdT_back {l p : List Nat} {n : Nat} (hb : ∀ c ∈ l, c < 256) (h : rdT 40 l = (p, n, 0)) : n ≤ l.length ∧ l.take n = txt p ∧ p.length ≤ 40 ∧ 0 < n := by
  unfold rdT at h
  split at h
  · rename_i h1; simp only [Prod.mk.injEq] at h; exact absurd h.2.2 h1
  · rename_i h1
    split at h
    · simp at h
    · rename_i h2
      split at h
      · simp at h
      · rename_i h3
        simp only [ne_eq, Decidable.not_not] at h1
        obtain ⟨k1, k2, k3, k4⟩ := rd_back l (rd l).1 (rd l).2.1 hb (by rw [← h1])
        simp only [Prod.mk.injEq, and_true] at h
        obtain ⟨rfl, rfl⟩ := h
        have hl : ((l.drop (rd l).2.1).take (rd l).1).length = (rd l).1 := by simp; omega
        refine ⟨by omega, ?_, by omega, by omega⟩
        unfold txt
        rw [hl, ← k3, List.take_add]
theorem rdR_back {r : List Nat} {m : E} (hb : ∀ c ∈ r, c < 256) (h : rdR r = (m, 0)) (hm : okM m = true) : rowM m = r := by
  unfold rdR at h
  split at h
  · rename_i h1; simp only [Prod.mk.injEq] at h; exact absurd h.2 h1
  · rename_i h1
    simp only [ne_eq, Decidable.not_not] at h1
    split at h
    · simp at h
    · rename_i h2
      simp only [ne_eq, Decidable.not_not] at h2
      have hl := rdk_len 3 r h1
      have hk := rdk_back 3 r hb h1
      rw [h2, List.append_nil] at hk
      simp only [Prod.mk.injEq, and_true] at h
      rw [hk, rowM_nums hm]
      match hv : (rdk 3 r).1, hl with
      | [a, b, c], _ =>
        rw [hv] at h
        obtain ⟨k1, k2, k3, k4, _⟩ := (okM_iff m).1 hm
        simp only [ofR, List.getD_cons_zero, List.getD_cons_succ] at h
        subst h
        simp only at k1 k2 k3 k4
        have ha : a < 64 := by by_cases e : a < 64; exact e; rw [if_neg e] at k2; omega
        have hb' : b < 64 := by by_cases e : b < 64; exact e; rw [if_neg e] at k4; omega
        simp only [if_pos ha, if_pos hb', Int.toNat_natCast, fold_unfold]
theorem rdB_back : ∀ (k : Nat) (l : List Nat), (∀ c ∈ l, c < 256) → (rdB k l).2.2 = 0 → (rdB k l).1.length = k ∧ ((∀ m ∈ (rdB k l).1, okM m = true) → l = (((rdB k l).1.map rowM).map txt).flatten ++ (rdB k l).2.1)
  | 0, l, _, _ => by simp [rdB]
  | k + 1, l, hb, h => by
    by_cases h1 : (rdT 40 l).2.2 = 0
    · by_cases h2 : (rdR (rdT 40 l).1).2 = 0
      · simp only [rdB, h1, h2, ne_eq, not_true_eq_false, if_false] at h ⊢
        obtain ⟨t1, t2, t3, t4⟩ := rdT_back hb (show rdT 40 l = ((rdT 40 l).1, (rdT 40 l).2.1, 0) by rw [← h1])
        obtain ⟨i1, i2⟩ := rdB_back k (l.drop (rdT 40 l).2.1) (fun c hc => hb c (List.mem_of_mem_drop hc)) h
        refine ⟨by simp [i1], fun hm => ?_⟩
        have hp : ∀ c ∈ (rdT 40 l).1, c < 256 := fun c hc => by
          have : c ∈ l.take (rdT 40 l).2.1 := by rw [t2]; exact List.mem_append_right _ hc
          exact hb c (List.mem_of_mem_take this)
        have hr := rdR_back hp (show rdR (rdT 40 l).1 = ((rdR (rdT 40 l).1).1, 0) by rw [← h2]) (hm _ (by simp))
        have ih := i2 (fun m hm' => hm m (by simp [hm']))
        rw [List.map_cons, List.map_cons, List.flatten_cons, List.append_assoc, ← ih, hr, ← t2, List.take_append_drop]
      · exact absurd h (by simp only [rdB, h1, h2, ne_eq, not_true_eq_false, if_false, not_false_eq_true, if_true])
    · exact absurd h (by simp only [rdB, h1, ne_eq, not_false_eq_true, if_true])
/-- What is got is in order, may be, and has just these bytes. -/
theorem getM_back {l : List Nat} (hb : ∀ c ∈ l, c < 256) (h : (getM l).2 = 0) : rightM (getM l).1 = true ∧ sortM (getM l).1 = (getM l).1 ∧ bytesM (getM l).1 = l := by
  unfold getM at h ⊢
  by_cases h1 : (rd l).2.2 = 0
  · obtain ⟨k1, k2, k3, k4⟩ := rd_back l (rd l).1 (rd l).2.1 hb (by rw [← h1])
    by_cases h2 : 512 < (rd l).1
    · simp [h1, h2] at h
    · by_cases h3 : (rdB (rd l).1 (l.drop (rd l).2.1)).2.2 = 0
      · by_cases h4 : (rdB (rd l).1 (l.drop (rd l).2.1)).2.1 = []
        · by_cases h5 : (upM (rdB (rd l).1 (l.drop (rd l).2.1)).1 && rightM (rdB (rd l).1 (l.drop (rd l).2.1)).1) = true
          · simp only [h1, h2, h3, h4, h5, ne_eq, not_true_eq_false, if_false, if_true]
            obtain ⟨i1, i2⟩ := rdB_back (rd l).1 (l.drop (rd l).2.1) (fun c hc => hb c (List.mem_of_mem_drop hc)) h3
            rw [Bool.and_eq_true] at h5
            have hs := (sortM_is (List.Perm.refl _) (upM_sorted _ h5.1)).symm
            refine ⟨h5.2, hs, ?_⟩
            have i3 := i2 ((rightM_iff _).1 h5.2).1
            rw [h4, List.append_nil] at i3
            unfold bytesM rowsM
            rw [hs, i1, ← i3, ← k3, List.take_append_drop]
          · simp [h1, h2, h3, h4, h5] at h
        · simp [h1, h2, h3, h4] at h
      · simp [h1, h2, h3] at h
  · simp [h1] at h
theorem getM_none {l : List Nat} (h : (getM l).2 ≠ 0) : (getM l).1 = [] := by
  unfold getM at h ⊢
  repeat' split
  all_goals first | rfl | skip
  rename_i h1 h2 h3 h4 h5
  simp [h1, h2, h3, h4, h5] at h
end Go.Proofs.YthkbnbnfjnliaaaDoor
