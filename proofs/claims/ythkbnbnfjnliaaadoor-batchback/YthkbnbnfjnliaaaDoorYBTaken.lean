/- Plain mathematics: messages taken as their numbers stand, and held to the bytes that they would have. No condition. -/
import Derived.Test.YthkbnbnfjnliaaaDoorYBMath
import Derived.Test.YthkbnbnfjnliaaaDoorJ34
namespace Go.Proofs.YthkbnbnfjnliaaaDoor
open Wire
set_option maxRecDepth 100000

/-- The message of three numbers, by their bits. -/
def takenR (v : List Nat) : E := (sgX (v.getD 0 0), sgX (v.getD 1 0), unfold_ (v.getD 2 0))
def rdRt (l : List Nat) : E × Nat := if (rdk 3 l).2.2 ≠ 0 then ((0, 0, 0), (rdk 3 l).2.2) else if (rdk 3 l).2.1 ≠ [] then ((0, 0, 0), 22) else (takenR (rdk 3 l).1, 0)
def rdBt : Nat → List Nat → List E × List Nat × Nat
  | 0, l => ([], l, 0)
  | k + 1, l => if (rdT 40 l).2.2 ≠ 0 then ([], [], (rdT 40 l).2.2) else if (rdRt (rdT 40 l).1).2 ≠ 0 then ([], [], (rdRt (rdT 40 l).1).2) else ((rdRt (rdT 40 l).1).1 :: (rdBt k (l.drop (rdT 40 l).2.1)).1, (rdBt k (l.drop (rdT 40 l).2.1)).2)
theorem rdRt_err (l : List Nat) : (rdRt l).2 = (rdR l).2 := by
  unfold rdRt rdR
  split
  · rfl
  · split <;> rfl
theorem rdBt_end : ∀ (k : Nat) (l : List Nat), (rdBt k l).2 = (rdB k l).2 ∧ (rdBt k l).1.length = (rdB k l).1.length
  | 0, l => ⟨rfl, rfl⟩
  | k + 1, l => by
    obtain ⟨i1, i2⟩ := rdBt_end k (l.drop (rdT 40 l).2.1)
    have he := rdRt_err (rdT 40 l).1
    by_cases h1 : (rdT 40 l).2.2 = 0
    · by_cases h2 : (rdR (rdT 40 l).1).2 = 0
      · simp only [rdBt, rdB, he, h1, h2, ne_eq, not_true_eq_false, if_false, List.length_cons]
        exact ⟨i1, by rw [i2]⟩
      · simp only [rdBt, rdB, he, h1, h2, ne_eq, not_true_eq_false, not_false_eq_true, if_false, if_true, and_self]
    · simp only [rdBt, rdB, h1, ne_eq, not_false_eq_true, if_true, and_self]
theorem taken_of {v : List Nat} (h : okM (ofR v) = true) : takenR v = ofR v := by
  obtain ⟨h1, h2, h3, h4, _⟩ := (okM_iff _).1 h
  simp only [ofR] at h1 h2 h3 h4
  have a : v.getD 0 0 < 64 := by by_cases e : v.getD 0 0 < 64; exact e; rw [if_neg e] at h2; omega
  have b : v.getD 1 0 < 64 := by by_cases e : v.getD 1 0 < 64; exact e; rw [if_neg e] at h4; omega
  unfold takenR ofR
  rw [if_pos a, if_pos b, sgX_small (by omega), sgX_small (by omega)]
theorem of_taken {v : List Nat} (hl : ∀ n ∈ v, n < 18446744073709551616) (h : okM (takenR v) = true) : takenR v = ofR v := by
  obtain ⟨h1, h2, h3, h4, _⟩ := (okM_iff _).1 h
  simp only [takenR] at h1 h2 h3 h4
  have key : ∀ n : Nat, 0 ≤ sgX n → sgX n < 64 → n < 18446744073709551616 → n < 64 := fun n k1 k2 k3 => by
    unfold sgX at k1 k2
    split at k1
    · rename_i e; rw [if_pos e] at k2; omega
    · omega
  have get : ∀ i, v.getD i 0 < 18446744073709551616 := fun i => by
    rw [List.getD_eq_getElem?_getD]
    cases hg : v[i]? with
    | none => simp
    | some n => simpa using hl n (List.mem_of_getElem? hg)
  have a := key _ h1 h2 (get 0)
  have b := key _ h3 h4 (get 1)
  unfold takenR ofR
  rw [if_pos a, if_pos b, sgX_small (by omega), sgX_small (by omega)]
theorem rdk_lt : ∀ (k : Nat) (l : List Nat), (∀ c ∈ l, c < 256) → ∀ n ∈ (rdk k l).1, n < 18446744073709551616
  | 0, l, _, n, hn => by simp [rdk] at hn
  | k + 1, l, hb, n, hn => by
    by_cases h0 : (rd l).2.2 = 0
    · simp only [rdk, h0, if_true] at hn
      rcases List.mem_cons.1 hn with rfl | hn
      · exact (rd_back l (rd l).1 (rd l).2.1 hb (by rw [← h0])).2.2.2
      · exact rdk_lt k _ (fun c hc => hb c (List.mem_of_mem_drop hc)) n hn
    · simp only [rdk, h0, if_false] at hn; cases hn
theorem rdRt_eq {l : List Nat} (hb : ∀ c ∈ l, c < 256) (h : okM (rdRt l).1 = true ∨ okM (rdR l).1 = true) : (rdRt l).1 = (rdR l).1 := by
  unfold rdRt rdR at *
  by_cases h1 : (rdk 3 l).2.2 = 0
  · by_cases h2 : (rdk 3 l).2.1 = []
    · simp only [h1, h2, ne_eq, not_true_eq_false, if_false] at h ⊢
      rcases h with h | h
      · exact of_taken (rdk_lt 3 l hb) h
      · exact taken_of h
    · simp [h1, h2]
  · simp [h1]
theorem rdBt_eq : ∀ (k : Nat) (l : List Nat), (∀ c ∈ l, c < 256) → ((∀ m ∈ (rdBt k l).1, okM m = true) ∨ (∀ m ∈ (rdB k l).1, okM m = true)) → (rdBt k l).1 = (rdB k l).1
  | 0, l, _, _ => rfl
  | k + 1, l, hb, h => by
    have he := rdRt_err (rdT 40 l).1
    by_cases h1 : (rdT 40 l).2.2 = 0
    · by_cases h2 : (rdR (rdT 40 l).1).2 = 0
      · simp only [rdBt, rdB, he, h1, h2, ne_eq, not_true_eq_false, if_false] at h ⊢
        obtain ⟨t1, t2, _, _⟩ := rdT_back hb (show rdT 40 l = ((rdT 40 l).1, (rdT 40 l).2.1, 0) by rw [← h1])
        have hp : ∀ c ∈ (rdT 40 l).1, c < 256 := fun c hc => by
          have : c ∈ l.take (rdT 40 l).2.1 := by rw [t2]; exact List.mem_append_right _ hc
          exact hb c (List.mem_of_mem_take this)
        rw [rdRt_eq hp (h.imp (fun h => h _ (by simp)) (fun h => h _ (by simp))), rdBt_eq k _ (fun c hc => hb c (List.mem_of_mem_drop hc)) (h.imp (fun h m hm => h m (by simp [hm])) (fun h m hm => h m (by simp [hm])))]
      · simp only [rdBt, rdB, he, h1, h2, ne_eq, not_true_eq_false, not_false_eq_true, if_false, if_true]
    · simp only [rdBt, rdB, h1, ne_eq, not_false_eq_true, if_true]
/-- What is taken and has just these bytes is what is got. -/
theorem takenM_ok {l : List Nat} {ms : List E} (hb : ∀ c ∈ l, c < 256) (h : (rd l).2.2 = 0) (h2 : ¬ 512 < (rd l).1) (h3 : rdBt (rd l).1 (l.drop (rd l).2.1) = (ms, [], 0)) (hr : rightM ms = true) (hbt : bytesM ms = l) : getM l = (ms, 0) := by
  have hg := getM_bytes hr
  rw [hbt] at hg
  have hd : ∀ c ∈ l.drop (rd l).2.1, c < 256 := fun c hc => hb c (List.mem_of_mem_drop hc)
  have he := rdBt_eq (rd l).1 (l.drop (rd l).2.1) hd (.inl (by rw [h3]; exact ((rightM_iff ms).1 hr).1))
  have hend := (rdBt_end (rd l).1 (l.drop (rd l).2.1)).1
  rw [h3] at he hend
  unfold getM at hg
  rw [if_neg (by simp [h]), if_neg h2, ← he, ← hend] at hg
  simp only [ne_eq, not_true_eq_false, if_false] at hg
  split at hg
  · simp only [Prod.mk.injEq, and_true] at hg
    unfold getM
    rw [if_neg (by simp [h]), if_neg h2, ← he, ← hend]
    rename_i hu
    simp [hu]
  · simp at hg
theorem takenM_bad {l : List Nat} {ms : List E} (hb : ∀ c ∈ l, c < 256) (h : (rd l).2.2 = 0) (h2 : ¬ 512 < (rd l).1) (h3 : rdBt (rd l).1 (l.drop (rd l).2.1) = (ms, [], 0)) (hbad : ¬ (rightM ms = true ∧ bytesM ms = l)) : getM l = ([], 110) := by
  have hend := (rdBt_end (rd l).1 (l.drop (rd l).2.1)).1
  rw [h3] at hend
  have hgen : getM l = if upM (rdB (rd l).1 (l.drop (rd l).2.1)).1 && rightM (rdB (rd l).1 (l.drop (rd l).2.1)).1 then ((rdB (rd l).1 (l.drop (rd l).2.1)).1, 0) else ([], 110) := by
    unfold getM
    rw [if_neg (by simp [h]), if_neg h2, ← hend]
    simp
  by_cases hu : (upM (rdB (rd l).1 (l.drop (rd l).2.1)).1 && rightM (rdB (rd l).1 (l.drop (rd l).2.1)).1) = true
  · exfalso
    rw [if_pos hu] at hgen
    have hbk := getM_back hb (by rw [hgen])
    rw [hgen] at hbk
    have he := rdBt_eq (rd l).1 (l.drop (rd l).2.1) (fun c hc => hb c (List.mem_of_mem_drop hc)) (.inr ((rightM_iff _).1 hbk.1).1)
    rw [h3] at he
    exact hbad (by rw [show ms = _ from he]; exact ⟨hbk.1, hbk.2.2⟩)
  · rw [if_neg hu] at hgen; exact hgen
theorem takenM_err {l : List Nat} {e : Nat} (h : (rd l).2.2 = 0) (h2 : ¬ 512 < (rd l).1) (h3 : (rdBt (rd l).1 (l.drop (rd l).2.1)).2.2 = e) (he : e ≠ 0) : getM l = ([], e) := by
  have hend := (rdBt_end (rd l).1 (l.drop (rd l).2.1)).1
  unfold getM; rw [if_neg (by simp [h]), if_neg h2, ← hend, h3, if_pos he]
theorem takenM_more {l r : List Nat} {ms : List E} (h : (rd l).2.2 = 0) (h2 : ¬ 512 < (rd l).1) (h3 : rdBt (rd l).1 (l.drop (rd l).2.1) = (ms, r, 0)) (hr : r ≠ []) : getM l = ([], 22) := by
  have hend := (rdBt_end (rd l).1 (l.drop (rd l).2.1)).1
  rw [h3] at hend
  unfold getM; rw [if_neg (by simp [h]), if_neg h2, ← hend]; simp [hr]
/-- After i of K messages of L, as their numbers stand. -/
def RdMt (K : Nat) (L : List Nat) (i : Nat) (ms : List E) (l : List Nat) : Prop := rdBt K L = (ms ++ (rdBt (K - i) l).1, (rdBt (K - i) l).2)
theorem RdMt.zero (K : Nat) (L : List Nat) : RdMt K L 0 [] L := rfl
theorem RdMt.step {K : Nat} {L l : List Nat} {ms : List E} {i : Nat} (h : RdMt K L i ms l) (hi : i < K) (h0 : (rdT 40 l).2.2 = 0) (h1 : (rdRt (rdT 40 l).1).2 = 0) : RdMt K L (i + 1) (ms ++ [(rdRt (rdT 40 l).1).1]) (l.drop (rdT 40 l).2.1) := by
  unfold RdMt at h ⊢
  rw [h, show K - i = (K - (i + 1)) + 1 by omega]
  simp only [rdBt, h0, h1, ne_eq, not_true_eq_false, if_false, List.append_assoc, List.singleton_append]
theorem RdMt.errT {K : Nat} {L l : List Nat} {ms : List E} {i : Nat} (h : RdMt K L i ms l) (hi : i < K) (h0 : (rdT 40 l).2.2 ≠ 0) : (rdBt K L).2.2 = (rdT 40 l).2.2 := by
  unfold RdMt at h
  rw [h, show K - i = (K - (i + 1)) + 1 by omega]
  simp only [rdBt, h0, ne_eq, not_false_eq_true, if_true]
theorem RdMt.errR {K : Nat} {L l : List Nat} {ms : List E} {i : Nat} (h : RdMt K L i ms l) (hi : i < K) (h0 : (rdT 40 l).2.2 = 0) (h1 : (rdRt (rdT 40 l).1).2 ≠ 0) : (rdBt K L).2.2 = (rdRt (rdT 40 l).1).2 := by
  unfold RdMt at h
  rw [h, show K - i = (K - (i + 1)) + 1 by omega]
  simp only [rdBt, h0, h1, ne_eq, not_true_eq_false, not_false_eq_true, if_false, if_true]
theorem RdMt.all {K : Nat} {L l : List Nat} {ms : List E} (h : RdMt K L K ms l) : rdBt K L = (ms, l, 0) := by
  unfold RdMt at h; rw [h]; simp [rdBt]
end Go.Proofs.YthkbnbnfjnliaaaDoor
