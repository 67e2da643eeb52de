/- A string turned into bytes; a slice of strings. Conditions: the string is no longer than a string may be. -/
import Derived.Test.YtcinhbhagiffgaaDoorWReads
import Derived.Maps.AppendAt
namespace Go.Proofs.YtcinhbhagiffgaaDoor
open Go.RowKit

theorem und31 : Tryd.prog.underlying 31 = some (.slice 27) := by kernel_rfl
theorem und30 : Tryd.prog.underlying 30 = some (.slice 9) := by kernel_rfl
theorem info27 : (Tryd.prog.info? 27).map (fun i => (i.zero, i.size, i.bytes)) = some (some (.slice none 0 0), 1, 24) := by kernel_rfl
theorem bl_get (s : ByteArray) (j : Nat) (h : j < s.size) : (U8 (bl s))[j]? = some (.int .u8 ((s.data.toList.getD j 0).toNat : Int)) := by
  obtain ⟨⟨l⟩⟩ := s
  have : j < l.length := h
  simp [bl, U8, this]
theorem bl_append (s t : ByteArray) : bl (s ++ t) = bl s ++ bl t := by
  simp [bl, ByteArray.data_append]
theorem conv_str (w : World) (s : ByteArray) (hs : s.size ≤ maxLen) : ∃ (W1 : World) (c : Nat), Sem.run Tryd.prog (convert 9 27 (.string s)) w = .ok (.slice (some ⟨w.heap.size, 0, none⟩) s.size c) W1 ∧
    W1.heap.size = w.heap.size + 1 ∧ Below w.heap.size w W1 ∧ Sl W1 W1.heap.size (.slice (some ⟨w.heap.size, 0, none⟩) s.size c) (bl s) := by
  refine ⟨Lib.bytesWorld w 5 s, grownCap w s.size 0 5, Lib.run_convert_string_bytes w 9 27 5 s und9 und27 und5, Lib.bytesWorld_size w 5 s, ⟨rfl, rfl, rfl, by rw [Lib.bytesWorld_size]; omega, fun i hi => Lib.bytesWorld_at_old w 5 s i hi⟩, ?_⟩
  refine ⟨_, _, by rw [bl_length], by rw [bl_length]; exact grownCap_ge w s.size 0 5, grownCap_le_maxLen w s.size 0 5 hs, fun _ => ⟨w.heap.size, 0, rfl, by rw [Lib.bytesWorld_size]; omega, by rw [Lib.bytesWorld_size]; omega, ?_⟩⟩
  intro j v hv
  have hj : j < s.size := by
    rw [← bl_length, ← U8_length]
    exact (List.getElem?_eq_some_iff.1 hv).1
  rw [bl_get s j hj] at hv
  rw [Nat.zero_add, Lib.bytesWorld_cell w 5 s j hj, ← hv]

/-- The value v is a slice of the strings ss. -/
def Strs (w : World) (v : Value) (ss : List ByteArray) : Prop :=
  ∃ (A : Option Addr) (c : Nat), v = .slice A ss.length c ∧ ss.length ≤ c ∧ c ≤ maxLen ∧ (0 < ss.length → ∃ b o, A = some ⟨b, o, none⟩ ∧ b < w.heap.size ∧ ∀ i, i < ss.length → w.cell? ⟨b, o + i, none⟩ = some (.string (ss.getD i ByteArray.empty)))
/-- Behind k strings: all of them joined, and each as bytes in a slice of the call's own. -/
def PRel (w : World) (ss : List ByteArray) (k : Nat) (sv v : Value) (V : World) : Prop :=
  ∃ J g cap vs, sv = .string J ∧ bl J = ((ss.take k).map bl).flatten ∧ J.size ≤ 200 * k ∧ v = .slice (some ⟨g, 0, none⟩) k cap ∧ V.ownsRow w.heap.size 27 1 v k vs ∧
    (∀ (i : Nat) u l, vs[i]? = some u → (ss.map bl)[i]? = some l → Sl V g u l) ∧ Below w.heap.size w V
theorem prel_start (w : World) (ss : List ByteArray) : PRel w ss 0 (.string ⟨#[]⟩) (.slice (some ⟨w.heap.size, 0, none⟩) 0 0) (w.alloc (.cells #[] 27)) :=
  ⟨_, w.heap.size, 0, [], rfl, rfl, Nat.le_refl _, rfl, World.ownsRow_made w #[] 0 (Nat.le_refl _) (by unfold maxLen; omega) rfl, fun i u l h _ => by simp at h, (Below.refl _ _).alloc (Nat.le_refl _) _⟩
theorem prel_start' (B w : World) (ss : List ByteArray) (hb : Below B.heap.size B w) : PRel B ss 0 (.string ⟨#[]⟩) (.slice (some ⟨w.heap.size, 0, none⟩) 0 0) (w.alloc (.cells #[] 27)) :=
  ⟨_, w.heap.size, 0, [], rfl, rfl, Nat.le_refl _, rfl, World.ownsRow_made w #[] 0 hb.size (by unfold maxLen; omega) rfl, fun i u l h _ => by simp at h, hb.alloc hb.size _⟩
theorem Sl.kept {w w' : World} {g g' : Nat} {v : Value} {l : List Nat} (h : Sl w g v l) (hsz : w.heap.size ≤ w'.heap.size) (hk : ∀ i, i < w.heap.size → i ≠ g → w'.heap[i]? = w.heap[i]?) (hg : g' = g ∨ w.heap.size ≤ g') : Sl w' g' v l := by
  obtain ⟨A, c, rfl, h1, h2, h3⟩ := h
  refine ⟨A, c, rfl, h1, h2, fun hp => ?_⟩
  obtain ⟨b, o, rfl, hb, hs, hr⟩ := h3 hp
  refine ⟨b, o, rfl, by rcases hg with rfl | hg <;> omega, by omega, fun j v hv => ?_⟩
  rw [World.cell?_of_block (a := ⟨b, o + j, none⟩) (hk b hs hb)]
  exact hr j v hv
/-- One more string. -/
theorem prel_step {w V W1 W2 : World} {ss : List ByteArray} {k c g cap : Nat} {J : ByteArray} {v' : Value} {vs : List Value} (hk : k < ss.length) (hs : ss[k].size ≤ 200)
    (hJ : bl J = ((ss.take k).map bl).flatten) (hJs : J.size ≤ 200 * k) (hS : ∀ (i : Nat) u l, vs[i]? = some u → (ss.map bl)[i]? = some l → Sl V g u l) (hB : Below w.heap.size w V) (hg : w.heap.size ≤ g) (hvl : vs.length = k)
    (hB1 : Below V.heap.size V W1) (hz1 : W1.heap.size = V.heap.size + 1) (hS1 : Sl W1 W1.heap.size (.slice (some ⟨V.heap.size, 0, none⟩) ss[k].size c) (bl ss[k]))
    (hgV : g < V.heap.size)
    (hown : W2.ownsRow w.heap.size 27 1 v' (k + 1) (vs ++ [.slice (some ⟨V.heap.size, 0, none⟩) ss[k].size c]))
    (hgr : (W1.alloc (.cells #[.slice (some ⟨V.heap.size, 0, none⟩) ss[k].size c] 27)).grownBy W2 (Value.slice (some ⟨g, 0, none⟩) k cap).ownBlock)
    (hnil : v' ≠ .slice none 0 0) (hat : v'.ownBlock = (Value.slice (some ⟨g, 0, none⟩) k cap).ownBlock ∨ v'.ownBlock = some (W1.alloc (.cells #[.slice (some ⟨V.heap.size, 0, none⟩) ss[k].size c] 27)).heap.size) :
    PRel w ss (k + 1) (.string (J ++ ss[k])) v' W2 := by
  have hsz1 : (W1.alloc (.cells #[.slice (some ⟨V.heap.size, 0, none⟩) ss[k].size c] 27)).heap.size = V.heap.size + 2 := by simp [hz1]
  have hgsz : V.heap.size + 2 ≤ W2.heap.size := by have := hgr.size; omega
  have hown0 := hown
  rcases hown0.2 with ⟨h0, _⟩ | ⟨g', cap', cur, rfl, hbg, hh, _⟩
  · exact absurd h0 hnil
  have hg' : g' = g ∨ g' = V.heap.size + 2 := by
    rcases hat with h | h
    · left; simpa [Value.ownBlock] using h
    · right; rw [hsz1] at h; simpa [Value.ownBlock] using h
  have hblk : ∀ i, i < V.heap.size + 2 → i ≠ g → W2.heap[i]? = (W1.alloc (.cells #[.slice (some ⟨V.heap.size, 0, none⟩) ss[k].size c] 27)).heap[i]? := fun i hi hne =>
    hgr.block i (by omega) (by simpa [Value.ownBlock] using hne)
  have hblkV : ∀ i, i < V.heap.size → i ≠ g → W2.heap[i]? = V.heap[i]? := fun i hi hne => by
    rw [hblk i (by omega) hne, Below.heap_alloc _ _ _ (by omega), hB1.block i hi]
  refine ⟨J ++ ss[k], g', cap', _, rfl, ?_, ?_, rfl, hown, fun i u l h1 h2 => ?_, ?_⟩
  · rw [bl_append, hJ, List.take_add_one, List.getElem?_eq_getElem hk, List.map_append, List.flatten_append]
    simp only [Option.toList_some, List.map_cons, List.map_nil, List.flatten_cons, List.flatten_nil, List.append_nil]
  · rw [ByteArray.size_append]; omega
  · by_cases hi : i < k
    · rw [List.getElem?_append_left (by omega)] at h1
      exact (hS i u l h1 h2).kept (by omega) hblkV (by omega)
    · have hik : i = k := by
        have := (List.getElem?_eq_some_iff.1 h1).1
        simp at this
        omega
      subst hik
      rw [List.getElem?_append_right (by omega)] at h1
      simp [hvl] at h1
      subst h1
      rw [List.getElem?_map, List.getElem?_eq_getElem hk] at h2
      simp at h2
      subst h2
      obtain ⟨A, c', e, h1, h2, h3⟩ := hS1
      refine ⟨A, c', e, h1, h2, fun hp => ?_⟩
      obtain ⟨b, o, rfl, hb, hs, hr⟩ := h3 hp
      injection e with e1 e2 e3
      injection e1 with e1
      injection e1 with e1 e4
      subst e1
      refine ⟨V.heap.size, o, rfl, by omega, by omega, fun j v hv => ?_⟩
      have hb1 : W2.heap[V.heap.size]? = W1.heap[V.heap.size]? := by rw [hblk V.heap.size (by omega) (by omega)]; exact Below.heap_alloc _ _ _ (by omega)
      rw [World.cell?_of_block (w := W1) (w' := W2) (a := ⟨V.heap.size, o + j, none⟩) hb1]
      exact hr j v hv
  · refine ⟨hgr.os.trans (hB1.os.trans hB.os), hgr.tape.trans (hB1.tape.trans hB.tape), hgr.output.trans (hB1.output.trans hB.output), by have := hB.size; omega, fun i hi => ?_⟩
    rw [hblkV i (by have := hB.size; omega) (by omega), hB.block i hi]
/-- All strings gathered: the parts of the sum. -/
theorem prel_parts {w V : World} {ss : List ByteArray} {g cap : Nat} {vs : List Value} (h : V.ownsRow w.heap.size 27 1 (.slice (some ⟨g, 0, none⟩) ss.length cap) ss.length vs)
    (hS : ∀ (i : Nat) u l, vs[i]? = some u → (ss.map bl)[i]? = some l → Sl V g u l) : Parts V (.slice (some ⟨g, 0, none⟩) ss.length cap) (ss.map bl) := by
  have hl := h.1
  rcases h.2 with ⟨h0, _⟩ | ⟨g', cap', cur, e, hbg, hh, h1, h2, h3, h4⟩
  · cases h0
  injection e with e1 e2 e3
  injection e1 with e1
  injection e1 with e1 e4
  subst e1 e3
  have hgV : g < V.heap.size := (Array.getElem?_eq_some_iff.1 hh).1
  refine ⟨_, cap, vs, by rw [List.length_map], by rw [List.length_map]; exact h1, h2, by rw [List.length_map]; omega, fun _ => ⟨g, 0, rfl, hgV, fun j v hv => ?_⟩, fun i u l a b => ?_⟩
  · have := h.cells (g := g) rfl j v hv
    rwa [show (⟨g, 0, none⟩ : Addr).add j = ⟨g, 0 + j, none⟩ from by unfold Addr.add; split <;> simp_all] at this
  · obtain ⟨A, c, rfl, q1, q2, q3⟩ := hS i u l a b
    refine ⟨A, c, rfl, q1, q2, fun hp => ?_⟩
    obtain ⟨b, o, rfl, hb, hs, hr⟩ := q3 hp
    exact ⟨b, o, rfl, by omega, hs, hr⟩
end Go.Proofs.YtcinhbhagiffgaaDoor
