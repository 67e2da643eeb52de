/- The document's Read, walked. Conditions: none of our own. -/
import Derived.Test.YtdbibjcplakelaaDoorRCheck
import Derived.Test.YtdbibjcplakelaaDoorRNorm
import Derived.Test.YtdbibjcplakelaaDoorRText
namespace Go.Proofs.YtdbibjcplakelaaDoor
open Go.RowKit
set_option maxRecDepth 100000

theorem goes25 : Goes Tryd.prog 25 := goes_of Tryd.func25 (by kernel_rfl) rfl
theorem cutAt_out {c : UInt8} {s : Bs} (h : c ∉ s) : cutAt c s = none := by
  cases hc : cutAt c s with
  | none => rfl
  | some p =>
    obtain ⟨a, b⟩ := p
    exact absurd (by rw [(cutAt_some hc).1]; simp) h
theorem line_no {word : Bs} {m : Nat} {line w0 : Bs} {ps : List Bs} (hs : splitC 32 line = w0 :: ps) (h : ps.mapM num = none ∨ ¬ (w0 = word ∧ ps.length = m)) : lineOf word m line = none := by
  unfold lineOf
  rw [hs]
  simp only
  split
  · rename_i h2
    rcases h with h | h
    · exact h
    · exact absurd h2 h
  · rfl
theorem line_yes {word : Bs} {m : Nat} {line : Bs} {ps : List Bs} {ls : List Nat} (hs : splitC 32 line = word :: ps) (h : ps.mapM num = some ls) (hl : ps.length = m) : lineOf word m line = some ls := by
  unfold lineOf
  rw [hs]
  simp only
  rw [if_pos ⟨trivial, hl⟩, h]
theorem verts_no {line w0 : Bs} {ps : List Bs} (hs : splitC 32 line = w0 :: ps) (h : ps.mapM num = none ∨ ¬ (w0 = graphW ∧ ps.length = 1)) : vertsOf line = none := by
  unfold vertsOf; rw [line_no hs h]
theorem edge_no {line w0 : Bs} {ps : List Bs} (hs : splitC 32 line = w0 :: ps) (h : ps.mapM num = none ∨ ¬ (w0 = edgeW ∧ ps.length = 3)) : edgeOf line = none := by
  unfold edgeOf; rw [line_no hs h]
theorem At.wrong {s0 s line rest : Bs} {at_ : Nat} {n : Int} {es : List E} (h : At s0 at_ s n es) (hc : cutAt 10 s = some (line, rest)) (h1 : at_ = 1 → vertsOf line = none) (h2 : 2 ≤ at_ → edgeOf line = none) : rdT s0 = .inl at_ := by
  rcases h with ⟨rfl, rfl, _, _⟩ | ⟨ha, hr⟩
  · rw [rdT_cut hc, h1 rfl]
  · rw [hr, rdE_cut hc, h2 ha]; rfl
theorem At.none {s0 s : Bs} {at_ : Nat} {n : Int} {es : List E} (h : At s0 at_ s n es) (hc : cutAt 10 s = none) (hs : at_ = 1 ∨ s ≠ []) : rdT s0 = .inl at_ := by
  rcases h with ⟨rfl, rfl, _, _⟩ | ⟨ha, hr⟩
  · exact rdT_none hc
  · rw [hr, rdE_no hc (hs.resolve_left (by omega))]; rfl
theorem At.first {s0 s line rest : Bs} {n x : Int} {es : List E} (h : At s0 1 s n es) (hc : cutAt 10 s = some (line, rest)) (h1 : vertsOf line = some x) : At s0 2 rest x es := by
  rcases h with ⟨_, rfl, _, rfl⟩ | ⟨ha, _⟩
  · exact .inr ⟨Nat.le_refl _, by rw [rdT_cut hc, h1]⟩
  · omega
theorem At.next {s0 s line rest : Bs} {at_ : Nat} {n : Int} {es : List E} {e : E} (h : At s0 at_ s n es) (ha : 2 ≤ at_) (hc : cutAt 10 s = some (line, rest)) (h1 : edgeOf line = some e) : At s0 (at_ + 1) rest n (es ++ [e]) := by
  rcases h with ⟨h, _⟩ | ⟨_, hr⟩
  · omega
  · exact .inr ⟨by omega, by rw [hr, rdE_cut hc, h1]⟩
theorem At.end_ {s0 : Bs} {at_ : Nat} {n : Int} {es : List E} (h : At s0 at_ [] n es) (ha : at_ ≠ 1) : rdT s0 = .inr (n, es) := by
  rcases h with ⟨h, _⟩ | ⟨_, hr⟩
  · exact absurd h ha
  · rw [hr, rdE_nil]; rfl
theorem owns_form {w : World} {B n sz : Nat} {e : TypeId} {v : Value} {xs : List Value} (h : w.ownsRow B e sz v n xs) : ∃ A c, v = .slice A n c := by
  rcases h.2 with ⟨rfl, h0⟩ | ⟨g4, c4, cur, rfl, _⟩
  · exact ⟨none, 0, by rw [h0]⟩
  · exact ⟨_, _, rfl⟩
theorem split_at {s : Bs} {b t : Nat} (h : s[t]? = some 10) (hb : b ≤ t) : s.drop b = (s.drop b).take (t - b) ++ 10 :: s.drop (t + 1) := by
  obtain ⟨h1, h2⟩ := List.getElem?_eq_some_iff.1 h
  have : s.drop t = 10 :: s.drop (t + 1) := by rw [List.drop_eq_getElem_cons h1, h2]
  rw [← this]
  have h3 := (List.take_append_drop (t - b) (s.drop b)).symm
  rw [List.drop_drop, show b + (t - b) = t by omega] at h3
  exact h3
set_option maxHeartbeats 1000000 in
theorem scan_loop (N R : Act → World → Prop) (X : Nat → Act → World → Prop) (l : Bs) (hl : l.length ≤ 1000000) (b : Nat) (hb : b ≤ l.length) (v7 v2 v5 : Value) (w : World) (a : Act) (hS : Sees 126 [(8, .int .i64 (b : Int)), (0, .string ⟨l.toArray⟩), (6, .int .i64 (b : Int)), (7, v7), (2, v2), (5, v5)] a) (h : ∀ a' t, b ≤ t → t ≤ l.length → (10 : UInt8) ∉ (l.drop b).take (t - b) → (t = l.length ∨ l[t]? = some 10) → Sees 126 [(8, .int .i64 (t : Int)), (0, .string ⟨l.toArray⟩), (6, .int .i64 (b : Int)), (7, v7), (2, v2), (5, v5)] a' → N a' w) : ((Tryd.f25.body.bind (blockIn 2)).getD .skip).wp Tryd.prog (Qx N X R) a w := by
  refine qx_for (fun m a w' => ∃ t : Nat, b ≤ t ∧ t ≤ l.length ∧ m = l.length - t ∧ w' = w ∧ (10 : UInt8) ∉ (l.drop b).take (t - b) ∧ Sees 126 [(8, .int .i64 (t : Int)), (0, .string ⟨l.toArray⟩), (6, .int .i64 (b : Int)), (7, v7), (2, v2), (5, v5)] a) (l.length - b) ⟨b, Nat.le_refl _, hb, rfl, rfl, by simp, hS⟩ ?_
  clear hS
  rintro m a w' ⟨t, hbt, htl, rfl, rfl, hno, hS⟩
  refine reg_seq ?_
  refine seq_is hS (by decide) (runs_move rfl) (fun a1 hS => ?_)
  refine seq_is hS (by decide) (runs_move rfl) (fun a1 hS => ?_)
  refine seq_is hS (by decide) (runs_lenL rfl) (fun a1 hS => ?_)
  by_cases hlt : t < l.length
  · skip
    obtain ⟨d, hd⟩ : ∃ d, l[t]? = some d := ⟨_, List.getElem?_eq_getElem hlt⟩
    refine seq_is hS (by decide) (runs_lss (r := true) rfl rfl (by rw [decide_eq_true_eq]; omega)) (fun a1 hS => ?_)
    refine seq_is hS (by decide) (runs_move rfl) (fun a1 hS => ?_)
    refine seq_yis hS (by decide) rfl (by decide) rfl (runs_move rfl) (fun a1 hS => ?_)
    refine seq_yis hS (by decide) rfl (by decide) rfl (runs_move rfl) (fun a1 hS => ?_)
    refine seq_yis hS (by decide) rfl (by decide) rfl (runs_idxL rfl rfl hd) (fun a1 hS => ?_)
    by_cases q : (d.toNat : Int) = 10
    · skip
      obtain rfl : d = 10 := UInt8.toNat_inj.1 (show d.toNat = (10 : UInt8).toNat by simp; omega)
      refine seq_yis hS (by decide) rfl (by decide) rfl (runs_neq (r := false) rfl rfl (by simp)) (fun a1 hS => ?_)
      refine seq_is hS (by decide) (runs_pick rfl rfl) (fun a1 hS => ?_)
      exact nil_ok ⟨_, hS.eval rfl, fun _ => h _ t hbt htl hno (.inr hd) (hS.only _ ⟨rfl, rfl, rfl, rfl, rfl, rfl, trivial⟩), fun h => by simp at h⟩
    · skip
      refine seq_yis hS (by decide) rfl (by decide) rfl (runs_neq (r := true) rfl rfl (by simp [q])) (fun a1 hS => ?_)
      refine seq_is hS (by decide) (runs_pick rfl rfl) (fun a1 hS => ?_)
      refine nil_ok ⟨_, hS.eval rfl, fun h => by simp at h, fun _ => ?_⟩
      refine qx_block (reg_seq ?_)
      refine seq_is hS (by decide) (runs_move rfl) (fun a1 hS => ?_)
      refine seq_is hS (by decide) (runs_add (r := ((t + 1 : Nat) : Int)) rfl rfl (by simp [IntKind.wrap, IntKind.bits, IntKind.signed]; omega)) (fun a1 hS => ?_)
      refine seq_is hS (by decide) (runs_assign rfl) (fun a1 hS => ?_)
      refine nil_ok ⟨_, by omega, t + 1, by omega, by omega, rfl, rfl, fun hm => ?_, hS.only _ ⟨rfl, rfl, rfl, rfl, rfl, rfl, trivial⟩⟩
      rw [show t + 1 - b = (t - b) + 1 by omega, List.take_add_one, List.getElem?_drop, show b + (t - b) = t by omega, hd] at hm
      rcases List.mem_append.1 hm with hm | hm
      · exact hno hm
      · simp only [Option.toList_some, List.mem_singleton] at hm; rw [← hm] at q; exact q rfl
  · skip
    refine seq_is hS (by decide) (runs_lss (r := false) rfl rfl (by rw [decide_eq_false_iff_not]; omega)) (fun a1 hS => ?_)
    refine seq_is hS (by decide) (runs_move rfl) (fun a1 hS => ?_)
    refine seq_no hS (by decide) rfl (by decide) rfl rfl (fun a1 hS => ?_)
    refine seq_no hS (by decide) rfl (by decide) rfl rfl (fun a1 hS => ?_)
    refine seq_no hS (by decide) rfl (by decide) rfl rfl (fun a1 hS => ?_)
    refine seq_no hS (by decide) rfl (by decide) rfl rfl (fun a1 hS => ?_)
    refine seq_is hS (by decide) (runs_pick rfl rfl) (fun a1 hS => ?_)
    exact nil_ok ⟨_, hS.eval rfl, fun _ => h _ t hbt htl hno (.inl (by omega)) (hS.only _ ⟨rfl, rfl, rfl, rfl, rfl, rfl, trivial⟩), fun h => by simp at h⟩
set_option maxHeartbeats 1000000 in
theorem nums_loop (N R : Act → World → Prop) (X : Nat → Act → World → Prop) (ws : List Bs) (hw1 : 1 ≤ ws.length) (hwl : ws.length ≤ 1000001) (gs cs gr at_ : Nat) (v0 v6 v5 sv0 : Value) (w2 w3 : World) (a : Act) (hgs : gs < w2.heap.size) (hgr : gr < w2.heap.size) (hr : w2.rangeAt gs 0 (strs ws)) (hB3 : Below w2.heap.size w2 w3) (hown0 : w3.ownsRow w2.heap.size 3 1 sv0 0 []) (hR : ∀ w', Below w2.heap.size w2 w' → Has w' gr 24 [.int .i64 0, .slice none 0 0]) (hS : Sees 126 [(11, .int .i64 1), (10, sv0), (9, .slice (some ⟨gs, 0, none⟩) ws.length cs), (0, v0), (6, v6), (7, .int .i64 (at_ : Int)), (2, .pointer (some ⟨gr, 0, none⟩)), (5, v5)] a) (h : ∀ a' w' sv ls, (ws.drop 1).mapM num = some ls → Below w2.heap.size w2 w' → w'.ownsRow w2.heap.size 3 1 sv ls.length (ints ls) → Sees 126 [(10, sv), (9, .slice (some ⟨gs, 0, none⟩) ws.length cs), (0, v0), (6, v6), (7, .int .i64 (at_ : Int)), (2, .pointer (some ⟨gr, 0, none⟩)), (5, v5)] a' → N a' w') (hbad : ∀ a' w', (ws.drop 1).mapM num = none → Below gr w2 w' → Has w' gr 24 [.int .i64 0, .slice none 0 0] → Sees 126 [(2, .pointer (some ⟨gr, 0, none⟩)), (3, .int .i64 (at_ : Int)), (4, .int .i64 52)] a' → R a' w') : ((Tryd.f25.body.bind (blockIn 4)).getD .skip).wp Tryd.prog (Qx N X R) a w3 := by
  obtain ⟨i3, hi3, hz3, hs3, hb3⟩ := info_parts inf3
  refine qx_for (fun m a w' => ∃ (i : Nat) (sv : Value) (ls : List Nat), 1 ≤ i ∧ i ≤ ws.length ∧ m = ws.length - i ∧ ls.length + 1 = i ∧ ((ws.drop 1).take (i - 1)).mapM num = some ls ∧ Below w2.heap.size w2 w' ∧ w'.ownsRow w2.heap.size 3 1 sv ls.length (ints ls) ∧ Sees 126 [(11, .int .i64 (i : Int)), (10, sv), (9, .slice (some ⟨gs, 0, none⟩) ws.length cs), (0, v0), (6, v6), (7, .int .i64 (at_ : Int)), (2, .pointer (some ⟨gr, 0, none⟩)), (5, v5)] a) (ws.length - 1) ⟨1, sv0, [], Nat.le_refl _, hw1, rfl, rfl, rfl, hB3, hown0, hS⟩ ?_
  clear hS hown0 hB3
  rintro m a w' ⟨i, sv, ls, hi1, hi, rfl, hli, hmm, hB, hown, hS⟩
  have hBs := hB.size
  refine reg_seq ?_
  refine seq_is hS (by decide) (runs_move rfl) (fun a1 hS => ?_)
  refine seq_is hS (by decide) (runs_move rfl) (fun a1 hS => ?_)
  refine seq_is hS (by decide) (runs_len rfl und58) (fun a1 hS => ?_)
  by_cases hlt : i < ws.length
  · skip
    refine seq_is hS (by decide) (runs_lss (r := true) rfl rfl (by rw [decide_eq_true_eq]; omega)) (fun a1 hS => ?_)
    obtain ⟨p, hp⟩ : ∃ p, ws[i]? = some p := ⟨_, List.getElem?_eq_getElem hlt⟩
    have hpc : w'.cell? ⟨gs, 0 + i, none⟩ = some (.string ⟨p.toArray⟩) := range_below hr hB hgs i _ (by rw [strs, List.getElem?_map, hp]; rfl)
    have hst : (ws.drop 1).take (i + 1 - 1) = (ws.drop 1).take (i - 1) ++ [p] := by
      rw [show i + 1 - 1 = (i - 1) + 1 by omega, List.take_add_one, List.getElem?_drop, show 1 + (i - 1) = i by omega, hp]; rfl
    have hms : ((ws.drop 1).take (i + 1 - 1)).mapM num = (num p).map fun b => ls ++ [b] := by rw [hst, mapM_snoc, hmm]; rfl
    refine nil_ok ⟨_, hS.eval rfl, fun h => by simp at h, fun _ => ?_⟩
    refine qx_seq (qx_block (qx_seq (reg_seq ?_)))
    refine seq_is hS (by decide) (runs_move rfl) (fun a1 hS => ?_)
    refine seq_is hS (by decide) (runs_move rfl) (fun a1 hS => ?_)
    refine seq_is hS (by decide) (runs_indexAddr (j := i) rfl rfl und58 siz9 rfl hlt) (fun a1 hS => ?_)
    refine seq_is hS (by decide) (runs_load rfl und_plain9 hpc) (fun a1 hS => ?_)
    refine seq_op hS (by decide) (runs_call (args := [.string ⟨p.toArray⟩, .int .i64 9]) goes37 rfl (rnum_any p w')) (fun v4 w4 a4 hp4 hS => ?_)
    obtain ⟨rfl, rfl⟩ := hp4
    refine seq_is hS (by decide) (runs_assign rfl) (fun a1 hS => ?_)
    refine nil_ok (qx_seq (qx_seq (reg_seq ?_)))
    cases hnp : num p with
    | none =>
      have hz : numZ p = -1 := by unfold numZ; rw [hnp]
      rw [hz] at hS
      refine seq_is hS (by decide) (runs_move rfl) (fun a1 hS => ?_)
      refine seq_is hS (by decide) (runs_lss (r := true) rfl rfl (by decide)) (fun a1 hS => ?_)
      have hR4 := hR _ hB
      refine nil_ok (wp_cond_true (hS.eval rfl) (qx_seq (reg_seq ?_)))
      refine seq_is hS (by decide) (runs_build24n) (fun a1 hS => ?_)
      refine seq_is hS (by decide) (runs_move rfl) (fun a1 hS => ?_)
      refine seq_none hS (runs_store24 rfl rfl hR4 rfl) (fun v8 w8 a8 hp8 hS => ?_)
      obtain ⟨rfl, hw8⟩ := hp8
      have hR8 : Has w8 gr 24 [.int .i64 0, .slice none 0 0] := by rw [hw8]; exact has_setRow hR4
      have hB8 : Below gr w2 w8 := by rw [hw8]; exact below_rowB (hB.mono (by omega)) (Nat.le_refl _) _
      refine seq_is hS (by decide) (runs_assign rfl) (fun a1 hS => ?_)
      refine seq_is hS (by decide) (runs_assign rfl) (fun a1 hS => ?_)
      exact nil_ok (qx_ret (hbad _ w8 (mapM_none (p := p) (List.mem_of_getElem? (i := i - 1) (by rw [List.getElem?_drop, show 1 + (i - 1) = i by omega, hp])) hnp) hB8 hR8 (hS.only _ ⟨rfl, rfl, rfl, trivial⟩)))
    | some x =>
      have hz : numZ p = (x : Int) := by unfold numZ; rw [hnp]
      rw [hz] at hS
      rw [hnp] at hms
      refine seq_is hS (by decide) (runs_move rfl) (fun a1 hS => ?_)
      refine seq_is hS (by decide) (runs_lss (r := false) rfl rfl (by rw [decide_eq_false_iff_not]; omega)) (fun a1 hS => ?_)
      refine nil_ok (wp_cond_false (hS.eval rfl) (wp_skip (reg_seq ?_)))
      refine seq_is hS (by decide) (runs_move rfl) (fun a1 hS => ?_)
      refine seq_is hS (by decide) (runs_move rfl) (fun a1 hS => ?_)
      refine seq_op hS (by decide) (runs_oneI rfl) (fun v5 w5 a5 hp5 hS => ?_)
      obtain ⟨g5, rfl, hX, hB5⟩ := hp5
      have hown := owns_kept hown hB5
      have hB := hB.trans (hB5.mono hB.size)
      refine seq_op hS (by decide) (push_ownT und60 hi3 hz3 hs3 hb3 (by omega) rfl rfl hown rfl hX rfl (by omega) hB.size) (fun v6_ w6 a6 hp6 hS => ?_)
      obtain ⟨_, hown6, hB6⟩ := hp6
      have hB := hB.trans hB6
      have hown6 : w6.ownsRow w2.heap.size 3 1 v6_ (ls ++ [x]).length (ints (ls ++ [x])) := by rw [List.length_append, ints, List.map_append]; exact hown6
      refine seq_is hS (by decide) (runs_assign rfl) (fun a1 hS => ?_)
      refine nil_ok (reg_seq ?_)
      refine seq_is hS (by decide) (runs_move rfl) (fun a1 hS => ?_)
      refine seq_is hS (by decide) (runs_add (r := ((i + 1 : Nat) : Int)) rfl rfl (by simp [IntKind.wrap, IntKind.bits, IntKind.signed]; omega)) (fun a1 hS => ?_)
      refine seq_is hS (by decide) (runs_assign rfl) (fun a1 hS => ?_)
      exact nil_ok ⟨_, by omega, i + 1, v6_, ls ++ [x], by omega, by omega, rfl, by simp; omega, hms, hB, hown6, hS.only _ ⟨rfl, rfl, rfl, rfl, rfl, rfl, rfl, rfl, trivial⟩⟩
  · skip
    refine seq_is hS (by decide) (runs_lss (r := false) rfl rfl (by rw [decide_eq_false_iff_not]; omega)) (fun a1 hS => ?_)
    obtain rfl : i = ws.length := by omega
    rw [List.take_of_length_le (by simp)] at hmm
    exact nil_ok ⟨_, hS.eval rfl, fun _ => h _ _ sv ls hmm hB hown (hS.only _ ⟨rfl, rfl, rfl, rfl, rfl, rfl, rfl, trivial⟩), fun h => by simp at h⟩
end Go.Proofs.YtdbibjcplakelaaDoor
