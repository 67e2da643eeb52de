/- Layer 5: twice, Check. Conditions: none of our own. -/
import Derived.Test.YtapcpmalgdhakaaGreatGCheck
namespace Go.Proofs.YtapcpmalgdhakaaGreat
open Go.RowKit
set_option maxRecDepth 100000

def place (e : E) : Nat := e.1.toNat * 64 + e.2.1.toNat
def seenL (l : List E) : List Value := (List.range 4096).map fun k => Value.bool (l.any fun e => place e == k)
theorem seenL_length (l : List E) : (seenL l).length = 4096 := by simp [seenL]
theorem seenL_get (l : List E) {k : Nat} (h : k < 4096) : (seenL l)[k]? = some (.bool (l.any fun e => place e == k)) := by
  simp [seenL, h]
theorem seenL_snoc (l : List E) (e : E) : seenL (l ++ [e]) = (seenL l).set (place e) (.bool true) := by
  apply List.ext_getElem?
  intro k
  rw [List.getElem?_set]
  by_cases hk : k < 4096
  · rw [seenL_get _ hk, seenL_get _ hk]
    by_cases he : place e = k
    · subst he
      rw [if_pos rfl, if_pos (by rw [seenL_length]; exact hk), List.any_append]
      simp
    · rw [if_neg he, List.any_append]
      simp [he]
  · rw [List.getElem?_eq_none (by rw [seenL_length]; omega), List.getElem?_eq_none (by rw [seenL_length]; omega)]
    by_cases he : place e = k
    · rw [if_pos he, if_neg (by rw [seenL_length]; omega)]
    · rw [if_neg he]
theorem inf68 : (Tryz.prog.info? 103).map (fun i => i.zero) = some (some (.agg (seenL []).toArray)) := by kernel_rfl
theorem und68 : Tryz.prog.underlying 103 = some (.array 64 102) := by kernel_rfl
theorem und67 : Tryz.prog.underlying 102 = some (.array 64 4) := by kernel_rfl
theorem siz67 : (Tryz.prog.info? 102).map (·.size) = some 64 := by kernel_rfl
theorem place_lt {e : E} (h : 0 ≤ e.1 ∧ e.1 < 64 ∧ 0 ≤ e.2.1 ∧ e.2.1 < 64) : place e < 4096 := by unfold place; omega
theorem place_same {a b : E} (ha : 0 ≤ a.1 ∧ a.1 < 64 ∧ 0 ≤ a.2.1 ∧ a.2.1 < 64) (hb : 0 ≤ b.1 ∧ b.1 < 64 ∧ 0 ≤ b.2.1 ∧ b.2.1 < 64) : place a = place b ↔ (a.1 = b.1 ∧ a.2.1 = b.2.1) := by unfold place; omega
def Fit64 (es : List E) : Prop := ∀ e ∈ es, 0 ≤ e.1 ∧ e.1 < 64 ∧ 0 ≤ e.2.1 ∧ e.2.1 < 64
theorem seen_no {es : List E} (hf : Fit64 es) {i : Nat} {e : E} (he : es[i]? = some e) (hp : (es.take i).Pairwise Apart) (hn : (es.take i).any (fun x => place x == place e) = false) : (es.take (i + 1)).Pairwise Apart := by
  rw [List.take_add_one, he, Option.toList_some, List.pairwise_append]
  refine ⟨hp, List.pairwise_singleton _ _, fun a ha b hb => ?_⟩
  rw [List.mem_singleton] at hb
  subst hb
  rw [List.any_eq_false] at hn
  have := hn a ha
  rw [beq_iff_eq, place_same (hf a (List.mem_of_mem_take ha)) (hf b (List.mem_of_getElem? he))] at this
  exact this
theorem seen_yes {es : List E} (hf : Fit64 es) {i : Nat} {e : E} (he : es[i]? = some e) (hn : (es.take i).any (fun x => place x == place e) = true) : twiceB es = true := by
  cases ht : twiceB es with
  | true => rfl
  | false =>
    have hp := (twice_iff es).1 ht
    have h2 := hp.sublist (List.take_sublist (i + 1) es)
    rw [List.take_add_one, he, Option.toList_some, List.pairwise_append] at h2
    rw [List.any_eq_true] at hn
    obtain ⟨x, hx, hxe⟩ := hn
    rw [beq_iff_eq, place_same (hf x (List.mem_of_mem_take hx)) (hf e (List.mem_of_getElem? he))] at hxe
    exact absurd hxe (h2.2.2 x hx e (by simp))
set_option maxHeartbeats 1000000 in
theorem twice_any (es : List E) (v : Value) (w : World) (hE : Edges w v es) (hf : Fit64 es) : Ans 61 [v] w (fun u w' => u = .bool (twiceB es) ∧ Below w.heap.size w w') := by
  have hE0 := hE
  obtain ⟨A, c, rfl, h1, h2, hA⟩ := hE
  unfold maxLen at h2
  obtain ⟨i68, hi68, hz68⟩ : ∃ ie, Tryz.prog.info? 103 = some ie ∧ ie.zero = some (.agg (seenL []).toArray) := by
    have h := inf68
    cases hi : Tryz.prog.info? 103 with
    | none => rw [hi] at h; cases h
    | some ie => rw [hi] at h; exact ⟨ie, rfl, by simpa using h⟩
  refine calls_qx (args := [.slice A es.length c]) 26 Tryz.func61 rfl (by kernel_rfl) (by simp) (fun a hS => ?_)
  refine qx_seq (reg_seq ?_)
  refine seq_is hS (by decide) (runs_assign rfl) (fun a1 hS => ?_)
  refine nil_ok (qx_seq (reg_seq ?_))
  refine seq_op hS (by decide) (runs_alloc hi68 hz68) (fun v1 w1 a1 hp1 hS => ?_)
  obtain ⟨rfl, hw1⟩ := hp1
  obtain ⟨hX, hB1⟩ : Has w1 w.heap.size 103 (seenL []) ∧ Below w.heap.size w w1 := by rw [hw1]; exact new_box w 103 (seenL [])
  clear hw1
  clear hz68 hi68
  generalize hgg : w.heap.size = g at *
  refine nil_ok (qx_seq (qx_seq (reg_seq ?_)))
  refine seq_is hS (by decide) (runs_move rfl) (fun a1 hS => ?_)
  refine seq_is hS (by decide) (runs_len rfl und22) (fun a1 hS => ?_)
  refine seq_is hS (by decide) (runs_move rfl) (fun a1 hS => ?_)
  refine nil_ok (qx_range (fun m a w' => ∃ i : Nat, i ≤ es.length ∧ m = es.length - i ∧ Below g w w' ∧ Has w' g 103 (seenL (es.take i)) ∧ (es.take i).Pairwise Apart ∧ Sees 26 [(8, .int .i64 (i : Int)), (7, .int .i64 ((es.length : Nat) : Int)), (6, .slice A es.length c), (3, .pointer (some ⟨g, 0, none⟩))] a) es.length ⟨0, by omega, by omega, hB1, hX, by simp, hS.only _ ⟨rfl, rfl, rfl, rfl, trivial⟩⟩ ?_)
  rintro m a w' ⟨i, hi, rfl, hB, hX, hpw, hS⟩
  refine reg_seq ?_
  by_cases hlt : i < es.length
  · skip
    obtain ⟨b, o, rfl, hb, hr⟩ := hA (by omega)
    obtain ⟨e, he⟩ : ∃ e, es[i]? = some e := ⟨_, List.getElem?_eq_getElem hlt⟩
    have hre := range_below (edges_at hr he) hB (by omega)
    have hfe := hf e (List.mem_of_getElem? he)
    have hpl := place_lt hfe
    refine seq_is hS (by decide) (runs_lss (r := true) rfl rfl (by rw [decide_eq_true_eq]; omega)) (fun a1 hS => ?_)
    refine nil_ok ⟨_, hS.eval rfl, fun h => by simp at h, fun _ => ?_⟩
    refine qx_seq (qx_block (qx_seq (reg_seq ?_)))
    refine seq_is hS (by decide) (runs_indexAddrG (j := i) rfl rfl und22 siz45 rfl hlt) (fun a1 hS => ?_)
    refine seq_is hS (by decide) (runs_loadE rfl hre) (fun a1 hS => ?_)
    refine seq_op hS (by decide) (runs_alloc45) (fun v2 wa2 a1 hp1 hS => ?_)
    obtain ⟨rfl, hwa2⟩ := hp1
    refine seq_none hS (runs_store45 rfl rfl (by rw [hwa2]; exact Has.new w' 48 [.int .i64 0, .int .i64 0, .int .i64 0]) rfl) (fun v2 w2 a1 hp1 hS => ?_)
    obtain ⟨rfl, hwb2⟩ := hp1
    obtain ⟨hE2, hB2⟩ : Has w2 w'.heap.size 48 (encE e) ∧ Below w'.heap.size w' w2 := by rw [hwb2, hwa2]; exact new_row w' 48 [.int .i64 0, .int .i64 0, .int .i64 0] (encE e)
    clear hwb2 hwa2
    have hXo := hX
    have hX := hX.below hB2 hX.lt
    have hB : Below g w w2 := hB.trans (hB2.mono (Nat.le_of_lt hXo.lt))
    generalize hge : w'.heap.size = ge at *
    have hc1 : w2.cell? ⟨g, 0 + e.1.toNat * 64 + e.2.1.toNat * 1, none⟩ = some (.bool ((es.take i).any fun x => place x == place e)) := by
      rw [hX.cell, show 0 + e.1.toNat * 64 + e.2.1.toNat * 1 = place e by unfold place; omega, seenL_get _ hpl]
    refine nil_ok ?_
    refine qx_seq (qx_seq (reg_guard (fun w3 => Below w2.heap.size w2 w3) [.inl (.pointer (some ⟨ge, 0 + 0, none⟩)), .inl (.int .i64 e.1), .inl (.pointer (some ⟨ge, 0 + 1, none⟩)), .inl (.int .i64 e.2.1), .inl (.pointer (some ⟨g, 0 + e.1.toNat * 64, none⟩)), .inl (.pointer (some ⟨g, 0 + e.1.toNat * 64 + e.2.1.toNat * 1, none⟩)), .inl (.bool ((es.take i).any fun x => place x == place e))] 7 0 mixed rfl (by kernel_rfl) hS (Below.refl _ _) (fun _ h => h.drew) ?_))
    refine hs_is rfl (fun w' hw => runs_f45 (by decide) rfl) ?_
    refine hs_is rfl (fun w' hw => runs_load0 rfl (hE2.below hw hE2.lt)) ?_
    refine hs_is rfl (fun w' hw => runs_f45 (by decide) rfl) ?_
    refine hs_is rfl (fun w' hw => runs_load1 rfl (hE2.below hw hE2.lt)) ?_
    refine hs_is rfl (fun w' hw => runs_indexArrG (j := e.1.toNat) rfl rfl und68 siz67 (by omega) (by omega)) ?_
    refine hs_is rfl (fun w' hw => runs_indexArrG (j := e.2.1.toNat) rfl rfl und67 siz4 (by omega) (by omega)) ?_
    refine hs_is rfl (fun w' hw => runs_load rfl und_plain4 (by rw [hw.cell (p := ⟨g, 0 + e.1.toNat * 64 + e.2.1.toNat * 1, none⟩) hX.lt]; exact hc1)) ?_
    refine (fun a5 w5 hS5 hB5 _ => ?_)
    refine wpAnyH_done (by kernel_rfl) ?_ _
    have hX := hX.below hB5 hX.lt
    have hE2 := hE2.below hB5 hE2.lt
    have hB : Below g w w5 := hB.trans (hB5.mono (Nat.le_of_lt (by have := hB.size; have := hXo.lt; have := hB2.size; omega)))
    have hS := hS5
    cases hany : (es.take i).any (fun x => place x == place e) with
    | true =>
      rw [hany] at hS
      refine wp_cond_true (hS.eval rfl) (qx_seq (reg_seq ?_))
      refine seq_is hS (by decide) (runs_assign rfl) (fun a1 hS => ?_)
      exact nil_ok (qx_ret (ret1 (t := 2) (by kernel_rfl) hS rfl ⟨_, rfl, by rw [seen_yes hf he hany], hB⟩))
    | false =>
      rw [hany] at hS
      refine wp_cond_false (hS.eval rfl) (wp_skip ?_)
      refine reg_guard (fun w3 => Below w5.heap.size w5 w3) [.inl (.pointer (some ⟨ge, 0 + 0, none⟩)), .inl (.int .i64 e.1), .inl (.pointer (some ⟨ge, 0 + 1, none⟩)), .inl (.int .i64 e.2.1), .inl (.pointer (some ⟨g, 0 + e.1.toNat * 64, none⟩)), .inl (.pointer (some ⟨g, 0 + e.1.toNat * 64 + e.2.1.toNat * 1, none⟩))] 6 1 mixed rfl (by kernel_rfl) hS (Below.refl _ _) (fun _ h => h.drew) ?_
      refine hs_is rfl (fun w' hw => runs_f45 (by decide) rfl) ?_
      refine hs_is rfl (fun w' hw => runs_load0 rfl (hE2.below hw hE2.lt)) ?_
      refine hs_is rfl (fun w' hw => runs_f45 (by decide) rfl) ?_
      refine hs_is rfl (fun w' hw => runs_load1 rfl (hE2.below hw hE2.lt)) ?_
      refine hs_is rfl (fun w' hw => runs_indexArrG (j := e.1.toNat) rfl rfl und68 siz67 (by omega) (by omega)) ?_
      refine hs_is rfl (fun w' hw => runs_indexArrG (j := e.2.1.toNat) rfl rfl und67 siz4 (by omega) (by omega)) ?_
      refine (fun a6 w6 hS6 hB6 _ => ?_)
      have hX := hX.below hB6 hX.lt
      have hB : Below g w w6 := hB.trans (hB6.mono (by have := hB.size; omega))
      refine tail_none 6 (by kernel_rfl) rfl hS6 (runs_store rfl rfl rfl siz4 (u := .bool ((es.take i).any fun x => place x == place e)) (by rw [hX.cell, show 0 + e.1.toNat * 64 + e.2.1.toNat * 1 = place e by unfold place; omega, seenL_get _ hpl]) (hX.open_ _)) (fun v7 w7 a7 hp7 hS7 => ⟨trivial, ?_⟩)
      obtain ⟨rfl, rfl⟩ := hp7
      refine wpAnyH_done (by kernel_rfl) ?_ _
      have hX := hX.set_ (0 + e.1.toNat * 64 + e.2.1.toNat * 1) (.bool true)
      rw [show 0 + e.1.toNat * 64 + e.2.1.toNat * 1 = place e by unfold place; omega, ← seenL_snoc] at hX
      rw [show 0 + e.1.toNat * 64 + e.2.1.toNat * 1 = place e by unfold place; omega]
      have hS := hS7
      have hB : Below g w (w6.setCell ⟨g, place e, none⟩ (.bool true)) := hB.setCell (p := ⟨g, place e, none⟩) (Nat.le_refl _) _
      refine reg_seq ?_
      refine seq_is hS (by decide) (runs_add (r := ((i + 1 : Nat) : Int)) rfl rfl (by simp [IntKind.wrap, IntKind.bits, IntKind.signed]; omega)) (fun a1 hS => ?_)
      refine seq_is hS (by decide) (runs_move rfl) (fun a1 hS => ?_)
      exact nil_ok ⟨_, by omega, i + 1, by omega, rfl, hB, by rw [List.take_add_one, he]; exact hX, seen_no hf he hpw hany, hS.only _ ⟨rfl, rfl, rfl, rfl, trivial⟩⟩
  · skip
    refine seq_is hS (by decide) (runs_lss (r := false) rfl rfl (by rw [decide_eq_false_iff_not]; omega)) (fun a1 hS => ?_)
    refine nil_ok ⟨_, hS.eval rfl, fun _ => ?_, fun h => by simp at h⟩
    refine qx_seq (reg_seq ?_)
    refine seq_is hS (by decide) (runs_assign rfl) (fun a1 hS => ?_)
    rw [List.take_of_length_le (by omega)] at hpw
    exact nil_ok (qx_ret (ret1 (t := 2) (by kernel_rfl) hS rfl ⟨_, rfl, by rw [(twice_iff es).2 hpw], hB⟩))
set_option maxHeartbeats 1000000 in
theorem check_any (n : Int) (es : List E) (v : Value) (w : World) (hE : Edges w v es) : Ans 39 [gv n v] w (fun u w' => u = .int .i64 (checkZ n es) ∧ Below w.heap.size w w') := by
  have hE0 := hE
  obtain ⟨A, c, rfl, h1, h2, hA⟩ := hE
  refine calls_qx (args := [gv n (.slice A es.length c)]) 11 Tryz.func39 rfl (by kernel_rfl) (by simp) (fun a hS => ?_)
  refine qx_seq (reg_seq ?_)
  refine seq_op hS (by decide) (runs_box rfl) (fun v1 w1 a1 hp1 hS => ?_)
  obtain ⟨rfl, hw1⟩ := hp1
  obtain ⟨hG, hB1⟩ : Has w1 w.heap.size 24 [.int .i64 n, .slice A es.length c] ∧ Below w.heap.size w w1 := by rw [hw1]; exact new_box w 24 [.int .i64 n, .slice A es.length c]
  clear hw1
  have hE := hE0.kept hB1
  refine seq_is hS (by decide) (runs_assign rfl) (fun a1 hS => ?_)
  refine nil_ok (qx_seq (qx_block (qx_seq (reg_seq ?_))))
  refine seq_is hS (by decide) (runs_loadG rfl hG) (fun a1 hS => ?_)
  refine seq_op hS (by decide) (runs_call (args := [gv n (.slice A es.length c)]) goes60 rfl (formed_any n es _ w1 hE)) (fun v2 w2 a2 hp2 hS => ?_)
  obtain ⟨rfl, hB2⟩ := hp2
  have hG := hG.below hB2 hG.lt
  have hE := hE.kept hB2
  have hB := hB1.trans (hB2.mono hB1.size)
  refine seq_is hS (by decide) (runs_not rfl) (fun a1 hS => ?_)
  refine seq_is hS (by decide) (runs_assign rfl) (fun a1 hS => ?_)
  cases hf : formedB n es with
  | false =>
    rw [hf] at hS
    refine nil_ok (wp_cond_true (hS.eval rfl) (qx_seq (reg_seq ?_)))
    refine seq_is hS (by decide) (runs_assign rfl) (fun a1 hS => ?_)
    exact nil_ok (qx_ret (ret1 (t := 2) (by kernel_rfl) hS rfl ⟨_, rfl, by simp [checkZ, hf], hB⟩))
  | true =>
    rw [hf] at hS
    have hfi := (formed_iff n es).1 hf
    have h64 : Fit64 es := fun e he => by have := (okE_iff n e).1 (hfi.2.2.2 e he); omega
    refine nil_ok (wp_cond_false (hS.eval rfl) (qx_seq (reg_seq ?_)))
    refine seq_is hS (by decide) (runs_f24 (by decide) rfl) (fun a1 hS => ?_)
    refine seq_is hS (by decide) (runs_loadV rfl hG) (fun a1 hS => ?_)
    refine seq_op hS (by decide) (runs_call (args := [.slice A es.length c]) goes61 rfl (twice_any es _ w2 hE h64)) (fun v3 w3 a3 hp3 hS => ?_)
    obtain ⟨rfl, hB3⟩ := hp3
    have hB := hB.trans (hB3.mono hB.size)
    refine seq_is hS (by decide) (runs_assign rfl) (fun a1 hS => ?_)
    cases ht : twiceB es with
    | true =>
      rw [ht] at hS
      refine nil_ok (wp_cond_true (hS.eval rfl) (qx_seq (reg_seq ?_)))
      refine seq_is hS (by decide) (runs_assign rfl) (fun a1 hS => ?_)
      exact nil_ok (qx_ret (ret1 (t := 2) (by kernel_rfl) hS rfl ⟨_, rfl, by simp [checkZ, hf, ht], hB⟩))
    | false =>
      rw [ht] at hS
      refine nil_ok (wp_cond_false (hS.eval rfl) (wp_skip (qx_seq (reg_seq ?_))))
      refine seq_is hS (by decide) (runs_assign rfl) (fun a1 hS => ?_)
      exact nil_ok (qx_ret (ret1 (t := 2) (by kernel_rfl) hS rfl ⟨_, rfl, by simp [checkZ, hf, ht], hB⟩))
end Go.Proofs.YtapcpmalgdhakaaGreat
