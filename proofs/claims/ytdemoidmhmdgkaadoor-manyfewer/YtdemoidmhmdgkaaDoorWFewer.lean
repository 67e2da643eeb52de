/- The walk of ManyFewer. Conditions: the table of constants lies as it was laid. -/
import Derived.Test.YtdemoidmhmdgkaaDoorMAwake
namespace Go.Proofs.YtdemoidmhmdgkaaDoor
open Go.RowKit Many
set_option maxRecDepth 100000

theorem size_one (m x : Nat) (hx : x < m) (hm : m ≤ 65536) : sizeZ (m : Int) (ofN [x]) = (Tree.path 0 m x).length := by
  have hrp : risesB (m : Int) (-1) (ofN [x]) = true := rises_of m [x] (-1) ⟨by omega, hx, trivial⟩ (by omega)
  have ha : askB (m : Int) (ofN [x]) = true := by
    unfold askB
    rw [hrp, show decide ((0 : Int) ≤ m) = true by simp, show decide ((m : Int) ≤ 65536) = true by simp; omega]; rfl
  unfold sizeZ
  rw [if_pos ha, toN_of, ← parts_one]; simp
section
variable {P : Program} {n : Nat} {L : List (Nat × Value)} {a : Act} {w : World} {ops : Array Oper} {Q : Exit → Act → World → Prop} {ty : TypeId}
/-- Guarded by one that is not wanted itself. -/
theorem seq_skip2 {op : Op} {pos : String} {aft : Array Edge} {d j dj : Nat} {c : Bool} {rest : List Oper} (hS : Sees n L a) (hd : d < n) (ho : (ops[j]?).bind (·.dst) = some dj) (hdj : dj < n) (hv : look L dj = some undef)
    (h : ∀ a', Sees n ((d, undef) :: L) a' → wpList P ops Q rest a' w) : wpList P ops Q (⟨some d, op, ty, pos, aft, some (j, c)⟩ :: rest) a w := by
  have hy : yielded ops a.tmps j = none := by
    have hs := hS.2.2 dj undef hv
    have hsz : dj < a.tmps.size := by rw [hS.1]; exact hdj
    have h2 : a.tmps[dj]? = some undef := by
      rw [Array.getElem?_eq_getElem hsz]
      have : a.tmps[dj] = undef := by simpa [hsz] using hs
      rw [this]
    simp only [yielded, ho, Option.bind_some, h2, undef]
  unfold wpList
  rw [if_neg (by simp [Region.wanted, hy])]
  exact h _ (hS.put hd undef)
end
set_option maxHeartbeats 2000000 in
theorem fewer_walk (n : Int) (v : Value) (xs : List Int) (w : World) (hs : Ints w v xs) (hk : Kept w) : Calls Tryd.prog 9 #[.int .i64 n, v] w fun e w' => e = .returned (.bool true) ∧ Below w.heap.size w w' := by
  obtain ⟨A, c, rfl, hc1, hc2, hA0⟩ := id hs
  unfold maxLen at hc2
  refine calls_qx (args := [.int .i64 n, .slice A xs.length c]) 77 Tryd.func9 rfl (by kernel_rfl) (by simp) (fun a hS => ?_)
  refine qx_seq (reg_seq ?_)
  refine seq_is hS (by decide) (runs_assign rfl) (fun a1 hS => ?_)
  refine nil_ok (qx_seq (qx_seq (reg_seq ?_)))
  refine seq_op hS (by decide) (runs_call (args := []) goes19 rfl (awakeM_call w hk)) (fun v1 w1 a1 hp1 hS => ?_)
  obtain ⟨rfl, hB1⟩ := hp1
  have hk1 := hk.below hB1 hk.pos
  have hs1 := hs.kept hB1
  refine seq_is hS (by decide) (runs_not (b := true) rfl) (fun a1 hS => ?_)
  refine seq_is hS (by decide) (runs_move rfl) (fun a1 hS => ?_)
  refine seq_yis hS (by decide) rfl (by decide) rfl (runs_move rfl) (fun a1 hS => ?_)
  have last : ∀ (L : List (Nat × Value)) (a9 : Act) (N : Act → World → Prop) (X : Nat → Act → World → Prop), Sees 77 L a9 → ((Tryd.f9.body.bind (regionIn 2)).getD .skip).wp Tryd.prog (Qx (fun a' w' => Code.ret.wp Tryd.prog (Qx N X (Rets Tryd.prog Tryd.f9 (fun e w' => e = .returned (.bool true) ∧ Below w.heap.size w w'))) a' w') X (Rets Tryd.prog Tryd.f9 (fun e w' => e = .returned (.bool true) ∧ Below w.heap.size w w'))) a9 w1 := fun L a9 N X hS => by
    refine reg_seq ?_
    refine seq_op hS (by decide) (runs_call (args := []) goes19 rfl (awakeM_call w1 hk1)) (fun v2 w2 a2 hp2 hS => ?_)
    obtain ⟨rfl, hB2⟩ := hp2
    refine seq_is hS (by decide) (runs_assign rfl) (fun a1 hS => ?_)
    exact nil_ok (qx_ret (ret1 (t := 4) (by kernel_rfl) hS rfl ⟨rfl, hB1.trans (hB2.mono hB1.size)⟩))
  obtain ⟨i3, hi3, hz3, hzs3, hzb3⟩ := info_parts infInt
  by_cases h0 : n < 1
  · refine seq_yis hS (by decide) rfl (by decide) rfl (runs_lss (r := true) rfl rfl (by rw [decide_eq_true_eq]; omega)) (fun a1 hS => ?_)
    refine seq_is hS (by decide) (runs_pick rfl rfl) (fun a1 hS => ?_)
    refine seq_is hS (by decide) (runs_move rfl) (fun a1 hS => ?_)
    refine seq_no hS (by decide) rfl (by decide) rfl rfl (fun a1 hS => ?_)
    refine seq_no hS (by decide) rfl (by decide) rfl rfl (fun a1 hS => ?_)
    refine seq_is hS (by decide) (runs_pick rfl rfl) (fun a1 hS => ?_)
    refine seq_is hS (by decide) (runs_move rfl) (fun a1 hS => ?_)
    refine seq_no hS (by decide) rfl (by decide) rfl rfl (fun a1 hS => ?_)
    refine seq_no hS (by decide) rfl (by decide) rfl rfl (fun a1 hS => ?_)
    refine seq_no hS (by decide) rfl (by decide) rfl rfl (fun a1 hS => ?_)
    refine seq_is hS (by decide) (runs_pick rfl rfl) (fun a1 hS => ?_)
    refine seq_is hS (by decide) (runs_move rfl) (fun a1 hS => ?_)
    refine seq_no hS (by decide) rfl (by decide) rfl rfl (fun a1 hS => ?_)
    refine seq_no hS (by decide) rfl (by decide) rfl rfl (fun a1 hS => ?_)
    refine seq_no hS (by decide) rfl (by decide) rfl rfl (fun a1 hS => ?_)
    refine seq_no hS (by decide) rfl (by decide) rfl rfl (fun a1 hS => ?_)
    refine seq_no hS (by decide) rfl (by decide) rfl rfl (fun a1 hS => ?_)
    refine seq_no hS (by decide) rfl (by decide) rfl rfl (fun a1 hS => ?_)
    refine seq_is hS (by decide) (runs_pick rfl rfl) (fun a1 hS => ?_)
    exact nil_ok (wp_cond_true (hS.eval rfl) (qx_seq (last _ _ _ _ hS)))
  refine seq_yis hS (by decide) rfl (by decide) rfl (runs_lss (r := false) rfl rfl (by rw [decide_eq_false_iff_not]; omega)) (fun a1 hS => ?_)
  refine seq_is hS (by decide) (runs_pick rfl rfl) (fun a1 hS => ?_)
  refine seq_is hS (by decide) (runs_move rfl) (fun a1 hS => ?_)
  refine seq_yis hS (by decide) rfl (by decide) rfl (runs_move rfl) (fun a1 hS => ?_)
  by_cases h1 : 100 < n
  · refine seq_yis hS (by decide) rfl (by decide) rfl (runs_gtr (r := true) rfl rfl (by rw [decide_eq_true_eq]; omega)) (fun a1 hS => ?_)
    refine seq_is hS (by decide) (runs_pick rfl rfl) (fun a1 hS => ?_)
    refine seq_is hS (by decide) (runs_move rfl) (fun a1 hS => ?_)
    refine seq_no hS (by decide) rfl (by decide) rfl rfl (fun a1 hS => ?_)
    refine seq_no hS (by decide) rfl (by decide) rfl rfl (fun a1 hS => ?_)
    refine seq_no hS (by decide) rfl (by decide) rfl rfl (fun a1 hS => ?_)
    refine seq_is hS (by decide) (runs_pick rfl rfl) (fun a1 hS => ?_)
    refine seq_is hS (by decide) (runs_move rfl) (fun a1 hS => ?_)
    refine seq_no hS (by decide) rfl (by decide) rfl rfl (fun a1 hS => ?_)
    refine seq_no hS (by decide) rfl (by decide) rfl rfl (fun a1 hS => ?_)
    refine seq_no hS (by decide) rfl (by decide) rfl rfl (fun a1 hS => ?_)
    refine seq_no hS (by decide) rfl (by decide) rfl rfl (fun a1 hS => ?_)
    refine seq_no hS (by decide) rfl (by decide) rfl rfl (fun a1 hS => ?_)
    refine seq_no hS (by decide) rfl (by decide) rfl rfl (fun a1 hS => ?_)
    refine seq_is hS (by decide) (runs_pick rfl rfl) (fun a1 hS => ?_)
    exact nil_ok (wp_cond_true (hS.eval rfl) (qx_seq (last _ _ _ _ hS)))
  refine seq_yis hS (by decide) rfl (by decide) rfl (runs_gtr (r := false) rfl rfl (by rw [decide_eq_false_iff_not]; omega)) (fun a1 hS => ?_)
  refine seq_is hS (by decide) (runs_pick rfl rfl) (fun a1 hS => ?_)
  refine seq_is hS (by decide) (runs_move rfl) (fun a1 hS => ?_)
  refine seq_yis hS (by decide) rfl (by decide) rfl (runs_move rfl) (fun a1 hS => ?_)
  refine seq_yis hS (by decide) rfl (by decide) rfl (runs_len rfl undInts) (fun a1 hS => ?_)
  by_cases h2 : 30 < xs.length
  · refine seq_yis hS (by decide) rfl (by decide) rfl (runs_gtr (r := true) rfl rfl (by rw [decide_eq_true_eq]; omega)) (fun a1 hS => ?_)
    refine seq_is hS (by decide) (runs_pick rfl rfl) (fun a1 hS => ?_)
    refine seq_is hS (by decide) (runs_move rfl) (fun a1 hS => ?_)
    refine seq_no hS (by decide) rfl (by decide) rfl rfl (fun a1 hS => ?_)
    refine seq_no hS (by decide) rfl (by decide) rfl rfl (fun a1 hS => ?_)
    refine seq_no hS (by decide) rfl (by decide) rfl rfl (fun a1 hS => ?_)
    refine seq_no hS (by decide) rfl (by decide) rfl rfl (fun a1 hS => ?_)
    refine seq_no hS (by decide) rfl (by decide) rfl rfl (fun a1 hS => ?_)
    refine seq_no hS (by decide) rfl (by decide) rfl rfl (fun a1 hS => ?_)
    refine seq_is hS (by decide) (runs_pick rfl rfl) (fun a1 hS => ?_)
    exact nil_ok (wp_cond_true (hS.eval rfl) (qx_seq (last _ _ _ _ hS)))
  refine seq_yis hS (by decide) rfl (by decide) rfl (runs_gtr (r := false) rfl rfl (by rw [decide_eq_false_iff_not]; omega)) (fun a1 hS => ?_)
  refine seq_is hS (by decide) (runs_pick rfl rfl) (fun a1 hS => ?_)
  refine seq_is hS (by decide) (runs_move rfl) (fun a1 hS => ?_)
  refine seq_yis hS (by decide) rfl (by decide) rfl (runs_move rfl) (fun a1 hS => ?_)
  refine seq_yes hS (by decide) rfl (by decide) rfl (runs_buildNone undInts hi3) (fun v2 w2 a2 hp2 hS => ?_)
  obtain ⟨rfl, rfl⟩ := hp2
  have hB2 : Below w1.heap.size w1 (w1.alloc (.cells #[] 3)) := (Below.refl _ _).alloc (Nat.le_refl _) _
  generalize w1.alloc (.cells #[] 3) = w2 at *
  refine seq_yis hS (by decide) rfl (by decide) rfl (runs_move rfl) (fun a1 hS => ?_)
  refine seq_yes hS (by decide) rfl (by decide) rfl (copy_ints (hs1.kept hB2) (by omega) rfl rfl) (fun v3 w3 a3 hp3 hS => ?_)
  obtain ⟨hs3, hB3⟩ := hp3
  have hB13 : Below w1.heap.size w1 w3 := hB2.trans (hB3.mono hB2.size)
  refine seq_yis hS (by decide) rfl (by decide) rfl (runs_call (args := [.int .i64 n, v3]) goes22 rfl (rises_call n xs v3 w3 hs3)) (fun a1 hS => ?_)
  have hBw3 : Below w.heap.size w w3 := hB1.trans (hB13.mono hB1.size)
  have hk3 := hk.below hBw3 hk.pos
  have last : ∀ (L : List (Nat × Value)) (a9 : Act) (N : Act → World → Prop) (X : Nat → Act → World → Prop), Sees 77 L a9 → ((Tryd.f9.body.bind (regionIn 2)).getD .skip).wp Tryd.prog (Qx (fun a' w' => Code.ret.wp Tryd.prog (Qx N X (Rets Tryd.prog Tryd.f9 (fun e w' => e = .returned (.bool true) ∧ Below w.heap.size w w'))) a' w') X (Rets Tryd.prog Tryd.f9 (fun e w' => e = .returned (.bool true) ∧ Below w.heap.size w w'))) a9 w3 := fun L a9 N X hS => by
    refine reg_seq ?_
    refine seq_op hS (by decide) (runs_call (args := []) goes19 rfl (awakeM_call w3 hk3)) (fun v2 w2 a2 hp2 hS => ?_)
    obtain ⟨rfl, hB2⟩ := hp2
    refine seq_is hS (by decide) (runs_assign rfl) (fun a1 hS => ?_)
    exact nil_ok (qx_ret (ret1 (t := 4) (by kernel_rfl) hS rfl ⟨rfl, hBw3.trans (hB2.mono hBw3.size)⟩))
  cases hr : risesB n (-1) xs with
  | false =>
    rw [hr] at hS
    refine seq_yis hS (by decide) rfl (by decide) rfl (runs_not (b := false) rfl) (fun a1 hS => ?_)
    refine seq_is hS (by decide) (runs_pick rfl rfl) (fun a1 hS => ?_)
    exact nil_ok (wp_cond_true (hS.eval rfl) (qx_seq (last _ _ _ _ hS)))
  | true =>
    rw [hr] at hS
    refine seq_yis hS (by decide) rfl (by decide) rfl (runs_not (b := true) rfl) (fun a1 hS => ?_)
    refine seq_is hS (by decide) (runs_pick rfl rfl) (fun a1 hS => ?_)
    refine nil_ok (wp_cond_false (hS.eval rfl) (wp_skip ?_))
    obtain ⟨m, rfl⟩ := Int.eq_ofNat_of_zero_le (show 0 ≤ n by omega)
    obtain ⟨hex, hrn⟩ := of_toN hr
    rw [Int.toNat_natCast] at hrn
    generalize toN xs = l at *
    subst hex
    have hll : (ofN l).length = l.length := by simp [ofN]
    have hask : askB (m : Int) (ofN l) = true := by
      unfold askB
      rw [hr, show decide ((0 : Int) ≤ m) = true by simp, show decide ((m : Int) ≤ 65536) = true by simp; omega]; rfl
    have hs3' := hs1.kept hB13
    obtain ⟨A5, c5, e5, _, _, hA5⟩ := id hs3'
    simp only [Value.slice.injEq, true_and] at e5
    obtain ⟨rfl, rfl⟩ := e5
    refine qx_seq (reg_seq ?_)
    refine seq_is hS (by decide) (runs_assign rfl) (fun a1 hS => ?_)
    refine nil_ok (qx_seq (qx_seq (reg_seq ?_)))
    refine seq_is hS (by decide) (runs_assign rfl) (fun a1 hS => ?_)
    refine nil_ok (qx_for (fun k a w' => ∃ i, i ≤ l.length ∧ k = l.length - i ∧ Below w3.heap.size w3 w' ∧ Sees 77 [(6, .int .i64 (i : Int)), (5, .int .i64 ((((l.take i).map (fun x => (Tree.path 0 m x).length)).sum : Nat) : Int)), (1, .slice A (ofN l).length c), (0, .int .i64 (m : Int))] a) l.length ⟨0, by omega, by omega, Below.refl _ _, hS.only _ ⟨rfl, rfl, rfl, rfl, trivial⟩⟩ ?_)
    rintro k a w' ⟨i, hi, rfl, hBi, hS⟩
    have hsum : ∀ j, j ≤ l.length → ((l.take j).map (fun x => (Tree.path 0 m x).length)).sum ≤ j * 7 := by
      intro j
      induction j with
      | zero => intro _; simp
      | succ j ih =>
        intro hj
        have := ih (by omega)
        have hp := path_len 7 m 0 l[j] (by omega)
        rw [List.take_add_one, List.getElem?_eq_getElem (by omega)]
        simp only [Option.toList_some, List.map_append, List.map_cons, List.map_nil, List.sum_append, List.sum_cons, List.sum_nil]
        omega
    have hsi := hsum i hi
    refine reg_seq ?_
    refine seq_is hS (by decide) (runs_move rfl) (fun a1 hS => ?_)
    refine seq_is hS (by decide) (runs_move rfl) (fun a1 hS => ?_)
    refine seq_is hS (by decide) (runs_len rfl undInts) (fun a1 hS => ?_)
    by_cases hlt : i < l.length
    · obtain ⟨b, o, rfl, hb, hcell⟩ := hA5 (by omega)
      have hci := hcell i (by omega)
      have hgi : (ofN l).getD i 0 = ((l[i] : Nat) : Int) := by simp [ofN, hlt]
      rw [hgi] at hci
      have hmem := hrn.mem l[i] (List.getElem_mem hlt)
      have htk : l.take (i + 1) = l.take i ++ [l[i]] := by rw [List.take_add_one, List.getElem?_eq_getElem hlt]; rfl
      have hsi1 := hsum (i + 1) (by omega)
      have hse : ((l.take (i + 1)).map (fun x => (Tree.path 0 m x).length)).sum = ((l.take i).map (fun x => (Tree.path 0 m x).length)).sum + (Tree.path 0 m l[i]).length := by simp only [htk, List.map_append, List.map_cons, List.map_nil, List.sum_append, List.sum_cons, List.sum_nil, Nat.add_zero]
      generalize l[i] = x at *
      have hdz : deepZ (m : Int) (x : Int) = (Tree.path 0 m x).length := deepZ_nat (by omega) hmem.2
      generalize hA : ((l.take i).map (fun x => (Tree.path 0 m x).length)).sum = sm at *
      refine seq_is hS (by decide) (runs_lss (r := true) rfl rfl (by rw [decide_eq_true_eq]; omega)) (fun a1 hS => ?_)
      refine nil_ok ⟨_, hS.eval rfl, fun h => by simp at h, fun _ => ?_⟩
      refine qx_seq (qx_block (qx_seq (reg_seq ?_)))
      have hS := hS.only [(6, .int .i64 (i : Int)), (5, .int .i64 (sm : Int)), (1, .slice (some ⟨b, o, none⟩) (ofN l).length c), (0, .int .i64 (m : Int))] ⟨rfl, rfl, rfl, rfl, trivial⟩
      refine seq_is hS (by decide) (runs_move rfl) (fun a1 hS => ?_)
      refine seq_is hS (by decide) (runs_move rfl) (fun a1 hS => ?_)
      refine seq_is hS (by decide) (runs_move rfl) (fun a1 hS => ?_)
      refine seq_is hS (by decide) (runs_move rfl) (fun a1 hS => ?_)
      refine seq_is hS (by decide) (runs_indexAddr (j := i) rfl rfl undInts infInt1 rfl (by omega)) (fun a1 hS => ?_)
      refine seq_is hS (by decide) (runs_load rfl (by kernel_rfl) (by rw [hBi.cell (p := ⟨b, o + i, none⟩) hb]; exact hci)) (fun a1 hS => ?_)
      refine seq_op hS (by decide) (runs_call (args := [.int .i64 (m : Int), .int .i64 (x : Int)]) (Post := fun v w2 => v = .int .i64 (((Tree.path 0 m x).length : Nat) : Int) ∧ Below w'.heap.size w' w2) goes32 rfl ((deep_any m x w').mono (by rintro e w2 ⟨rfl, h⟩; exact ⟨_, rfl, by rw [hdz], h⟩))) (fun v6 w6 a6 hp6 hS => ?_)
      obtain ⟨rfl, hB6⟩ := hp6
      have hBi6 : Below w3.heap.size w3 w6 := hBi.trans (hB6.mono hBi.size)
      refine seq_is hS (by decide) (runs_add rfl rfl ((IntWalk.i64_in _ (by omega)).trans (show _ = ((sm + (Tree.path 0 m x).length : Nat) : Int) by omega))) (fun a1 hS => ?_)
      refine seq_is hS (by decide) (runs_assign rfl) (fun a1 hS => ?_)
      refine nil_ok (qx_seq ?_)
      have hS := hS.only [(6, .int .i64 (i : Int)), (5, .int .i64 ((sm + (Tree.path 0 m x).length : Nat) : Int)), (1, .slice (some ⟨b, o, none⟩) (ofN l).length c), (0, .int .i64 (m : Int))] ⟨rfl, rfl, rfl, rfl, trivial⟩
      refine reg_guard (fun w' => Below w6.heap.size w6 w') [.inl (.int .i64 (m : Int)), .inl (.slice (some ⟨b, o, none⟩) (ofN l).length c), .inl (.int .i64 (i : Int)), .inl (.pointer (some ⟨b, o + i, none⟩)), .inl (.int .i64 (x : Int)), .inr (fun v w' => Ints w' v (ofN [x])), .inl (.int .i64 (((Tree.path 0 m x).length : Nat) : Int)), .inl (.int .i64 (m : Int)), .inl (.slice (some ⟨b, o, none⟩) (ofN l).length c), .inl (.int .i64 (i : Int)), .inl (.pointer (some ⟨b, o + i, none⟩)), .inl (.int .i64 (x : Int)), .inl (.int .i64 (((Tree.path 0 m x).length : Nat) : Int)), .inl (.bool false)] 14 0 mixed rfl (by kernel_rfl) hS (Below.refl _ _) (fun _ h => h.drew) ?_
      refine hs_is rfl (fun w' hw => runs_move rfl) ?_
      refine hs_is rfl (fun w' hw => runs_move rfl) ?_
      refine hs_is rfl (fun w' hw => runs_move rfl) ?_
      refine hs_is rfl (fun w' hw => runs_indexAddr (j := i) rfl rfl undInts infInt1 rfl (by omega)) ?_
      refine hs_is rfl (fun w' hw => runs_load rfl (by kernel_rfl) (by rw [hw.cell (p := ⟨b, o + i, none⟩) (Nat.lt_of_lt_of_le hb hBi6.size), hBi6.cell (p := ⟨b, o + i, none⟩) hb]; exact hci)) ?_
      refine hs_pr rfl (fun _ _ _ h hb => h.kept hb) (fun w' hw hq => (runs_buildSlice (pv := [(0, .int .i64 (x : Int))]) rfl undInts hi3 hz3 hzs3 (by omega) (by omega) (cells := #[.int .i64 (x : Int)]) (by kernel_rfl)).mono (by rintro v w2 ⟨rfl, rfl⟩; exact ⟨ints_has (xs := ofN [x]) (Has.new w' 3 [.int .i64 (x : Int)]) (by simp [ofN]), hw.alloc hw.size _, (Below.refl _ _).alloc (Nat.le_refl _) _⟩)) (fun v51 => ?_)
      refine hs_val rfl (fun w' hw hq => runs_call (args := [.int .i64 (m : Int), v51]) goes23 rfl ((size_any m (ofN [x]) v51 w' (hq (5, _) List.mem_cons_self (by kernel_rfl))).mono (by rintro e w2 ⟨rfl, rfl⟩; exact ⟨_, rfl, by rw [size_one m x hmem.2 (by omega)], hw, Below.refl _ _⟩))) ?_
      refine hs_is rfl (fun w' hw => runs_move rfl) ?_
      refine hs_is rfl (fun w' hw => runs_move rfl) ?_
      refine hs_is rfl (fun w' hw => runs_move rfl) ?_
      refine hs_is rfl (fun w' hw => runs_indexAddr (j := i) rfl rfl undInts infInt1 rfl (by omega)) ?_
      refine hs_is rfl (fun w' hw => runs_load rfl (by kernel_rfl) (by rw [hw.cell (p := ⟨b, o + i, none⟩) (Nat.lt_of_lt_of_le hb hBi6.size), hBi6.cell (p := ⟨b, o + i, none⟩) hb]; exact hci)) ?_
      refine hs_val rfl (fun w' hw hq => runs_call (args := [.int .i64 (m : Int), .int .i64 (x : Int)]) goes32 rfl ((deep_any m x w').mono (by rintro e w2 ⟨rfl, h⟩; exact ⟨_, rfl, by rw [hdz], hw.trans (h.mono hw.size), h⟩))) ?_
      refine hs_is rfl (fun w' hw => runs_neq (r := false) rfl rfl (by simp)) ?_
      refine (fun a5 w5 hS5 hB5 _ => ?_)
      refine wpAnyH_done (by kernel_rfl) ?_ _
      refine wp_cond_false (hS5.eval rfl) (wp_skip (reg_seq ?_))
      have hS := hS5
      refine seq_is hS (by decide) (runs_move rfl) (fun a1 hS => ?_)
      refine seq_is hS (by decide) (runs_add rfl rfl ((IntWalk.i64_in _ (by omega)).trans (show (i : Int) + 1 = ((i + 1 : Nat) : Int) by omega))) (fun a1 hS => ?_)
      refine seq_is hS (by decide) (runs_assign rfl) (fun a1 hS => ?_)
      refine nil_ok ⟨l.length - (i + 1), by omega, i + 1, by omega, rfl, hBi6.trans (hB5.mono hBi6.size), ?_⟩
      rw [hse]
      exact hS.only _ ⟨rfl, rfl, rfl, rfl, trivial⟩
    · refine seq_is hS (by decide) (runs_lss (r := false) rfl rfl (by rw [decide_eq_false_iff_not]; omega)) (fun a1 hS => ?_)
      refine nil_ok ⟨_, hS.eval rfl, fun _ => ?_, fun h => by simp at h⟩
      obtain rfl : i = l.length := by omega
      rw [List.take_length] at hS hsi
      obtain ⟨sm, hsm⟩ : ∃ x, x = (l.map (fun x => (Tree.path 0 m x).length)).sum := ⟨_, rfl⟩
      rw [← hsm] at hS hsi
      refine qx_seq (reg_seq ?_)
      have hS := hS.only [(6, .int .i64 (l.length : Int)), (5, .int .i64 (sm : Int)), (1, .slice A (ofN l).length c), (0, .int .i64 (m : Int))] ⟨rfl, rfl, rfl, rfl, trivial⟩
      refine seq_is hS (by decide) (runs_move rfl) (fun a1 hS => ?_)
      refine seq_op hS (by decide) (runs_buildNone undInts hi3) (fun v2 w4 a2 hp2 hS => ?_)
      obtain ⟨rfl, rfl⟩ := hp2
      have hB4 : Below w'.heap.size w' (w'.alloc (.cells #[] 3)) := (Below.refl _ _).alloc (Nat.le_refl _) _
      generalize w'.alloc (.cells #[] 3) = w4 at *
      have hB34 : Below w3.heap.size w3 w4 := hBi.trans (hB4.mono hBi.size)
      refine seq_is hS (by decide) (runs_move rfl) (fun a1 hS => ?_)
      refine seq_op hS (by decide) (copy_ints (hs3'.kept hB34) (by omega) rfl rfl) (fun v5 w5 a3 hp3 hS => ?_)
      obtain ⟨hs5, hB5⟩ := hp3
      have hB35 : Below w3.heap.size w3 w5 := hB34.trans (hB5.mono hB34.size)
      refine seq_is hS (by decide) (runs_call (args := [.int .i64 (m : Int), v5]) goes23 rfl (size_call m (ofN l) v5 w5 hs5)) (fun a1 hS => ?_)
      refine seq_is hS (by decide) (runs_assign rfl) (fun a1 hS => ?_)
      have hz : sizeZ (m : Int) (ofN l) = (parts 0 m l).length := by unfold sizeZ; rw [if_pos hask, toN_of]; simp
      rw [hz] at hS
      have hps : l ≠ [] → (parts 0 m l).length ≤ sm := fun h => by rw [hsm]; exact parts_sum m 0 l (by rwa [Nat.zero_add]) h
      have hnil : l = [] → (parts 0 m l).length = 1 := fun h => by rw [h, parts_nil]; rfl
      generalize (parts 0 m l).length = q at *
      refine nil_ok (qx_seq (reg_seq ?_))
      have hS := hS.only [(7, .int .i64 (q : Int)), (5, .int .i64 (sm : Int)), (1, .slice A (ofN l).length c)] ⟨rfl, rfl, rfl, trivial⟩
      refine seq_is hS (by decide) (runs_move rfl) (fun a1 hS => ?_)
      refine seq_is hS (by decide) (runs_move rfl) (fun a1 hS => ?_)
      by_cases hq : q ≤ sm
      · refine seq_is hS (by decide) (runs_leq (r := true) rfl rfl (by rw [decide_eq_true_eq]; omega)) (fun a1 hS => ?_)
        refine seq_is hS (by decide) (runs_move rfl) (fun a1 hS => ?_)
        refine seq_no hS (by decide) rfl (by decide) rfl rfl (fun a1 hS => ?_)
        refine seq_no hS (by decide) rfl (by decide) rfl rfl (fun a1 hS => ?_)
        refine seq_no hS (by decide) rfl (by decide) rfl rfl (fun a1 hS => ?_)
        refine seq_no hS (by decide) rfl (by decide) rfl rfl (fun a1 hS => ?_)
        refine seq_skip2 hS (by decide) rfl (by decide) rfl (fun a1 hS => ?_)
        refine seq_skip2 hS (by decide) rfl (by decide) rfl (fun a1 hS => ?_)
        refine seq_no hS (by decide) rfl (by decide) rfl rfl (fun a1 hS => ?_)
        refine seq_is hS (by decide) (runs_pick rfl rfl) (fun a1 hS => ?_)
        refine seq_is hS (by decide) (runs_assign rfl) (fun a1 hS => ?_)
        exact nil_ok (qx_ret (ret1 (t := 4) (by kernel_rfl) hS rfl ⟨rfl, hBw3.trans (hB35.mono hBw3.size)⟩))
      · have hl0 : l = [] := Classical.byContradiction fun h => hq (hps h)
        have hq1 := hnil hl0
        subst hl0 hq1
        refine seq_is hS (by decide) (runs_leq (r := false) rfl rfl (by rw [decide_eq_false_iff_not]; omega)) (fun a1 hS => ?_)
        refine seq_is hS (by decide) (runs_move rfl) (fun a1 hS => ?_)
        refine seq_yis hS (by decide) rfl (by decide) rfl (runs_move rfl) (fun a1 hS => ?_)
        refine seq_yis hS (by decide) rfl (by decide) rfl (runs_len rfl undInts) (fun a1 hS => ?_)
        refine seq_yis hS (by decide) rfl (by decide) rfl (runs_eql (r := true) rfl rfl rfl) (fun a1 hS => ?_)
        refine seq_yis hS (by decide) rfl (by decide) rfl (runs_move rfl) (fun a1 hS => ?_)
        refine seq_yis hS (by decide) rfl (by decide) rfl (runs_move rfl) (fun a1 hS => ?_)
        refine seq_yis hS (by decide) rfl (by decide) rfl (runs_eql (r := true) rfl rfl rfl) (fun a1 hS => ?_)
        refine seq_yis hS (by decide) rfl (by decide) rfl (runs_pick rfl rfl) (fun a1 hS => ?_)
        refine seq_is hS (by decide) (runs_pick rfl rfl) (fun a1 hS => ?_)
        refine seq_is hS (by decide) (runs_assign rfl) (fun a1 hS => ?_)
        exact nil_ok (qx_ret (ret1 (t := 4) (by kernel_rfl) hS rfl ⟨rfl, hBw3.trans (hB35.mono hBw3.size)⟩))
end Go.Proofs.YtdemoidmhmdgkaaDoor
