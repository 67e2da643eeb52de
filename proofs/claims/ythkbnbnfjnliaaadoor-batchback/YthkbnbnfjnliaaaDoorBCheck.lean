/- Layer 11: the program's Check. Conditions: at most 10000 messages. -/
import Derived.Test.YthkbnbnfjnliaaaDoorBRef
import Derived.Test.YthkbnbnfjnliaaaDoorJ26
namespace Go.Proofs.YthkbnbnfjnliaaaDoor
open Go.RowKit
set_option maxRecDepth 100000

theorem goes23 : Goes Tryd.prog 23 := goes_of Tryd.func23 (by kernel_rfl) rfl
theorem goes24 : Goes Tryd.prog 24 := goes_of Tryd.func24 (by kernel_rfl) rfl
def place (e : E) : Nat := e.1.toNat * 64 + e.2.1.toNat
def seenL (l : List E) : List Value := (List.range 4096).map fun k => Value.bool (l.any fun e => place e == k)
theorem seenL_length (l : List E) : (seenL l).length = 4096 := by simp [seenL]
theorem seenL_get (l : List E) {k : Nat} (h : k < 4096) : (seenL l)[k]? = some (.bool (l.any fun e => place e == k)) := by
  simp [seenL, h]
theorem seenL_snoc (l : List E) (e : E) : seenL (l ++ [e]) = (seenL l).set (place e) (.bool true) := by
  apply List.ext_getElem?
  intro k
  rw [List.getElem?_set]
  by_cases hk : k < 4096
  · rw [seenL_get _ hk, seenL_get _ hk]
    by_cases he : place e = k
    · subst he
      rw [if_pos rfl, if_pos (by rw [seenL_length]; exact hk), List.any_append]
      simp
    · rw [if_neg he, List.any_append]
      simp [he]
  · rw [List.getElem?_eq_none (by rw [seenL_length]; omega), List.getElem?_eq_none (by rw [seenL_length]; omega)]
    by_cases he : place e = k
    · rw [if_pos he, if_neg (by rw [seenL_length]; omega)]
    · rw [if_neg he]
theorem infMat : (Tryd.prog.info? 55).map (fun i => i.zero) = some (some (.agg (seenL []).toArray)) := by kernel_rfl
theorem undMat : Tryd.prog.underlying 55 = some (.array 64 54) := by kernel_rfl
theorem undMrow : Tryd.prog.underlying 54 = some (.array 64 4) := by kernel_rfl
theorem sizMrow : (Tryd.prog.info? 54).map (·.size) = some 64 := by kernel_rfl
theorem sizB4 : (Tryd.prog.info? 4).map (·.size) = some 1 := by kernel_rfl
theorem plB4 : (match Tryd.prog.underlying 4 with | some (.struct _) => true | some (.array _ _) => true | none => true | _ => false) = false := by kernel_rfl
def fitV (e : E) : Prop := 0 ≤ e.1 ∧ e.1 < 64 ∧ 0 ≤ e.2.1 ∧ e.2.1 < 64
theorem placeV_lt {e : E} (h : fitV e) : place e < 4096 := by unfold fitV at h; unfold place; omega
theorem placeV_same {a b : E} (ha : fitV a) (hb : fitV b) : place a = place b ↔ (a.1 = b.1 ∧ a.2.1 = b.2.1) := by unfold fitV at ha hb; unfold place; omega
theorem fitV_ok {e : E} (h : okM e = true) : fitV e := by
  obtain ⟨a1, a2, a3, a4, _⟩ := (okM_iff e).1 h
  exact ⟨a1, a2, a3, a4⟩
theorem metV_no {xs : List E} {e : E} (hf : ∀ m ∈ xs, okM m = true) (he : fitV e) (hp : xs.Pairwise Apart) (hn : xs.any (fun x => place x == place e) = false) : (xs ++ [e]).Pairwise Apart := by
  rw [List.pairwise_append]
  refine ⟨hp, List.pairwise_singleton _ _, fun a ha b hb => ?_⟩
  rw [List.mem_singleton] at hb
  subst hb
  rw [List.any_eq_false] at hn
  have := hn a ha
  rw [beq_iff_eq, placeV_same (fitV_ok (hf a ha)) he] at this
  exact this
theorem metV_yes {l : List E} {i : Nat} {e : E} (hf : ∀ m ∈ l.take i, okM m = true) (he : fitV e) (hi : l[i]? = some e) (hn : (l.take i).any (fun x => place x == place e) = true) : ¬ l.Pairwise Apart := fun hp => by
  have h2 := hp.sublist (List.take_sublist (i + 1) l)
  rw [List.take_add_one, hi, Option.toList_some, List.pairwise_append] at h2
  rw [List.any_eq_true] at hn
  obtain ⟨x, hx, hxe⟩ := hn
  rw [beq_iff_eq, placeV_same (fitV_ok (hf x hx)) he] at hxe
  exact absurd hxe (h2.2.2 x hx e (by simp))
theorem alloc_mat {L : List (Nat × Value)} {w : World} {ty : TypeId} : Runs Tryd.prog (.alloc 55) ty L w (fun v w' => v = .pointer (some ⟨w.heap.size, 0, none⟩) ∧ Has w' w.heap.size 55 (seenL []) ∧ Below w.heap.size w w') := by
  obtain ⟨i68, hi68, hz68⟩ : ∃ ie, Tryd.prog.info? 55 = some ie ∧ ie.zero = some (.agg (seenL []).toArray) := by
    have h := infMat
    cases hi : Tryd.prog.info? 55 with
    | none => rw [hi] at h; cases h
    | some ie => rw [hi] at h; exact ⟨ie, rfl, by simpa using h⟩
  exact (runs_alloc hi68 hz68).mono (by
    rintro v w1 ⟨rfl, hw1⟩
    obtain ⟨hX, hB1⟩ : Has w1 w.heap.size 55 (seenL []) ∧ Below w.heap.size w w1 := by rw [hw1]; exact new_box w 55 (seenL [])
    exact ⟨rfl, hX, hB1⟩)
set_option maxHeartbeats 1000000 in
theorem isV_is {n : Int} {b : Bool} (hb : decide (0 ≤ n ∧ n < 64) = b) (w : World) : Ans 23 [.int .i64 n] w (Is (.bool b) w) := by
  refine calls_qx (args := [.int .i64 n]) 9 Tryd.func23 rfl (by kernel_rfl) (by simp) (fun a hS => ?_)
  refine qx_seq (reg_seq ?_)
  refine sI hS (runs_assign rfl) fun _ hS => ?_
  refine nil_ok (qx_seq (reg_seq ?_))
  refine sI hS (runs_move rfl) fun _ hS => ?_
  by_cases h1 : n ≥ 0
  · skip
    refine sI hS (geqT rfl rfl (by omega)) fun _ hS => ?_
    refine sI hS (runs_move rfl) fun _ hS => ?_
    refine sY hS (runs_move rfl) fun _ hS => ?_
    by_cases h2 : n < 64
    · skip
      refine sY hS (lssT rfl rfl (by omega)) fun _ hS => ?_
      refine sI hS (runs_pick rfl rfl) fun _ hS => ?_
      refine sI hS (runs_assign rfl) fun _ hS => ?_
      exact nil_ok (qx_ret (ret1 (t := 2) (by kernel_rfl) hS rfl ⟨_, rfl, by rw [← hb]; simp; omega, rfl⟩))
    refine sY hS (lssF rfl rfl (by omega)) fun _ hS => ?_
    refine sI hS (runs_pick rfl rfl) fun _ hS => ?_
    refine sI hS (runs_assign rfl) fun _ hS => ?_
    exact nil_ok (qx_ret (ret1 (t := 2) (by kernel_rfl) hS rfl ⟨_, rfl, by rw [← hb]; simp; omega, rfl⟩))
  refine sI hS (geqF rfl rfl (by omega)) fun _ hS => ?_
  refine sI hS (runs_move rfl) fun _ hS => ?_
  refine sN hS fun _ hS => ?_
  refine sN hS fun _ hS => ?_
  refine sI hS (runs_pick rfl rfl) fun _ hS => ?_
  refine sI hS (runs_assign rfl) fun _ hS => ?_
  exact nil_ok (qx_ret (ret1 (t := 2) (by kernel_rfl) hS rfl ⟨_, rfl, by rw [← hb]; simp; omega, rfl⟩))
set_option maxHeartbeats 1000000 in
theorem tooG_is {n : Int} {b : Bool} (hb : decide (n < -1125899906842624 ∨ n > 1125899906842624) = b) (w : World) : Ans 24 [.int .i64 n] w (Is (.bool b) w) := by
  refine calls_qx (args := [.int .i64 n]) 9 Tryd.func24 rfl (by kernel_rfl) (by simp) (fun a hS => ?_)
  refine qx_seq (reg_seq ?_)
  refine sI hS (runs_assign rfl) fun _ hS => ?_
  refine nil_ok (qx_seq (reg_seq ?_))
  refine sI hS (runs_move rfl) fun _ hS => ?_
  by_cases h1 : n < -1125899906842624
  · skip
    refine sI hS (lssT rfl rfl (by omega)) fun _ hS => ?_
    refine sI hS (runs_move rfl) fun _ hS => ?_
    refine sN hS fun _ hS => ?_
    refine sN hS fun _ hS => ?_
    refine sI hS (runs_pick rfl rfl) fun _ hS => ?_
    refine sI hS (runs_assign rfl) fun _ hS => ?_
    exact nil_ok (qx_ret (ret1 (t := 2) (by kernel_rfl) hS rfl ⟨_, rfl, by rw [← hb]; simp; omega, rfl⟩))
  refine sI hS (lssF rfl rfl (by omega)) fun _ hS => ?_
  refine sI hS (runs_move rfl) fun _ hS => ?_
  refine sY hS (runs_move rfl) fun _ hS => ?_
  by_cases h2 : n > 1125899906842624
  · skip
    refine sY hS (gtrT rfl rfl (by omega)) fun _ hS => ?_
    refine sI hS (runs_pick rfl rfl) fun _ hS => ?_
    refine sI hS (runs_assign rfl) fun _ hS => ?_
    exact nil_ok (qx_ret (ret1 (t := 2) (by kernel_rfl) hS rfl ⟨_, rfl, by rw [← hb]; simp; omega, rfl⟩))
  refine sY hS (gtrF rfl rfl (by omega)) fun _ hS => ?_
  refine sI hS (runs_pick rfl rfl) fun _ hS => ?_
  refine sI hS (runs_assign rfl) fun _ hS => ?_
  exact nil_ok (qx_ret (ret1 (t := 2) (by kernel_rfl) hS rfl ⟨_, rfl, by rw [← hb]; simp; omega, rfl⟩))
theorem great_dec (n : Int) : decide (n < -1125899906842624 ∨ n > 1125899906842624) = great n := by
  cases h : great n with
  | false => have := great_no h; rw [decide_eq_false_iff_not]; omega
  | true =>
    rw [decide_eq_true_eq]
    by_cases h1 : n < -1125899906842624 ∨ n > 1125899906842624
    · exact h1
    · exfalso
      have : great n = false := by unfold great; simp; omega
      rw [this] at h; cases h
theorem oks_snoc {xs : List E} {e : E} (h : ∀ m ∈ xs, okM m = true) (he : okM e = true) : ∀ m ∈ xs ++ [e], okM m = true := fun m hm => by
  rcases List.mem_append.1 hm with h1 | h1
  · exact h m h1
  · rw [List.mem_singleton.1 h1]; exact he
set_option maxHeartbeats 1000000 in
theorem bcheck_c : ChkC := fun l v w hE hl => by
  show Ans 8 [v] w _
  obtain ⟨A, c, rfl, hc1, hc2, hA⟩ := hE
  have hE : Edges w (.slice A l.length c) l := ⟨A, c, rfl, hc1, hc2, hA⟩
  have hcm := hc2
  unfold maxLen at hcm
  refine calls_qx (args := [.slice A l.length c]) 46 Tryd.func8 rfl (by kernel_rfl) (by simp) (fun a hS => ?_)
  have hB := Below.refl w.heap.size w
  have hEb := hE
  refine qx_seq (reg_seq ?_)
  refine sI hS (runs_assign rfl) fun _ hS => ?_
  refine nil_ok (qx_seq (qx_seq (reg_seq ?_)))
  refine sI hS (runs_move rfl) fun _ hS => ?_
  refine sI hS (runs_len rfl und32) fun _ hS => ?_
  by_cases hbig : 512 < l.length
  · skip
    refine sI hS (gtrT rfl rfl (by omega)) fun _ hS => ?_
    refine nil_ok (wp_cond_true (hS.eval rfl) (qx_seq (reg_seq ?_)))
    refine sI hS (runs_assign rfl) fun _ hS => ?_
    exact nil_ok (qx_ret (ret1 (t := 2) (by kernel_rfl) hS rfl ⟨_, rfl, by rw [chkM_bad (fun h => by have := ((rightM_iff l).1 h).2.2; omega)], hB⟩))
  refine sI hS (gtrF rfl rfl (by omega)) fun _ hS => ?_
  refine nil_ok (wp_cond_false (hS.eval rfl) (wp_skip (qx_seq (reg_seq ?_))))
  refine seq_op hS (by decide) (alloc_mat) (fun v1 w1 a1 hp hS => ?_)
  obtain ⟨rfl, hX, hB1⟩ := hp
  have hB := hB.trans (hB1.mono hB.size)
  have hE := hEb.kept hB
  refine nil_ok (qx_seq (qx_seq (reg_seq ?_)))
  refine sI hS (runs_move rfl) fun _ hS => ?_
  refine sI hS (runs_len rfl und32) fun _ hS => ?_
  refine sI hS (runs_move rfl) fun _ hS => ?_
  refine nil_ok (?_)
  refine qx_range (fun mm a w' => ∃ (i : Nat), i ≤ l.length ∧ mm = l.length - i ∧ Below w.heap.size w w' ∧ Has w' w.heap.size 55 (seenL (l.take i)) ∧ (l.take i).Pairwise Apart ∧ (∀ m ∈ l.take i, okM m = true) ∧ Sees 46 [(11, .int .i64 (i : Int)), (10, .int .i64 ((l.length : Nat) : Int)), (9, .slice A l.length c), (3, .pointer (some ⟨w.heap.size, 0, none⟩))] a) l.length ⟨0, by omega, by omega, hB, hX, by simp, by simp, hS.only _ ⟨rfl, rfl, rfl, rfl, trivial⟩⟩ ?_
  clear hS 
  rintro mm a wl1 ⟨i, hi1, rfl, hBb1, hX, hpw, hoks, hS⟩
  have hBsz1 := hBb1.size
  have hE := hEb.kept hBb1
  have hX := hX
  have hB := Below.refl wl1.heap.size wl1
  have hXb1 := hX
  refine reg_seq ?_
  by_cases hlt1 : i < l.length
  · skip
    refine sI hS (lssT rfl rfl (by omega)) fun _ hS => ?_
    refine nil_ok ⟨_, hS.eval rfl, fun h => by simp at h, fun _ => ?_⟩
    obtain ⟨x, hx⟩ : ∃ x, l[i]? = some x := ⟨l[i], by simp [hlt1]⟩
    obtain ⟨b, o, hbe, hbw, hr⟩ := edges_row hE (by omega)
    cases hbe
    have hrx := edges_at hr hx
    refine qx_seq (qx_block (qx_seq (reg_seq ?_)))
    refine sI hS (runs_indexAddrG (j := i) rfl rfl und32 sz41 rfl hlt1) fun _ hS => ?_
    refine sI hS (runs_loadM rfl hrx) fun _ hS => ?_
    refine seq_op hS (by decide) (runs_allocB (cs := [.int .i64 0, .int .i64 0, .int .i64 0]) zo41 rfl) (fun v3 w3 a1 hp hS => ?_)
    obtain ⟨rfl, hM3, hB3⟩ := hp
    have hLhM3 : wl1.heap.size ≤ wl1.heap.size := hB.size
    have hB := hB.trans (hB3.mono hB.size)
    have hX := hXb1.below hB hXb1.lt
    refine seq_none hS (runs_storeB (cs := encE x) rfl rfl hM3 rfl rfl sz41) (fun v5 w5 a1 hp hS => ?_)
    obtain ⟨hM3, hU5⟩ := hp
    have hB := But.new hB hU5 (fun i e => by rw [e]; exact hLhM3) (Nat.le_refl _)
    have hX := hXb1.below hB hXb1.lt
    refine nil_ok (qx_seq (qx_seq (?_)))
    by_cases hv1 : 0 ≤ x.1 ∧ x.1 < 64
    · skip
      by_cases hv2 : 0 ≤ x.2.1 ∧ x.2.1 < 64
      · skip
        by_cases hv3 : great x.2.2 = true
        · skip
          refine reg_guard (fun w' => Below w5.heap.size w5 w') [.inl (.pointer (some ⟨wl1.heap.size, 0 + 0, none⟩)), .inl (.int .i64 x.1), .inl (.bool true), .inl (.bool false), .inl (.bool false), .inl (.pointer (some ⟨wl1.heap.size, 0 + 1, none⟩)), .inl (.int .i64 x.2.1), .inl (.bool true), .inl (.bool false), .inl (.bool false), .inl (.bool false), .inl (.pointer (some ⟨wl1.heap.size, 0 + 2, none⟩)), .inl (.int .i64 x.2.2), .inl (.bool true), .inl (.bool true), .inl (.bool true), .inl undef, .inl undef, .inl undef, .inl undef, .inl undef, .inl undef, .inl undef, .inl (.bool true)] 24 0 mixed rfl (by kernel_rfl) hS (Below.refl _ _) (fun _ h => h.drew) ?_
          refine hs_is rfl (fun w' hw => runs_fieldK fo41_0 rfl) ?_
          refine hs_is rfl (fun w' hw => runs_load rfl pl3 ((hM3.below hw hM3.lt).at rfl)) ?_
          refine hs_is rfl (fun w' hw => runs_call (args := [.int .i64 x.1]) goes23 rfl (isV_is (by rw [decide_eq_true_eq]; exact hv1) _)) ?_
          refine hs_is rfl (fun w' hw => runs_not (b := true) rfl) ?_
          refine hs_is rfl (fun w' hw => runs_move rfl) ?_
          refine hs_yis rfl rfl (fun w' hw => runs_fieldK fo41_1 rfl) ?_
          refine hs_yis rfl rfl (fun w' hw => runs_load rfl pl3 ((hM3.below hw hM3.lt).at rfl)) ?_
          refine hs_yis rfl rfl (fun w' hw => runs_call (args := [.int .i64 x.2.1]) goes23 rfl (isV_is (by rw [decide_eq_true_eq]; exact hv2) _)) ?_
          refine hs_yis rfl rfl (fun w' hw => runs_not (b := true) rfl) ?_
          refine hs_is rfl (fun w' hw => runs_pick rfl rfl) ?_
          refine hs_is rfl (fun w' hw => runs_move rfl) ?_
          refine hs_yis rfl rfl (fun w' hw => runs_fieldK fo41_2 rfl) ?_
          refine hs_yis rfl rfl (fun w' hw => runs_load rfl pl2 ((hM3.below hw hM3.lt).at rfl)) ?_
          refine hs_yis rfl rfl (fun w' hw => runs_call (args := [.int .i64 x.2.2]) goes24 rfl (tooG_is ((great_dec _).trans hv3) _)) ?_
          refine hs_is rfl (fun w' hw => runs_pick rfl rfl) ?_
          refine hs_is rfl (fun w' hw => runs_move rfl) ?_
          refine hs_no rfl rfl rfl ?_
          refine hs_no rfl rfl rfl ?_
          refine hs_no rfl rfl rfl ?_
          refine hs_no rfl rfl rfl ?_
          refine hs_no rfl rfl rfl ?_
          refine hs_no rfl rfl rfl ?_
          refine hs_no rfl rfl rfl ?_
          refine hs_is rfl (fun w' hw => runs_pick rfl rfl) ?_
          refine (fun a7 w7 hS hB7 hq => ?_)
          clear hq
          have hB := hB.trans (hB7.mono hB.size)
          have hX := hXb1.below hB hXb1.lt
          have hM3 := hM3.below hB7 hM3.lt
          refine wpAnyH_done (by kernel_rfl) ?_ _
          refine wp_cond_true (hS.eval rfl) (qx_seq (reg_seq ?_))
          refine sI hS (runs_assign rfl) fun _ hS => ?_
          exact nil_ok (qx_ret (ret1 (t := 2) (by kernel_rfl) hS rfl ⟨_, rfl, by rw [chkM_bad (fun h => by have := (okM_iff x).1 (((rightM_iff l).1 h).1 x (List.mem_of_getElem? hx)); rw [hv3] at this; cases this.2.2.2.2)], hBb1.trans (hB.mono hBb1.size)⟩))
        · skip
          have hfx : fitV x := ⟨hv1.1, hv1.2, hv2.1, hv2.2⟩
          have hpl := placeV_lt hfx
          have hok : okM x = true := (okM_iff x).2 ⟨hv1.1, hv1.2, hv2.1, hv2.2, Bool.eq_false_iff.2 hv3⟩
          have hadr : 0 + x.1.toNat * 64 + x.2.1.toNat * 1 = place x := by unfold place; omega
          by_cases hv4 : (l.take i).any (fun m => place m == place x) = true
          · skip
            have hc1 : (seenL (l.take i))[0 + x.1.toNat * 64 + x.2.1.toNat * 1]? = some (.bool true) := by rw [hadr, seenL_get _ hpl, hv4]
            refine reg_guard (fun w' => Below w5.heap.size w5 w') [.inl (.pointer (some ⟨wl1.heap.size, 0 + 0, none⟩)), .inl (.int .i64 x.1), .inl (.bool true), .inl (.bool false), .inl (.bool false), .inl (.pointer (some ⟨wl1.heap.size, 0 + 1, none⟩)), .inl (.int .i64 x.2.1), .inl (.bool true), .inl (.bool false), .inl (.bool false), .inl (.bool false), .inl (.pointer (some ⟨wl1.heap.size, 0 + 2, none⟩)), .inl (.int .i64 x.2.2), .inl (.bool false), .inl (.bool false), .inl (.bool false), .inl (.pointer (some ⟨wl1.heap.size, 0 + 0, none⟩)), .inl (.int .i64 x.1), .inl (.pointer (some ⟨wl1.heap.size, 0 + 1, none⟩)), .inl (.int .i64 x.2.1), .inl (.pointer (some ⟨w.heap.size, 0 + x.1.toNat * 64, none⟩)), .inl (.pointer (some ⟨w.heap.size, 0 + x.1.toNat * 64 + x.2.1.toNat * 1, none⟩)), .inl (.bool true), .inl (.bool true)] 24 0 mixed rfl (by kernel_rfl) hS (Below.refl _ _) (fun _ h => h.drew) ?_
            refine hs_is rfl (fun w' hw => runs_fieldK fo41_0 rfl) ?_
            refine hs_is rfl (fun w' hw => runs_load rfl pl3 ((hM3.below hw hM3.lt).at rfl)) ?_
            refine hs_is rfl (fun w' hw => runs_call (args := [.int .i64 x.1]) goes23 rfl (isV_is (by rw [decide_eq_true_eq]; exact hv1) _)) ?_
            refine hs_is rfl (fun w' hw => runs_not (b := true) rfl) ?_
            refine hs_is rfl (fun w' hw => runs_move rfl) ?_
            refine hs_yis rfl rfl (fun w' hw => runs_fieldK fo41_1 rfl) ?_
            refine hs_yis rfl rfl (fun w' hw => runs_load rfl pl3 ((hM3.below hw hM3.lt).at rfl)) ?_
            refine hs_yis rfl rfl (fun w' hw => runs_call (args := [.int .i64 x.2.1]) goes23 rfl (isV_is (by rw [decide_eq_true_eq]; exact hv2) _)) ?_
            refine hs_yis rfl rfl (fun w' hw => runs_not (b := true) rfl) ?_
            refine hs_is rfl (fun w' hw => runs_pick rfl rfl) ?_
            refine hs_is rfl (fun w' hw => runs_move rfl) ?_
            refine hs_yis rfl rfl (fun w' hw => runs_fieldK fo41_2 rfl) ?_
            refine hs_yis rfl rfl (fun w' hw => runs_load rfl pl2 ((hM3.below hw hM3.lt).at rfl)) ?_
            refine hs_yis rfl rfl (fun w' hw => runs_call (args := [.int .i64 x.2.2]) goes24 rfl (tooG_is ((great_dec _).trans (Bool.eq_false_iff.2 hv3)) _)) ?_
            refine hs_is rfl (fun w' hw => runs_pick rfl rfl) ?_
            refine hs_is rfl (fun w' hw => runs_move rfl) ?_
            refine hs_yis rfl rfl (fun w' hw => runs_fieldK fo41_0 rfl) ?_
            refine hs_yis rfl rfl (fun w' hw => runs_load rfl pl3 ((hM3.below hw hM3.lt).at rfl)) ?_
            refine hs_yis rfl rfl (fun w' hw => runs_fieldK fo41_1 rfl) ?_
            refine hs_yis rfl rfl (fun w' hw => runs_load rfl pl3 ((hM3.below hw hM3.lt).at rfl)) ?_
            refine hs_yis rfl rfl (fun w' hw => runs_indexArrG (j := x.1.toNat) rfl rfl undMat sizMrow (by omega) (by omega)) ?_
            refine hs_yis rfl rfl (fun w' hw => runs_indexArrG (j := x.2.1.toNat) rfl rfl undMrow sizB4 (by omega) (by omega)) ?_
            refine hs_yis rfl rfl (fun w' hw => runs_load rfl plB4 ((hX.below hw hX.lt).at hc1)) ?_
            refine hs_is rfl (fun w' hw => runs_pick rfl rfl) ?_
            refine (fun a9 w9 hS hB9 hq => ?_)
            clear hq
            have hB := hB.trans (hB9.mono hB.size)
            have hX := hXb1.below hB hXb1.lt
            have hM3 := hM3.below hB9 hM3.lt
            refine wpAnyH_done (by kernel_rfl) ?_ _
            refine wp_cond_true (hS.eval rfl) (qx_seq (reg_seq ?_))
            refine sI hS (runs_assign rfl) fun _ hS => ?_
            exact nil_ok (qx_ret (ret1 (t := 2) (by kernel_rfl) hS rfl ⟨_, rfl, by rw [chkM_bad (fun h => metV_yes hoks hfx hx hv4 ((rightM_iff l).1 h).2.1)], hBb1.trans (hB.mono hBb1.size)⟩))
          · skip
            have hc1 : (seenL (l.take i))[0 + x.1.toNat * 64 + x.2.1.toNat * 1]? = some (.bool false) := by rw [hadr, seenL_get _ hpl, Bool.eq_false_iff.2 hv4]
            refine reg_guard (fun w' => Below w5.heap.size w5 w') [.inl (.pointer (some ⟨wl1.heap.size, 0 + 0, none⟩)), .inl (.int .i64 x.1), .inl (.bool true), .inl (.bool false), .inl (.bool false), .inl (.pointer (some ⟨wl1.heap.size, 0 + 1, none⟩)), .inl (.int .i64 x.2.1), .inl (.bool true), .inl (.bool false), .inl (.bool false), .inl (.bool false), .inl (.pointer (some ⟨wl1.heap.size, 0 + 2, none⟩)), .inl (.int .i64 x.2.2), .inl (.bool false), .inl (.bool false), .inl (.bool false), .inl (.pointer (some ⟨wl1.heap.size, 0 + 0, none⟩)), .inl (.int .i64 x.1), .inl (.pointer (some ⟨wl1.heap.size, 0 + 1, none⟩)), .inl (.int .i64 x.2.1), .inl (.pointer (some ⟨w.heap.size, 0 + x.1.toNat * 64, none⟩)), .inl (.pointer (some ⟨w.heap.size, 0 + x.1.toNat * 64 + x.2.1.toNat * 1, none⟩)), .inl (.bool false), .inl (.bool false)] 24 0 mixed rfl (by kernel_rfl) hS (Below.refl _ _) (fun _ h => h.drew) ?_
            refine hs_is rfl (fun w' hw => runs_fieldK fo41_0 rfl) ?_
            refine hs_is rfl (fun w' hw => runs_load rfl pl3 ((hM3.below hw hM3.lt).at rfl)) ?_
            refine hs_is rfl (fun w' hw => runs_call (args := [.int .i64 x.1]) goes23 rfl (isV_is (by rw [decide_eq_true_eq]; exact hv1) _)) ?_
            refine hs_is rfl (fun w' hw => runs_not (b := true) rfl) ?_
            refine hs_is rfl (fun w' hw => runs_move rfl) ?_
            refine hs_yis rfl rfl (fun w' hw => runs_fieldK fo41_1 rfl) ?_
            refine hs_yis rfl rfl (fun w' hw => runs_load rfl pl3 ((hM3.below hw hM3.lt).at rfl)) ?_
            refine hs_yis rfl rfl (fun w' hw => runs_call (args := [.int .i64 x.2.1]) goes23 rfl (isV_is (by rw [decide_eq_true_eq]; exact hv2) _)) ?_
            refine hs_yis rfl rfl (fun w' hw => runs_not (b := true) rfl) ?_
            refine hs_is rfl (fun w' hw => runs_pick rfl rfl) ?_
            refine hs_is rfl (fun w' hw => runs_move rfl) ?_
            refine hs_yis rfl rfl (fun w' hw => runs_fieldK fo41_2 rfl) ?_
            refine hs_yis rfl rfl (fun w' hw => runs_load rfl pl2 ((hM3.below hw hM3.lt).at rfl)) ?_
            refine hs_yis rfl rfl (fun w' hw => runs_call (args := [.int .i64 x.2.2]) goes24 rfl (tooG_is ((great_dec _).trans (Bool.eq_false_iff.2 hv3)) _)) ?_
            refine hs_is rfl (fun w' hw => runs_pick rfl rfl) ?_
            refine hs_is rfl (fun w' hw => runs_move rfl) ?_
            refine hs_yis rfl rfl (fun w' hw => runs_fieldK fo41_0 rfl) ?_
            refine hs_yis rfl rfl (fun w' hw => runs_load rfl pl3 ((hM3.below hw hM3.lt).at rfl)) ?_
            refine hs_yis rfl rfl (fun w' hw => runs_fieldK fo41_1 rfl) ?_
            refine hs_yis rfl rfl (fun w' hw => runs_load rfl pl3 ((hM3.below hw hM3.lt).at rfl)) ?_
            refine hs_yis rfl rfl (fun w' hw => runs_indexArrG (j := x.1.toNat) rfl rfl undMat sizMrow (by omega) (by omega)) ?_
            refine hs_yis rfl rfl (fun w' hw => runs_indexArrG (j := x.2.1.toNat) rfl rfl undMrow sizB4 (by omega) (by omega)) ?_
            refine hs_yis rfl rfl (fun w' hw => runs_load rfl plB4 ((hX.below hw hX.lt).at hc1)) ?_
            refine hs_is rfl (fun w' hw => runs_pick rfl rfl) ?_
            refine (fun a11 w11 hS hB11 hq => ?_)
            clear hq
            have hB := hB.trans (hB11.mono hB.size)
            have hX := hXb1.below hB hXb1.lt
            have hM3 := hM3.below hB11 hM3.lt
            refine wpAnyH_done (by kernel_rfl) ?_ _
            refine wp_cond_false (hS.eval rfl) (wp_skip (reg_guard (fun w' => Below w11.heap.size w11 w') [.inl (.pointer (some ⟨wl1.heap.size, 0 + 0, none⟩)), .inl (.int .i64 x.1), .inl (.pointer (some ⟨wl1.heap.size, 0 + 1, none⟩)), .inl (.int .i64 x.2.1), .inl (.pointer (some ⟨w.heap.size, 0 + x.1.toNat * 64, none⟩)), .inl (.pointer (some ⟨w.heap.size, 0 + x.1.toNat * 64 + x.2.1.toNat * 1, none⟩))] 6 1 mixed rfl (by kernel_rfl) hS (Below.refl _ _) (fun _ h => h.drew) ?_))
            refine hs_is rfl (fun w' hw => runs_fieldK fo41_0 rfl) ?_
            refine hs_is rfl (fun w' hw => runs_load rfl pl3 ((hM3.below hw hM3.lt).at rfl)) ?_
            refine hs_is rfl (fun w' hw => runs_fieldK fo41_1 rfl) ?_
            refine hs_is rfl (fun w' hw => runs_load rfl pl3 ((hM3.below hw hM3.lt).at rfl)) ?_
            refine hs_is rfl (fun w' hw => runs_indexArrG (j := x.1.toNat) rfl rfl undMat sizMrow (by omega) (by omega)) ?_
            refine hs_is rfl (fun w' hw => runs_indexArrG (j := x.2.1.toNat) rfl rfl undMrow sizB4 (by omega) (by omega)) ?_
            refine (fun a13 w13 hS hB13 hq => ?_)
            clear hq
            have hB := hB.trans (hB13.mono hB.size)
            have hX := hXb1.below hB hXb1.lt
            have hM3 := hM3.below hB13 hM3.lt
            refine tail_none 6 (by kernel_rfl) rfl hS (runs_storeC (u := .bool false) rfl rfl rfl sizB4 hX hc1) (fun v15 w15 a15 hp hS => ⟨trivial, ?_⟩)
            obtain ⟨hX, hU15⟩ := hp
            have hKs := hU15.below (B := w.heap.size) (fun i e => by rw [e]; exact Nat.le_refl _) (Nat.le_trans hBsz1 hB.size)
            rw [hadr, ← seenL_snoc] at hX
            refine wpAnyH_done (by kernel_rfl) ?_ _
            refine reg_seq ?_
            refine sI hS (runs_add (r := ((i + 1 : Nat) : Int)) rfl rfl (by simp [IntKind.wrap, IntKind.bits, IntKind.signed]; omega)) fun _ hS => ?_
            refine sI hS (runs_move rfl) fun _ hS => ?_
            exact nil_ok ⟨_, by omega, i + 1, by omega, rfl, hBb1.trans ((hB.mono hBb1.size).trans hKs), by rw [List.take_add_one, hx]; exact hX, by rw [List.take_add_one, hx]; exact metV_no hoks hfx hpw (Bool.eq_false_iff.2 hv4), by rw [List.take_add_one, hx]; exact oks_snoc hoks hok, hS.only _ ⟨rfl, rfl, rfl, rfl, trivial⟩⟩
      · skip
        refine reg_guard (fun w' => Below w5.heap.size w5 w') [.inl (.pointer (some ⟨wl1.heap.size, 0 + 0, none⟩)), .inl (.int .i64 x.1), .inl (.bool true), .inl (.bool false), .inl (.bool false), .inl (.pointer (some ⟨wl1.heap.size, 0 + 1, none⟩)), .inl (.int .i64 x.2.1), .inl (.bool false), .inl (.bool true), .inl (.bool true), .inl (.bool true), .inl undef, .inl undef, .inl undef, .inl (.bool true), .inl (.bool true), .inl undef, .inl undef, .inl undef, .inl undef, .inl undef, .inl undef, .inl undef, .inl (.bool true)] 24 0 mixed rfl (by kernel_rfl) hS (Below.refl _ _) (fun _ h => h.drew) ?_
        refine hs_is rfl (fun w' hw => runs_fieldK fo41_0 rfl) ?_
        refine hs_is rfl (fun w' hw => runs_load rfl pl3 ((hM3.below hw hM3.lt).at rfl)) ?_
        refine hs_is rfl (fun w' hw => runs_call (args := [.int .i64 x.1]) goes23 rfl (isV_is (by rw [decide_eq_true_eq]; exact hv1) _)) ?_
        refine hs_is rfl (fun w' hw => runs_not (b := true) rfl) ?_
        refine hs_is rfl (fun w' hw => runs_move rfl) ?_
        refine hs_yis rfl rfl (fun w' hw => runs_fieldK fo41_1 rfl) ?_
        refine hs_yis rfl rfl (fun w' hw => runs_load rfl pl3 ((hM3.below hw hM3.lt).at rfl)) ?_
        refine hs_yis rfl rfl (fun w' hw => runs_call (args := [.int .i64 x.2.1]) goes23 rfl (isV_is (by rw [decide_eq_false_iff_not]; exact hv2) _)) ?_
        refine hs_yis rfl rfl (fun w' hw => runs_not (b := false) rfl) ?_
        refine hs_is rfl (fun w' hw => runs_pick rfl rfl) ?_
        refine hs_is rfl (fun w' hw => runs_move rfl) ?_
        refine hs_no rfl rfl rfl ?_
        refine hs_no rfl rfl rfl ?_
        refine hs_no rfl rfl rfl ?_
        refine hs_is rfl (fun w' hw => runs_pick rfl rfl) ?_
        refine hs_is rfl (fun w' hw => runs_move rfl) ?_
        refine hs_no rfl rfl rfl ?_
        refine hs_no rfl rfl rfl ?_
        refine hs_no rfl rfl rfl ?_
        refine hs_no rfl rfl rfl ?_
        refine hs_no rfl rfl rfl ?_
        refine hs_no rfl rfl rfl ?_
        refine hs_no rfl rfl rfl ?_
        refine hs_is rfl (fun w' hw => runs_pick rfl rfl) ?_
        refine (fun a16 w16 hS hB16 hq => ?_)
        clear hq
        have hB := hB.trans (hB16.mono hB.size)
        have hM3 := hM3.below hB16 hM3.lt
        refine wpAnyH_done (by kernel_rfl) ?_ _
        refine wp_cond_true (hS.eval rfl) (qx_seq (reg_seq ?_))
        refine sI hS (runs_assign rfl) fun _ hS => ?_
        exact nil_ok (qx_ret (ret1 (t := 2) (by kernel_rfl) hS rfl ⟨_, rfl, by rw [chkM_bad (fun h => hv2 (by have := (okM_iff x).1 (((rightM_iff l).1 h).1 x (List.mem_of_getElem? hx)); exact ⟨this.2.2.1, this.2.2.2.1⟩))], hBb1.trans (hB.mono hBb1.size)⟩))
    · skip
      refine reg_guard (fun w' => Below w5.heap.size w5 w') [.inl (.pointer (some ⟨wl1.heap.size, 0 + 0, none⟩)), .inl (.int .i64 x.1), .inl (.bool false), .inl (.bool true), .inl (.bool true), .inl undef, .inl undef, .inl undef, .inl undef, .inl (.bool true), .inl (.bool true), .inl undef, .inl undef, .inl undef, .inl (.bool true), .inl (.bool true), .inl undef, .inl undef, .inl undef, .inl undef, .inl undef, .inl undef, .inl undef, .inl (.bool true)] 24 0 mixed rfl (by kernel_rfl) hS (Below.refl _ _) (fun _ h => h.drew) ?_
      refine hs_is rfl (fun w' hw => runs_fieldK fo41_0 rfl) ?_
      refine hs_is rfl (fun w' hw => runs_load rfl pl3 ((hM3.below hw hM3.lt).at rfl)) ?_
      refine hs_is rfl (fun w' hw => runs_call (args := [.int .i64 x.1]) goes23 rfl (isV_is (by rw [decide_eq_false_iff_not]; exact hv1) _)) ?_
      refine hs_is rfl (fun w' hw => runs_not (b := false) rfl) ?_
      refine hs_is rfl (fun w' hw => runs_move rfl) ?_
      refine hs_no rfl rfl rfl ?_
      refine hs_no rfl rfl rfl ?_
      refine hs_no rfl rfl rfl ?_
      refine hs_no rfl rfl rfl ?_
      refine hs_is rfl (fun w' hw => runs_pick rfl rfl) ?_
      refine hs_is rfl (fun w' hw => runs_move rfl) ?_
      refine hs_no rfl rfl rfl ?_
      refine hs_no rfl rfl rfl ?_
      refine hs_no rfl rfl rfl ?_
      refine hs_is rfl (fun w' hw => runs_pick rfl rfl) ?_
      refine hs_is rfl (fun w' hw => runs_move rfl) ?_
      refine hs_no rfl rfl rfl ?_
      refine hs_no rfl rfl rfl ?_
      refine hs_no rfl rfl rfl ?_
      refine hs_no rfl rfl rfl ?_
      refine hs_no rfl rfl rfl ?_
      refine hs_no rfl rfl rfl ?_
      refine hs_no rfl rfl rfl ?_
      refine hs_is rfl (fun w' hw => runs_pick rfl rfl) ?_
      refine (fun a18 w18 hS hB18 hq => ?_)
      clear hq
      have hB := hB.trans (hB18.mono hB.size)
      refine wpAnyH_done (by kernel_rfl) ?_ _
      refine wp_cond_true (hS.eval rfl) (qx_seq (reg_seq ?_))
      refine sI hS (runs_assign rfl) fun _ hS => ?_
      exact nil_ok (qx_ret (ret1 (t := 2) (by kernel_rfl) hS rfl ⟨_, rfl, by rw [chkM_bad (fun h => hv1 (by have := (okM_iff x).1 (((rightM_iff l).1 h).1 x (List.mem_of_getElem? hx)); exact ⟨this.1, this.2.1⟩))], hBb1.trans (hB.mono hBb1.size)⟩))
  refine sI hS (lssF rfl rfl (by omega)) fun _ hS => ?_
  obtain rfl : i = l.length := by omega
  refine nil_ok ⟨_, hS.eval rfl, fun _ => ?_, fun h => by simp at h⟩
  have hB := hBb1
  rw [List.take_length] at hpw hoks
  refine qx_seq (reg_seq ?_)
  refine sI hS (runs_assign rfl) fun _ hS => ?_
  exact nil_ok (qx_ret (ret1 (t := 2) (by kernel_rfl) hS rfl ⟨_, rfl, by rw [chkM_ok ((rightM_iff l).2 ⟨hoks, hpw, by omega⟩)], hB⟩))
end Go.Proofs.YthkbnbnfjnliaaaDoor
