/- Layer 8: whether messages may be sent. Conditions: none of our own. -/
import Derived.Test.YthenbmalnmaofaaFCame
namespace Go.Proofs.Ythenbmalnmaofaa
open Go.RowKit
set_option maxRecDepth 100000

/-- May a message be sent, behind those that were? -/
def goodM (es d : List E) (m : E) : Bool := es.any (fun x => sameE x m) && d.all (fun x => !sameE x m) && !great m.2.2
def sendB (es : List E) : List E → List E → Bool
  | _, [] => true
  | d, m :: r => goodM es d m && sendB es (d ++ [m]) r
theorem sendB_step {es l : List E} {i : Nat} {m : E} (h : l[i]? = some m) : sendB es (l.take i) (l.drop i) = (goodM es (l.take i) m && sendB es (l.take (i + 1)) (l.drop (i + 1))) := by
  have hd : l.drop i = m :: l.drop (i + 1) := List.drop_eq_getElem?_toList_append.trans (by rw [h]; rfl)
  rw [hd, sendB, List.take_add_one, h]; rfl
/-- The edges that are still free. -/
def freeL (es d : List E) : List Value := (List.range 4096).map fun k => Value.bool (es.any (fun e => place e == k) && !d.any (fun e => place e == k))
theorem freeL_length (es d : List E) : (freeL es d).length = 4096 := by simp [freeL]
theorem freeL_get (es d : List E) {k : Nat} (h : k < 4096) : (freeL es d)[k]? = some (.bool (es.any (fun e => place e == k) && !d.any (fun e => place e == k))) := by
  simp [freeL, h]
theorem freeL_nil (es : List E) : freeL es [] = seenL es := by simp [freeL, seenL]
theorem freeL_snoc (es d : List E) (m : E) : freeL es (d ++ [m]) = (freeL es d).set (place m) (.bool false) := by
  apply List.ext_getElem?
  intro k
  rw [List.getElem?_set]
  by_cases hk : k < 4096
  · rw [freeL_get _ _ hk, freeL_get _ _ hk]
    by_cases he : place m = k
    · subst he
      rw [if_pos rfl, if_pos (by rw [freeL_length]; exact hk), List.any_append]
      simp
    · rw [if_neg he, List.any_append, show [m].any (fun e => place e == k) = false by simp [he], Bool.or_false]
  · rw [List.getElem?_eq_none (by rw [freeL_length]; omega), List.getElem?_eq_none (by rw [freeL_length]; omega)]
    by_cases he : place m = k
    · rw [if_pos he, if_neg (by rw [freeL_length]; omega)]
    · rw [if_neg he]
abbrev Fit (m : E) : Prop := 0 ≤ m.1 ∧ m.1 < 64 ∧ 0 ≤ m.2.1 ∧ m.2.1 < 64
theorem any_place {es : List E} (hf : Fit64 es) {m : E} (hm : Fit m) : es.any (fun e => place e == place m) = es.any (fun x => sameE x m) := by
  rw [Bool.eq_iff_iff, List.any_eq_true, List.any_eq_true]
  constructor
  · rintro ⟨x, hx, h⟩
    exact ⟨x, hx, by rw [sameE_iff]; exact (place_same (hf x hx) hm).1 (by simpa using h)⟩
  · rintro ⟨x, hx, h⟩
    exact ⟨x, hx, by rw [sameE_iff] at h; simpa using (place_same (hf x hx) hm).2 h⟩
theorem free_bit {es d : List E} (hf : Fit64 es) (hd : Fit64 d) {m : E} (hm : Fit m) : (es.any (fun e => place e == place m) && !d.any (fun e => place e == place m)) = (es.any (fun x => sameE x m) && d.all (fun x => !sameE x m)) := by
  rw [any_place hf hm, any_place hd hm, List.not_any_eq_all_not]
theorem form_fit {n : Int} {es : List E} (h : checkZ n es = 0) : Fit64 es ∧ n ≤ 64 ∧ ∀ e ∈ es, 0 ≤ e.1 ∧ e.1 < n ∧ 0 ≤ e.2.1 ∧ e.2.1 < n := by
  have h1 := (formed_iff n es).1 (check_zero h).1
  have h2 : ∀ e ∈ es, 0 ≤ e.1 ∧ e.1 < n ∧ 0 ≤ e.2.1 ∧ e.2.1 < n := fun e he => by have := (okE_iff n e).1 (h1.2.2.2 e he); omega
  exact ⟨fun e he => by have := h2 e he; omega, h1.2.1, h2⟩
theorem good_out {n : Int} {es d : List E} {m : E} (h2 : ∀ e ∈ es, 0 ≤ e.1 ∧ e.1 < n ∧ 0 ≤ e.2.1 ∧ e.2.1 < n) (hm : ¬ (0 ≤ m.1 ∧ m.1 < n) ∨ ¬ (0 ≤ m.2.1 ∧ m.2.1 < n)) : goodM es d m = false := by
  have : es.any (fun x => sameE x m) = false := by
    rw [List.any_eq_false]
    intro x hx h
    rw [sameE_iff] at h
    have := h2 x hx
    omega
  unfold goodM; rw [this]; rfl
theorem good_great {es d : List E} {m : E} (h : great m.2.2 = true) : goodM es d m = false := by unfold goodM; rw [h]; simp
set_option maxHeartbeats 1000000 in
theorem sendable_any (n : Int) (es : List E) (v : Value) (hc : checkZ n es = 0) (l : List E) (hl : l.length ≤ 10000) (vm : Value) (w : World) (hE : Edges w v es) (hM : Edges w vm l) : Ans 35 [gv n v, vm] w (fun u w' => u = .bool (sendB es [] l) ∧ Below w.heap.size w w') := by
  obtain ⟨hf, hn64, hall⟩ := form_fit hc
  obtain ⟨A, c, rfl, h1, h2, hA⟩ := hE
  have hE : Edges w (.slice A es.length c) es := ⟨A, c, rfl, h1, h2, hA⟩
  obtain ⟨Am, cm, rfl, hm1, hm2, hAm⟩ := hM
  have hM : Edges w (.slice Am l.length cm) l := ⟨Am, cm, rfl, hm1, hm2, hAm⟩
  have hel : es.length ≤ 512 := by obtain ⟨_, _, _, _, h⟩ := norm_small hc; exact h
  obtain ⟨i68, hi68, hz68⟩ : ∃ ie, Try.prog.info? 66 = some ie ∧ ie.zero = some (.agg (seenL []).toArray) := by
    have h := inf68
    cases hi : Try.prog.info? 66 with
    | none => rw [hi] at h; cases h
    | some ie => rw [hi] at h; exact ⟨ie, rfl, by simpa using h⟩
  refine calls_qx (args := [gv n (.slice A es.length c), .slice Am l.length cm]) 64 Try.func35 rfl (by kernel_rfl) (by simp) (fun a hS => ?_)
  have hB := Below.refl w.heap.size w
  have hEb := hE
  have hMb := hM
  refine qx_seq (reg_seq ?_)
  refine seq_op hS (by decide) (runs_boxB (cs := [.int .i64 n, .slice A es.length c]) rfl rfl) (fun v1 w1 a1 hp hS => ?_)
  obtain ⟨rfl, hM1, hB1⟩ := hp
  have hB := hB.trans (hB1.mono hB.size)
  have hE := hEb.kept hB
  have hM := hMb.kept hB
  refine sI hS (runs_assign rfl) fun _ hS => ?_
  refine nil_ok (qx_seq (reg_seq ?_))
  refine seq_op hS (by decide) (runs_alloc hi68 hz68) (fun v3 w3 a1 hp hS => ?_)
  obtain ⟨rfl, hw3⟩ := hp
  obtain ⟨hX, hB3⟩ : Has w3 w1.heap.size 66 (seenL []) ∧ Below w1.heap.size w1 w3 := by rw [hw3]; exact new_box w1 66 (seenL [])
  clear hw3 hz68 hi68
  have hLX : w.heap.size ≤ w1.heap.size := hB.size
  have hB := hB.trans (hB3.mono hB.size)
  have hM1 := hM1.below hB3 hM1.lt
  have hE := hEb.kept hB
  have hM := hMb.kept hB
  refine nil_ok (qx_seq (qx_seq (?_)))
  have hG := hM1
  clear hM1
  obtain ⟨g0, hg0⟩ : ∃ g0, w.heap.size = g0 := ⟨_, rfl⟩
  obtain ⟨gx, hgx⟩ : ∃ gx, w1.heap.size = gx := ⟨_, rfl⟩
  rw [hgx] at hX hLX hS
  rw [hg0] at hG hS
  refine reg_seq ?_
  refine sI hS (runs_fieldK fo30_1 rfl) fun _ hS => ?_
  refine sI hS (runs_load rfl pl28 (hG.at rfl)) fun _ hS => ?_
  refine sI hS (runs_len rfl und22) fun _ hS => ?_
  refine sI hS (runs_move rfl) fun _ hS => ?_
  refine nil_ok (?_)
  refine qx_range (fun mm a w' => ∃ (i : Nat), i ≤ es.length ∧ mm = es.length - i ∧ Below w.heap.size w w' ∧ Has w' g0 30 [.int .i64 n, .slice A es.length c] ∧ Has w' gx 66 (seenL (es.take i)) ∧ Sees 64 [(13, .int .i64 (i : Int)), (12, .int .i64 ((es.length : Nat) : Int)), (11, .slice A es.length c), (5, .pointer (some ⟨gx, 0, none⟩)), (2, .pointer (some ⟨g0, 0, none⟩)), (1, .slice Am l.length cm)] a) es.length ⟨0, by omega, by omega, hB, hG, hX, hS.only _ ⟨rfl, rfl, rfl, rfl, rfl, rfl, trivial⟩⟩ ?_
  clear hS hG hX
  rintro mm a wl1 ⟨i, hi1, rfl, hBb1, hG, hX, hS⟩
  have hE := hEb.kept hBb1
  have hM := hMb.kept hBb1
  have hB := Below.refl wl1.heap.size wl1
  have hMb1 := hM
  refine reg_seq ?_
  by_cases hlt1 : i < es.length
  · skip
    refine sI hS (lssT rfl rfl (by omega)) fun _ hS => ?_
    refine nil_ok ⟨_, hS.eval rfl, fun h => by simp at h, fun _ => ?_⟩
    obtain ⟨e, hei⟩ : ∃ e, es[i]? = some e := ⟨es[i], by simp [hlt1]⟩
    obtain ⟨b, o, hAe, hbw, hr⟩ := edges_row hE (by omega)
    have hre := edges_at hr hei
    have hfe := hf e (List.mem_of_getElem? hei)
    have hpl := place_lt hfe
    refine qx_seq (qx_block (qx_seq (reg_seq ?_)))
    refine sI hS (runs_indexAddrG (j := i) (by rw [← hAe]; rfl) rfl und22 siz45 rfl hlt1) fun _ hS => ?_
    refine sI hS (runs_loadE rfl hre) fun _ hS => ?_
    refine seq_op hS (by decide) (runs_allocB (cs := [.int .i64 0, .int .i64 0, .int .i64 0]) zo54 rfl) (fun v5 w5 a1 hp hS => ?_)
    obtain ⟨rfl, hM5, hB5⟩ := hp
    have hLhM5 : wl1.heap.size ≤ wl1.heap.size := hB.size
    have hB := hB.trans (hB5.mono hB.size)
    have hG := hG.below hB5 hG.lt
    have hX := hX.below hB5 hX.lt
    have hM := hMb1.kept hB
    refine seq_none hS (runs_storeB (cs := encE e) rfl rfl hM5 rfl rfl sz54) (fun v7 w7 a1 hp hS => ?_)
    have hQ7 := hM5
    obtain ⟨hM5, hU7⟩ := hp
    have hB := But.new hB hU7 (fun i e => by rw [e]; exact hLhM5) (Nat.le_refl _)
    have hG := hG.but hU7 (has_ne hG hQ7 (by decide))
    have hX := hX.but hU7 (has_ne hX hQ7 (by decide))
    have hM := hMb1.kept hB
    refine nil_ok (reg_guard (fun w' => Below w7.heap.size w7 w') [.inl (.pointer (some ⟨wl1.heap.size, 0 + 0, none⟩)), .inl (.int .i64 e.1), .inl (.pointer (some ⟨wl1.heap.size, 0 + 1, none⟩)), .inl (.int .i64 e.2.1), .inl (.pointer (some ⟨gx, 0 + e.1.toNat * 64, none⟩)), .inl (.pointer (some ⟨gx, 0 + e.1.toNat * 64 + e.2.1.toNat * 1, none⟩))] 6 1 mixed rfl (by kernel_rfl) hS (Below.refl _ _) (fun _ h => h.drew) ?_)
    refine hs_is rfl (fun w' hw => runs_fieldK fo54_0 rfl) ?_
    refine hs_is rfl (fun w' hw => runs_load rfl pl3 ((hM5.below hw hM5.lt).at rfl)) ?_
    refine hs_is rfl (fun w' hw => runs_fieldK fo54_1 rfl) ?_
    refine hs_is rfl (fun w' hw => runs_load rfl pl3 ((hM5.below hw hM5.lt).at rfl)) ?_
    refine hs_is rfl (fun w' hw => runs_indexArrG (j := e.1.toNat) rfl rfl und68 siz67 (by omega) (by omega)) ?_
    refine hs_is rfl (fun w' hw => runs_indexArrG (j := e.2.1.toNat) rfl rfl und67 siz4 (by omega) (by omega)) ?_
    refine (fun a9 w9 hS hB9 hq => ?_)
    clear hq
    have hB := hB.trans (hB9.mono hB.size)
    have hG := hG.below hB9 hG.lt
    have hX := hX.below hB9 hX.lt
    have hM := hMb1.kept hB
    refine tail_none 6 (by kernel_rfl) rfl hS (runs_storeC rfl rfl rfl s1_4 hX (u := .bool ((es.take i).any fun x => place x == place e)) (by rw [show 0 + e.1.toNat * 64 + e.2.1.toNat * 1 = place e by unfold place; omega]; exact seenL_get _ hpl)) (fun v11 w11 a11 hp hS => ⟨trivial, ?_⟩)
    obtain ⟨hX2, hU11⟩ := hp
    have hB2 := But.new (hBb1.trans (hB.mono hBb1.size)) hU11 (fun i e => by rw [e]; exact hLX) (Nat.le_refl _)
    have hG2 := hG.but hU11 (has_ne hG hX (by decide))
    rw [show 0 + e.1.toNat * 64 + e.2.1.toNat * 1 = place e by unfold place; omega] at hX2
    refine wpAnyH_done (by kernel_rfl) ?_ _
    refine reg_seq ?_
    refine sI hS (runs_add (r := ((i + 1 : Nat) : Int)) rfl rfl (by simp [IntKind.wrap, IntKind.bits, IntKind.signed]; omega)) fun _ hS => ?_
    refine sI hS (runs_move rfl) fun _ hS => ?_
    exact nil_ok ⟨_, by omega, i + 1, by omega, rfl, hB2, hG2, by rw [List.take_add_one, hei, Option.toList_some, seenL_snoc]; exact hX2, hS.only _ ⟨rfl, rfl, rfl, rfl, rfl, rfl, trivial⟩⟩
  refine sI hS (lssF rfl rfl (by omega)) fun _ hS => ?_
  obtain rfl : i = es.length := by omega
  refine nil_ok ⟨_, hS.eval rfl, fun _ => ?_, fun h => by simp at h⟩
  have hB := hBb1
  rw [List.take_length, ← freeL_nil] at hX
  refine qx_seq (qx_seq (reg_seq ?_))
  refine sI hS (runs_move rfl) fun _ hS => ?_
  refine sI hS (runs_len rfl und32) fun _ hS => ?_
  refine sI hS (runs_move rfl) fun _ hS => ?_
  refine nil_ok (?_)
  refine qx_range (fun mm a w' => ∃ (i : Nat), i ≤ l.length ∧ mm = l.length - i ∧ Below w.heap.size w w' ∧ Has w' g0 30 [.int .i64 n, .slice A es.length c] ∧ Has w' gx 66 (freeL es (l.take i)) ∧ Fit64 (l.take i) ∧ sendB es [] l = sendB es (l.take i) (l.drop i) ∧ Sees 64 [(26, .int .i64 (i : Int)), (25, .int .i64 ((l.length : Nat) : Int)), (24, .slice Am l.length cm), (5, .pointer (some ⟨gx, 0, none⟩)), (2, .pointer (some ⟨g0, 0, none⟩))] a) l.length ⟨0, by omega, by omega, hB, hG, hX, (fun _ h => by simp at h), by simp, hS.only _ ⟨rfl, rfl, rfl, rfl, rfl, trivial⟩⟩ ?_
  clear hS hG hX
  rintro mm a wl1 ⟨i, hi1, rfl, hBb1, hG, hX, hfd, hsd, hS⟩
  have hM := hMb.kept hBb1
  have hB := Below.refl wl1.heap.size wl1
  refine reg_seq ?_
  by_cases hlt1 : i < l.length
  · skip
    refine sI hS (lssT rfl rfl (by omega)) fun _ hS => ?_
    refine nil_ok ⟨_, hS.eval rfl, fun h => by simp at h, fun _ => ?_⟩
    obtain ⟨m, hmi⟩ : ∃ m, l[i]? = some m := ⟨l[i], by simp [hlt1]⟩
    obtain ⟨b, o, hAe, hbw, hr⟩ := edges_row hM (by omega)
    have hrm := edges_at hr hmi
    have hstep := sendB_step (es := es) hmi
    refine qx_seq (qx_block (qx_seq (reg_seq ?_)))
    refine sI hS (runs_indexAddrG (j := i) (by rw [← hAe]; rfl) rfl und32 sz41 rfl hlt1) fun _ hS => ?_
    refine sI hS (runs_loadM rfl hrm) fun _ hS => ?_
    refine seq_op hS (by decide) (runs_allocB (cs := [.int .i64 0, .int .i64 0, .int .i64 0]) zo41 rfl) (fun v12 w12 a1 hp hS => ?_)
    obtain ⟨rfl, hM12, hB12⟩ := hp
    have hLhM12 : wl1.heap.size ≤ wl1.heap.size := hB.size
    have hB := hB.trans (hB12.mono hB.size)
    have hG := hG.below hB12 hG.lt
    have hX := hX.below hB12 hX.lt
    refine seq_none hS (runs_storeB (cs := encE m) rfl rfl hM12 rfl rfl sz41) (fun v14 w14 a1 hp hS => ?_)
    have hQ14 := hM12
    obtain ⟨hM12, hU14⟩ := hp
    have hB := But.new hB hU14 (fun i e => by rw [e]; exact hLhM12) (Nat.le_refl _)
    have hG := hG.but hU14 (has_ne hG hQ14 (by decide))
    have hX := hX.but hU14 (has_ne hX hQ14 (by decide))
    refine nil_ok (qx_seq (qx_seq (?_)))
    by_cases hg : great m.2.2 = true
    · skip
      refine reg_guard (fun w' => Below w14.heap.size w14 w') [.inl (.pointer (some ⟨wl1.heap.size, 0 + 2, none⟩)), .inl (.int .i64 m.2.2), .inl (.bool true), .inl (.bool true), .inl undef, .inl undef, .inl undef, .inl undef, .inl undef, .inl (.bool true), .inl (.bool true), .inl undef, .inl undef, .inl undef, .inl undef, .inl undef, .inl (.bool true), .inl (.bool true), .inl undef, .inl undef, .inl undef, .inl undef, .inl undef, .inl undef, .inl undef, .inl undef, .inl (.bool true)] 27 0 mixed rfl (by kernel_rfl) hS (Below.refl _ _) (fun _ h => h.drew) ?_
      refine hs_is rfl (fun w' hw => runs_fieldK fo41_2 rfl) ?_
      refine hs_is rfl (fun w' hw => runs_load rfl pl2 ((hM12.below hw hM12.lt).at rfl)) ?_
      refine hs_is rfl (fun w' hw => runs_call (args := [.int .i64 m.2.2]) goes40 rfl (fgreat_is w' hg)) ?_
      refine hs_is rfl (fun w' hw => runs_move rfl) ?_
      refine hs_no rfl rfl rfl ?_
      refine hs_no rfl rfl rfl ?_
      refine hs_no rfl rfl rfl ?_
      refine hs_no rfl rfl rfl ?_
      refine hs_no rfl rfl rfl ?_
      refine hs_is rfl (fun w' hw => runs_pick rfl rfl) ?_
      refine hs_is rfl (fun w' hw => runs_move rfl) ?_
      refine hs_no rfl rfl rfl ?_
      refine hs_no rfl rfl rfl ?_
      refine hs_no rfl rfl rfl ?_
      refine hs_no rfl rfl rfl ?_
      refine hs_no rfl rfl rfl ?_
      refine hs_is rfl (fun w' hw => runs_pick rfl rfl) ?_
      refine hs_is rfl (fun w' hw => runs_move rfl) ?_
      refine hs_no rfl rfl rfl ?_
      refine hs_no rfl rfl rfl ?_
      refine hs_no rfl rfl rfl ?_
      refine hs_no rfl rfl rfl ?_
      refine hs_no rfl rfl rfl ?_
      refine hs_no rfl rfl rfl ?_
      refine hs_no rfl rfl rfl ?_
      refine hs_no rfl rfl rfl ?_
      refine hs_is rfl (fun w' hw => runs_pick rfl rfl) ?_
      refine (fun a16 w16 hS hB16 hq => ?_)
      clear hq
      have hB := hB.trans (hB16.mono hB.size)
      have hG := hG.below hB16 hG.lt
      have hX := hX.below hB16 hX.lt
      have hM12 := hM12.below hB16 hM12.lt
      refine wpAnyH_done (by kernel_rfl) ?_ _
      refine wp_cond_true (hS.eval rfl) (qx_seq (reg_seq ?_))
      refine sI hS (runs_assign rfl) fun _ hS => ?_
      have hbad : goodM es (l.take i) m = false := good_great hg
      have hfin : sendB es [] l = false := by rw [hsd, hstep, hbad]; rfl
      exact nil_ok (qx_ret (ret1 (t := 4) (by kernel_rfl) hS rfl ⟨_, rfl, by rw [hfin], (hBb1.trans ((hB).mono hBb1.size))⟩))
    · skip
      by_cases hv : 0 ≤ m.1 ∧ m.1 < n
      · skip
        by_cases ht : 0 ≤ m.2.1 ∧ m.2.1 < n
        · skip
          have hfm : Fit m := by omega
          have hpl := place_lt hfm
          have hbit := free_bit hf hfd hfm
          obtain ⟨bt, hbt⟩ : ∃ bt, (es.any (fun e => place e == place m) && !(l.take i).any (fun e => place e == place m)) = bt := ⟨_, rfl⟩
          rw [hbt] at hbit
          by_cases hb : bt = true
          · skip
            subst hb
            refine reg_guard (fun w' => Below w14.heap.size w14 w') [.inl (.pointer (some ⟨wl1.heap.size, 0 + 2, none⟩)), .inl (.int .i64 m.2.2), .inl (.bool false), .inl (.bool false), .inl (gv n (.slice A es.length c)), .inl (.pointer (some ⟨wl1.heap.size, 0 + 0, none⟩)), .inl (.int .i64 m.1), .inl (.bool true), .inl (.bool false), .inl (.bool false), .inl (.bool false), .inl (gv n (.slice A es.length c)), .inl (.pointer (some ⟨wl1.heap.size, 0 + 1, none⟩)), .inl (.int .i64 m.2.1), .inl (.bool true), .inl (.bool false), .inl (.bool false), .inl (.bool false), .inl (.pointer (some ⟨wl1.heap.size, 0 + 0, none⟩)), .inl (.int .i64 m.1), .inl (.pointer (some ⟨wl1.heap.size, 0 + 1, none⟩)), .inl (.int .i64 m.2.1), .inl (.pointer (some ⟨gx, 0 + m.1.toNat * 64, none⟩)), .inl (.pointer (some ⟨gx, 0 + m.1.toNat * 64 + m.2.1.toNat * 1, none⟩)), .inl (.bool true), .inl (.bool false), .inl (.bool false)] 27 0 mixed rfl (by kernel_rfl) hS (Below.refl _ _) (fun _ h => h.drew) ?_
            refine hs_is rfl (fun w' hw => runs_fieldK fo41_2 rfl) ?_
            refine hs_is rfl (fun w' hw => runs_load rfl pl2 ((hM12.below hw hM12.lt).at rfl)) ?_
            refine hs_is rfl (fun w' hw => runs_call (args := [.int .i64 m.2.2]) goes40 rfl (fgreat_is w' (Bool.eq_false_iff.2 hg))) ?_
            refine hs_is rfl (fun w' hw => runs_move rfl) ?_
            refine hs_yis rfl rfl (fun w' hw => runs_loadRow rfl (hG.below hw hG.lt) Try.underlying30 rfl (by rw [sz30]; rfl)) ?_
            refine hs_yis rfl rfl (fun w' hw => runs_fieldK fo41_0 rfl) ?_
            refine hs_yis rfl rfl (fun w' hw => runs_load rfl pl3 ((hM12.below hw hM12.lt).at rfl)) ?_
            refine hs_yval rfl rfl (fun w' hw hq => (runs_call (args := [gv n (.slice A es.length c), .int .i64 m.1]) goes50 rfl (vertex_is w' (b := true) (by simp [hv]))).mono (by rintro u w5 ⟨rfl, hb⟩; exact ⟨rfl, hw.trans (hb.mono hw.size), hb⟩)) ?_
            refine hs_yis rfl rfl (fun w' hw => runs_not (b := true) rfl) ?_
            refine hs_is rfl (fun w' hw => runs_pick rfl rfl) ?_
            refine hs_is rfl (fun w' hw => runs_move rfl) ?_
            refine hs_yis rfl rfl (fun w' hw => runs_loadRow rfl (hG.below hw hG.lt) Try.underlying30 rfl (by rw [sz30]; rfl)) ?_
            refine hs_yis rfl rfl (fun w' hw => runs_fieldK fo41_1 rfl) ?_
            refine hs_yis rfl rfl (fun w' hw => runs_load rfl pl3 ((hM12.below hw hM12.lt).at rfl)) ?_
            refine hs_yval rfl rfl (fun w' hw hq => (runs_call (args := [gv n (.slice A es.length c), .int .i64 m.2.1]) goes50 rfl (vertex_is w' (b := true) (by simp [ht]))).mono (by rintro u w5 ⟨rfl, hb⟩; exact ⟨rfl, hw.trans (hb.mono hw.size), hb⟩)) ?_
            refine hs_yis rfl rfl (fun w' hw => runs_not (b := true) rfl) ?_
            refine hs_is rfl (fun w' hw => runs_pick rfl rfl) ?_
            refine hs_is rfl (fun w' hw => runs_move rfl) ?_
            refine hs_yis rfl rfl (fun w' hw => runs_fieldK fo41_0 rfl) ?_
            refine hs_yis rfl rfl (fun w' hw => runs_load rfl pl3 ((hM12.below hw hM12.lt).at rfl)) ?_
            refine hs_yis rfl rfl (fun w' hw => runs_fieldK fo41_1 rfl) ?_
            refine hs_yis rfl rfl (fun w' hw => runs_load rfl pl3 ((hM12.below hw hM12.lt).at rfl)) ?_
            refine hs_yis rfl rfl (fun w' hw => runs_indexArrG (j := m.1.toNat) rfl rfl und68 siz67 (by omega) (by omega)) ?_
            refine hs_yis rfl rfl (fun w' hw => runs_indexArrG (j := m.2.1.toNat) rfl rfl und67 siz4 (by omega) (by omega)) ?_
            refine hs_yis rfl rfl (fun w' hw => runs_load rfl pl4 ((hX.below hw hX.lt).at (by rw [show 0 + m.1.toNat * 64 + m.2.1.toNat * 1 = place m by unfold place; omega, freeL_get _ _ hpl, hbt]))) ?_
            refine hs_yis rfl rfl (fun w' hw => runs_not (b := true) rfl) ?_
            refine hs_is rfl (fun w' hw => runs_pick rfl rfl) ?_
            refine (fun a18 w18 hS hB18 hq => ?_)
            clear hq
            have hB := hB.trans (hB18.mono hB.size)
            have hG := hG.below hB18 hG.lt
            have hX := hX.below hB18 hX.lt
            have hM12 := hM12.below hB18 hM12.lt
            refine wpAnyH_done (by kernel_rfl) ?_ _
            refine wp_cond_false (hS.eval rfl) (wp_skip (reg_guard (fun w' => Below w18.heap.size w18 w') [.inl (.pointer (some ⟨wl1.heap.size, 0 + 0, none⟩)), .inl (.int .i64 m.1), .inl (.pointer (some ⟨wl1.heap.size, 0 + 1, none⟩)), .inl (.int .i64 m.2.1), .inl (.pointer (some ⟨gx, 0 + m.1.toNat * 64, none⟩)), .inl (.pointer (some ⟨gx, 0 + m.1.toNat * 64 + m.2.1.toNat * 1, none⟩))] 6 1 mixed rfl (by kernel_rfl) hS (Below.refl _ _) (fun _ h => h.drew) ?_))
            refine hs_is rfl (fun w' hw => runs_fieldK fo41_0 rfl) ?_
            refine hs_is rfl (fun w' hw => runs_load rfl pl3 ((hM12.below hw hM12.lt).at rfl)) ?_
            refine hs_is rfl (fun w' hw => runs_fieldK fo41_1 rfl) ?_
            refine hs_is rfl (fun w' hw => runs_load rfl pl3 ((hM12.below hw hM12.lt).at rfl)) ?_
            refine hs_is rfl (fun w' hw => runs_indexArrG (j := m.1.toNat) rfl rfl und68 siz67 (by omega) (by omega)) ?_
            refine hs_is rfl (fun w' hw => runs_indexArrG (j := m.2.1.toNat) rfl rfl und67 siz4 (by omega) (by omega)) ?_
            refine (fun a20 w20 hS hB20 hq => ?_)
            clear hq
            have hB := hB.trans (hB20.mono hB.size)
            have hG := hG.below hB20 hG.lt
            have hX := hX.below hB20 hX.lt
            have hM12 := hM12.below hB20 hM12.lt
            refine tail_none 6 (by kernel_rfl) rfl hS (runs_storeC rfl rfl rfl s1_4 hX (u := .bool ((es.any (fun e => place e == place m) && !(l.take i).any (fun e => place e == place m)))) (by rw [show 0 + m.1.toNat * 64 + m.2.1.toNat * 1 = place m by unfold place; omega]; exact freeL_get _ _ hpl)) (fun v22 w22 a22 hp hS => ⟨trivial, ?_⟩)
            obtain ⟨hX2, hU22⟩ := hp
            have hB2 := But.new (hBb1.trans (hB.mono hBb1.size)) hU22 (fun i e => by rw [e]; exact hLX) (Nat.le_refl _)
            have hG2 := hG.but hU22 (has_ne hG hX (by decide))
            rw [show 0 + m.1.toNat * 64 + m.2.1.toNat * 1 = place m by unfold place; omega] at hX2
            refine wpAnyH_done (by kernel_rfl) ?_ _
            refine reg_seq ?_
            refine sI hS (runs_add (r := ((i + 1 : Nat) : Int)) rfl rfl (by simp [IntKind.wrap, IntKind.bits, IntKind.signed]; omega)) fun _ hS => ?_
            refine sI hS (runs_move rfl) fun _ hS => ?_
            have hgood : goodM es (l.take i) m = true := by unfold goodM; rw [← hbit, Bool.eq_false_iff.2 hg]; rfl
            exact nil_ok ⟨_, by omega, i + 1, by omega, rfl, hB2, hG2, by rw [List.take_add_one, hmi, Option.toList_some, freeL_snoc]; exact hX2, by rw [List.take_add_one, hmi, Option.toList_some]; intro x hx; rcases List.mem_append.1 hx with hx | hx; exact hfd x hx; rw [List.mem_singleton] at hx; rw [hx]; exact hfm, by rw [hsd, hstep, hgood]; rfl, hS.only _ ⟨rfl, rfl, rfl, rfl, rfl, trivial⟩⟩
          · skip
            obtain rfl : bt = false := Bool.eq_false_iff.2 hb
            refine reg_guard (fun w' => Below w14.heap.size w14 w') [.inl (.pointer (some ⟨wl1.heap.size, 0 + 2, none⟩)), .inl (.int .i64 m.2.2), .inl (.bool false), .inl (.bool false), .inl (gv n (.slice A es.length c)), .inl (.pointer (some ⟨wl1.heap.size, 0 + 0, none⟩)), .inl (.int .i64 m.1), .inl (.bool true), .inl (.bool false), .inl (.bool false), .inl (.bool false), .inl (gv n (.slice A es.length c)), .inl (.pointer (some ⟨wl1.heap.size, 0 + 1, none⟩)), .inl (.int .i64 m.2.1), .inl (.bool true), .inl (.bool false), .inl (.bool false), .inl (.bool false), .inl (.pointer (some ⟨wl1.heap.size, 0 + 0, none⟩)), .inl (.int .i64 m.1), .inl (.pointer (some ⟨wl1.heap.size, 0 + 1, none⟩)), .inl (.int .i64 m.2.1), .inl (.pointer (some ⟨gx, 0 + m.1.toNat * 64, none⟩)), .inl (.pointer (some ⟨gx, 0 + m.1.toNat * 64 + m.2.1.toNat * 1, none⟩)), .inl (.bool false), .inl (.bool true), .inl (.bool true)] 27 0 mixed rfl (by kernel_rfl) hS (Below.refl _ _) (fun _ h => h.drew) ?_
            refine hs_is rfl (fun w' hw => runs_fieldK fo41_2 rfl) ?_
            refine hs_is rfl (fun w' hw => runs_load rfl pl2 ((hM12.below hw hM12.lt).at rfl)) ?_
            refine hs_is rfl (fun w' hw => runs_call (args := [.int .i64 m.2.2]) goes40 rfl (fgreat_is w' (Bool.eq_false_iff.2 hg))) ?_
            refine hs_is rfl (fun w' hw => runs_move rfl) ?_
            refine hs_yis rfl rfl (fun w' hw => runs_loadRow rfl (hG.below hw hG.lt) Try.underlying30 rfl (by rw [sz30]; rfl)) ?_
            refine hs_yis rfl rfl (fun w' hw => runs_fieldK fo41_0 rfl) ?_
            refine hs_yis rfl rfl (fun w' hw => runs_load rfl pl3 ((hM12.below hw hM12.lt).at rfl)) ?_
            refine hs_yval rfl rfl (fun w' hw hq => (runs_call (args := [gv n (.slice A es.length c), .int .i64 m.1]) goes50 rfl (vertex_is w' (b := true) (by simp [hv]))).mono (by rintro u w5 ⟨rfl, hb⟩; exact ⟨rfl, hw.trans (hb.mono hw.size), hb⟩)) ?_
            refine hs_yis rfl rfl (fun w' hw => runs_not (b := true) rfl) ?_
            refine hs_is rfl (fun w' hw => runs_pick rfl rfl) ?_
            refine hs_is rfl (fun w' hw => runs_move rfl) ?_
            refine hs_yis rfl rfl (fun w' hw => runs_loadRow rfl (hG.below hw hG.lt) Try.underlying30 rfl (by rw [sz30]; rfl)) ?_
            refine hs_yis rfl rfl (fun w' hw => runs_fieldK fo41_1 rfl) ?_
            refine hs_yis rfl rfl (fun w' hw => runs_load rfl pl3 ((hM12.below hw hM12.lt).at rfl)) ?_
            refine hs_yval rfl rfl (fun w' hw hq => (runs_call (args := [gv n (.slice A es.length c), .int .i64 m.2.1]) goes50 rfl (vertex_is w' (b := true) (by simp [ht]))).mono (by rintro u w5 ⟨rfl, hb⟩; exact ⟨rfl, hw.trans (hb.mono hw.size), hb⟩)) ?_
            refine hs_yis rfl rfl (fun w' hw => runs_not (b := true) rfl) ?_
            refine hs_is rfl (fun w' hw => runs_pick rfl rfl) ?_
            refine hs_is rfl (fun w' hw => runs_move rfl) ?_
            refine hs_yis rfl rfl (fun w' hw => runs_fieldK fo41_0 rfl) ?_
            refine hs_yis rfl rfl (fun w' hw => runs_load rfl pl3 ((hM12.below hw hM12.lt).at rfl)) ?_
            refine hs_yis rfl rfl (fun w' hw => runs_fieldK fo41_1 rfl) ?_
            refine hs_yis rfl rfl (fun w' hw => runs_load rfl pl3 ((hM12.below hw hM12.lt).at rfl)) ?_
            refine hs_yis rfl rfl (fun w' hw => runs_indexArrG (j := m.1.toNat) rfl rfl und68 siz67 (by omega) (by omega)) ?_
            refine hs_yis rfl rfl (fun w' hw => runs_indexArrG (j := m.2.1.toNat) rfl rfl und67 siz4 (by omega) (by omega)) ?_
            refine hs_yis rfl rfl (fun w' hw => runs_load rfl pl4 ((hX.below hw hX.lt).at (by rw [show 0 + m.1.toNat * 64 + m.2.1.toNat * 1 = place m by unfold place; omega, freeL_get _ _ hpl, hbt]))) ?_
            refine hs_yis rfl rfl (fun w' hw => runs_not (b := false) rfl) ?_
            refine hs_is rfl (fun w' hw => runs_pick rfl rfl) ?_
            refine (fun a23 w23 hS hB23 hq => ?_)
            clear hq
            have hB := hB.trans (hB23.mono hB.size)
            have hG := hG.below hB23 hG.lt
            have hM12 := hM12.below hB23 hM12.lt
            refine wpAnyH_done (by kernel_rfl) ?_ _
            refine wp_cond_true (hS.eval rfl) (qx_seq (reg_seq ?_))
            refine sI hS (runs_assign rfl) fun _ hS => ?_
            have hbad : goodM es (l.take i) m = false := by unfold goodM; rw [← hbit]; rfl
            have hfin : sendB es [] l = false := by rw [hsd, hstep, hbad]; rfl
            exact nil_ok (qx_ret (ret1 (t := 4) (by kernel_rfl) hS rfl ⟨_, rfl, by rw [hfin], (hBb1.trans ((hB).mono hBb1.size))⟩))
        · skip
          refine reg_guard (fun w' => Below w14.heap.size w14 w') [.inl (.pointer (some ⟨wl1.heap.size, 0 + 2, none⟩)), .inl (.int .i64 m.2.2), .inl (.bool false), .inl (.bool false), .inl (gv n (.slice A es.length c)), .inl (.pointer (some ⟨wl1.heap.size, 0 + 0, none⟩)), .inl (.int .i64 m.1), .inl (.bool true), .inl (.bool false), .inl (.bool false), .inl (.bool false), .inl (gv n (.slice A es.length c)), .inl (.pointer (some ⟨wl1.heap.size, 0 + 1, none⟩)), .inl (.int .i64 m.2.1), .inl (.bool false), .inl (.bool true), .inl (.bool true), .inl (.bool true), .inl undef, .inl undef, .inl undef, .inl undef, .inl undef, .inl undef, .inl undef, .inl undef, .inl (.bool true)] 27 0 mixed rfl (by kernel_rfl) hS (Below.refl _ _) (fun _ h => h.drew) ?_
          refine hs_is rfl (fun w' hw => runs_fieldK fo41_2 rfl) ?_
          refine hs_is rfl (fun w' hw => runs_load rfl pl2 ((hM12.below hw hM12.lt).at rfl)) ?_
          refine hs_is rfl (fun w' hw => runs_call (args := [.int .i64 m.2.2]) goes40 rfl (fgreat_is w' (Bool.eq_false_iff.2 hg))) ?_
          refine hs_is rfl (fun w' hw => runs_move rfl) ?_
          refine hs_yis rfl rfl (fun w' hw => runs_loadRow rfl (hG.below hw hG.lt) Try.underlying30 rfl (by rw [sz30]; rfl)) ?_
          refine hs_yis rfl rfl (fun w' hw => runs_fieldK fo41_0 rfl) ?_
          refine hs_yis rfl rfl (fun w' hw => runs_load rfl pl3 ((hM12.below hw hM12.lt).at rfl)) ?_
          refine hs_yval rfl rfl (fun w' hw hq => (runs_call (args := [gv n (.slice A es.length c), .int .i64 m.1]) goes50 rfl (vertex_is w' (b := true) (by simp [hv]))).mono (by rintro u w5 ⟨rfl, hb⟩; exact ⟨rfl, hw.trans (hb.mono hw.size), hb⟩)) ?_
          refine hs_yis rfl rfl (fun w' hw => runs_not (b := true) rfl) ?_
          refine hs_is rfl (fun w' hw => runs_pick rfl rfl) ?_
          refine hs_is rfl (fun w' hw => runs_move rfl) ?_
          refine hs_yis rfl rfl (fun w' hw => runs_loadRow rfl (hG.below hw hG.lt) Try.underlying30 rfl (by rw [sz30]; rfl)) ?_
          refine hs_yis rfl rfl (fun w' hw => runs_fieldK fo41_1 rfl) ?_
          refine hs_yis rfl rfl (fun w' hw => runs_load rfl pl3 ((hM12.below hw hM12.lt).at rfl)) ?_
          refine hs_yval rfl rfl (fun w' hw hq => (runs_call (args := [gv n (.slice A es.length c), .int .i64 m.2.1]) goes50 rfl (vertex_is w' (b := false) (by rw [Bool.eq_false_iff]; intro h; simp at h; omega))).mono (by rintro u w5 ⟨rfl, hb⟩; exact ⟨rfl, hw.trans (hb.mono hw.size), hb⟩)) ?_
          refine hs_yis rfl rfl (fun w' hw => runs_not (b := false) rfl) ?_
          refine hs_is rfl (fun w' hw => runs_pick rfl rfl) ?_
          refine hs_is rfl (fun w' hw => runs_move rfl) ?_
          refine hs_no rfl rfl rfl ?_
          refine hs_no rfl rfl rfl ?_
          refine hs_no rfl rfl rfl ?_
          refine hs_no rfl rfl rfl ?_
          refine hs_no rfl rfl rfl ?_
          refine hs_no rfl rfl rfl ?_
          refine hs_no rfl rfl rfl ?_
          refine hs_no rfl rfl rfl ?_
          refine hs_is rfl (fun w' hw => runs_pick rfl rfl) ?_
          refine (fun a25 w25 hS hB25 hq => ?_)
          clear hq
          have hB := hB.trans (hB25.mono hB.size)
          have hG := hG.below hB25 hG.lt
          have hM12 := hM12.below hB25 hM12.lt
          refine wpAnyH_done (by kernel_rfl) ?_ _
          refine wp_cond_true (hS.eval rfl) (qx_seq (reg_seq ?_))
          refine sI hS (runs_assign rfl) fun _ hS => ?_
          have hbad : goodM es (l.take i) m = false := good_out hall (.inr ht)
          have hfin : sendB es [] l = false := by rw [hsd, hstep, hbad]; rfl
          exact nil_ok (qx_ret (ret1 (t := 4) (by kernel_rfl) hS rfl ⟨_, rfl, by rw [hfin], (hBb1.trans ((hB).mono hBb1.size))⟩))
      · skip
        refine reg_guard (fun w' => Below w14.heap.size w14 w') [.inl (.pointer (some ⟨wl1.heap.size, 0 + 2, none⟩)), .inl (.int .i64 m.2.2), .inl (.bool false), .inl (.bool false), .inl (gv n (.slice A es.length c)), .inl (.pointer (some ⟨wl1.heap.size, 0 + 0, none⟩)), .inl (.int .i64 m.1), .inl (.bool false), .inl (.bool true), .inl (.bool true), .inl (.bool true), .inl undef, .inl undef, .inl undef, .inl undef, .inl undef, .inl (.bool true), .inl (.bool true), .inl undef, .inl undef, .inl undef, .inl undef, .inl undef, .inl undef, .inl undef, .inl undef, .inl (.bool true)] 27 0 mixed rfl (by kernel_rfl) hS (Below.refl _ _) (fun _ h => h.drew) ?_
        refine hs_is rfl (fun w' hw => runs_fieldK fo41_2 rfl) ?_
        refine hs_is rfl (fun w' hw => runs_load rfl pl2 ((hM12.below hw hM12.lt).at rfl)) ?_
        refine hs_is rfl (fun w' hw => runs_call (args := [.int .i64 m.2.2]) goes40 rfl (fgreat_is w' (Bool.eq_false_iff.2 hg))) ?_
        refine hs_is rfl (fun w' hw => runs_move rfl) ?_
        refine hs_yis rfl rfl (fun w' hw => runs_loadRow rfl (hG.below hw hG.lt) Try.underlying30 rfl (by rw [sz30]; rfl)) ?_
        refine hs_yis rfl rfl (fun w' hw => runs_fieldK fo41_0 rfl) ?_
        refine hs_yis rfl rfl (fun w' hw => runs_load rfl pl3 ((hM12.below hw hM12.lt).at rfl)) ?_
        refine hs_yval rfl rfl (fun w' hw hq => (runs_call (args := [gv n (.slice A es.length c), .int .i64 m.1]) goes50 rfl (vertex_is w' (b := false) (by rw [Bool.eq_false_iff]; intro h; simp at h; omega))).mono (by rintro u w5 ⟨rfl, hb⟩; exact ⟨rfl, hw.trans (hb.mono hw.size), hb⟩)) ?_
        refine hs_yis rfl rfl (fun w' hw => runs_not (b := false) rfl) ?_
        refine hs_is rfl (fun w' hw => runs_pick rfl rfl) ?_
        refine hs_is rfl (fun w' hw => runs_move rfl) ?_
        refine hs_no rfl rfl rfl ?_
        refine hs_no rfl rfl rfl ?_
        refine hs_no rfl rfl rfl ?_
        refine hs_no rfl rfl rfl ?_
        refine hs_no rfl rfl rfl ?_
        refine hs_is rfl (fun w' hw => runs_pick rfl rfl) ?_
        refine hs_is rfl (fun w' hw => runs_move rfl) ?_
        refine hs_no rfl rfl rfl ?_
        refine hs_no rfl rfl rfl ?_
        refine hs_no rfl rfl rfl ?_
        refine hs_no rfl rfl rfl ?_
        refine hs_no rfl rfl rfl ?_
        refine hs_no rfl rfl rfl ?_
        refine hs_no rfl rfl rfl ?_
        refine hs_no rfl rfl rfl ?_
        refine hs_is rfl (fun w' hw => runs_pick rfl rfl) ?_
        refine (fun a27 w27 hS hB27 hq => ?_)
        clear hq
        have hB := hB.trans (hB27.mono hB.size)
        refine wpAnyH_done (by kernel_rfl) ?_ _
        refine wp_cond_true (hS.eval rfl) (qx_seq (reg_seq ?_))
        refine sI hS (runs_assign rfl) fun _ hS => ?_
        have hbad : goodM es (l.take i) m = false := good_out hall (.inl hv)
        have hfin : sendB es [] l = false := by rw [hsd, hstep, hbad]; rfl
        exact nil_ok (qx_ret (ret1 (t := 4) (by kernel_rfl) hS rfl ⟨_, rfl, by rw [hfin], (hBb1.trans ((hB).mono hBb1.size))⟩))
  refine sI hS (lssF rfl rfl (by omega)) fun _ hS => ?_
  obtain rfl : i = l.length := by omega
  refine nil_ok ⟨_, hS.eval rfl, fun _ => ?_, fun h => by simp at h⟩
  have hB := hBb1
  rw [List.take_length, List.drop_length] at hsd
  refine qx_seq (reg_seq ?_)
  refine sI hS (runs_assign rfl) fun _ hS => ?_
  have hfin : sendB es [] l = true := by rw [hsd]; rfl
  exact nil_ok (qx_ret (ret1 (t := 4) (by kernel_rfl) hS rfl ⟨_, rfl, by rw [hfin], hB⟩))
/-- May messages be sent along a graph's edges? -/
def sentB (n : Int) (es l : List E) : Bool := checkZ n es == 0 && sendB es [] l
set_option maxHeartbeats 1000000 in
theorem fcheck_any (n : Int) (es : List E) (v : Value) (l : List E) (hl : l.length ≤ 10000) (vm : Value) (w : World) (hE : Edges w v es) (hM : Edges w vm l) : Ans 19 [gv n v, vm] w (fun u w' => u = .int .i64 (if sentB n es l = true then 0 else 80) ∧ Below w.heap.size w w') := by
  refine calls_qx (args := [gv n (v), vm]) 14 Try.func19 rfl (by kernel_rfl) (by simp) (fun a hS => ?_)
  have hB := Below.refl w.heap.size w
  have hEb := hE
  have hMb := hM
  refine qx_seq (reg_seq ?_)
  refine seq_op hS (by decide) (runs_boxB (cs := [.int .i64 n, v]) rfl rfl) (fun v1 w1 a1 hp hS => ?_)
  obtain ⟨rfl, hM1, hB1⟩ := hp
  have hB := hB.trans (hB1.mono hB.size)
  have hE := hEb.kept hB
  have hM := hMb.kept hB
  refine sI hS (runs_assign rfl) fun _ hS => ?_
  refine nil_ok (qx_seq (qx_seq (reg_seq ?_)))
  refine sI hS (runs_loadRow rfl hM1 Try.underlying30 rfl (by rw [sz30]; rfl)) fun _ hS => ?_
  refine seq_op hS (by decide) (runs_call (args := [gv n v]) goes34 rfl (check_any n es v w1 hE)) (fun v3 w3 a1 hp hS => ?_)
  obtain ⟨rfl, hB3⟩ := hp
  have hB := hB.trans (hB3.mono hB.size)
  have hM1 := hM1.below hB3 hM1.lt
  have hE := hEb.kept hB
  have hM := hMb.kept hB
  by_cases h1 : checkZ n es ≠ 0
  · skip
    refine sI hS (runs_neq (r := true) rfl rfl (by simpa using h1)) fun _ hS => ?_
    refine sI hS (runs_move rfl) fun _ hS => ?_
    refine sN hS fun _ hS => ?_
    refine sN hS fun _ hS => ?_
    refine sN hS fun _ hS => ?_
    refine sN hS fun _ hS => ?_
    refine sI hS (runs_pick rfl rfl) fun _ hS => ?_
    refine nil_ok (wp_cond_true (hS.eval rfl) (qx_seq (reg_seq ?_)))
    refine sI hS (runs_assign rfl) fun _ hS => ?_
    exact nil_ok (qx_ret (ret1 (t := 4) (by kernel_rfl) hS rfl ⟨_, rfl, by unfold sentB; simp [h1], hB⟩))
  refine sI hS (runs_neq (r := false) rfl rfl (by simpa using h1)) fun _ hS => ?_
  refine sI hS (runs_move rfl) fun _ hS => ?_
  refine sY hS (runs_loadRow rfl hM1 Try.underlying30 rfl (by rw [sz30]; rfl)) fun _ hS => ?_
  refine sY hS (runs_move rfl) fun _ hS => ?_
  refine seq_yes hS (by decide) rfl (by decide) rfl (runs_call (args := [gv n v, vm]) goes35 rfl (sendable_any n es v (Classical.not_not.1 h1) l hl vm w3 hE hM)) (fun v5 w5 a1 hp hS => ?_)
  obtain ⟨rfl, hB5⟩ := hp
  have hB := hB.trans (hB5.mono hB.size)
  by_cases h2 : sendB es [] l = true
  · skip
    rw [h2] at hS
    refine sY hS (runs_not (b := true) rfl) fun _ hS => ?_
    refine sI hS (runs_pick rfl rfl) fun _ hS => ?_
    refine nil_ok (wp_cond_false (hS.eval rfl) (wp_skip (qx_seq (reg_seq ?_))))
    refine sI hS (runs_assign rfl) fun _ hS => ?_
    exact nil_ok (qx_ret (ret1 (t := 4) (by kernel_rfl) hS rfl ⟨_, rfl, by unfold sentB; simp [Classical.not_not.1 h1, h2], hB⟩))
  · skip
    rw [Bool.eq_false_iff.2 h2] at hS
    refine sY hS (runs_not (b := false) rfl) fun _ hS => ?_
    refine sI hS (runs_pick rfl rfl) fun _ hS => ?_
    refine nil_ok (wp_cond_true (hS.eval rfl) (qx_seq (reg_seq ?_)))
    refine sI hS (runs_assign rfl) fun _ hS => ?_
    exact nil_ok (qx_ret (ret1 (t := 4) (by kernel_rfl) hS rfl ⟨_, rfl, by unfold sentB; simp [Classical.not_not.1 h1, h2], hB⟩))
end Go.Proofs.Ythenbmalnmaofaa
