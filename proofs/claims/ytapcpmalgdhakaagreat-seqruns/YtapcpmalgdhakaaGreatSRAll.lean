/- The document's Right, and what is sent to all. Conditions: none of our own. -/
import Derived.Test.YtapcpmalgdhakaaGreatSStep
import Derived.Test.YtapcpmalgdhakaaGreatRCheck
import Derived.Test.YtapcpmalgdhakaaGreatROut
import Derived.Test.YtapcpmalgdhakaaGreatEngW
import Derived.Test.YtapcpmalgdhakaaGreatSFAll
namespace Go.Proofs.YtapcpmalgdhakaaGreat
open Go.RowKit
set_option maxRecDepth 100000

set_option maxHeartbeats 1000000 in
theorem right_any (n : Int) (es : List E) (v : Value) (tg : ByteArray) (src steps : Int) (w : World) (hE : Edges w v es) :
    Ans 19 [gv n v, jv tg src steps] w (fun u w' => u = .bool (jobB n es (kindL tg.data.toList) src steps) ∧ Below w.heap.size w w') := by
  refine calls_qx (args := [gv n (v), .agg (jc tg src steps).toArray]) 35 Tryz.func19 rfl (by kernel_rfl) (by simp) (fun a hS => ?_)
  have hB := Below.refl w.heap.size w
  have hEb := hE
  refine qx_seq (reg_seq ?_)
  refine seq_op hS (by decide) (runs_boxB (cs := [.int .i64 n, v]) rfl rfl) (fun v1 w1 a1 hp hS => ?_)
  obtain ⟨rfl, hM1, hB1⟩ := hp
  have hB := hB.trans (hB1.mono hB.size)
  have hE := hEb.kept hB
  refine seq_op hS (by decide) (runs_boxB (cs := jc tg src steps) rfl rfl) (fun v3 w3 a1 hp hS => ?_)
  obtain ⟨rfl, hM3, hB3⟩ := hp
  have hB := hB.trans (hB3.mono hB.size)
  have hM1 := hM1.below hB3 hM1.lt
  have hE := hEb.kept hB
  refine sI hS (runs_assign rfl) fun _ hS => ?_
  refine nil_ok (qx_seq (reg_seq ?_))
  refine sI hS (runs_loadRow rfl hM1 Tryz.underlying24 rfl (by rw [sz24]; rfl)) fun _ hS => ?_
  refine seq_op hS (by decide) (runs_call (args := [gv n v]) goes36 rfl (rcheck_any n es v w3 hE)) (fun v5 w5 a1 hp hS => ?_)
  obtain ⟨rfl, hB5⟩ := hp
  have hB := hB.trans (hB5.mono hB.size)
  have hM1 := hM1.below hB5 hM1.lt
  have hM3 := hM3.below hB5 hM3.lt
  by_cases h1 : checkZ n es = 0
  · skip
    refine sI hS (runs_eql (r := true) rfl rfl (by simpa using h1)) fun _ hS => ?_
    refine sI hS (runs_move rfl) fun _ hS => ?_
    refine sY hS (runs_fieldK fo26_0 rfl) fun _ hS => ?_
    refine sY hS (runs_load rfl pl9 (hM3.at rfl)) fun _ hS => ?_
    by_cases h2 : kindL tg.data.toList ≠ 0
    · skip
      refine sY hS (runs_call (args := [.string tg]) goes37 rfl (rknown_is _ w5 (b := true) (by simpa using h2))) fun _ hS => ?_
      refine sI hS (runs_pick rfl rfl) fun _ hS => ?_
      refine sI hS (runs_move rfl) fun _ hS => ?_
      refine sY hS (runs_fieldK fo26_1 rfl) fun _ hS => ?_
      refine sY hS (runs_load rfl pl3 (hM3.at rfl)) fun _ hS => ?_
      by_cases h3 : src ≥ 0
      · skip
        refine sY hS (geqT rfl rfl (by omega)) fun _ hS => ?_
        refine sI hS (runs_pick rfl rfl) fun _ hS => ?_
        refine sI hS (runs_move rfl) fun _ hS => ?_
        refine sY hS (runs_fieldK fo26_1 rfl) fun _ hS => ?_
        refine sY hS (runs_load rfl pl3 (hM3.at rfl)) fun _ hS => ?_
        refine sY hS (runs_fieldK fo24_0 rfl) fun _ hS => ?_
        refine sY hS (runs_load rfl pl3 (hM1.at rfl)) fun _ hS => ?_
        by_cases h4 : src < n
        · skip
          refine sY hS (lssT rfl rfl (by omega)) fun _ hS => ?_
          refine sI hS (runs_pick rfl rfl) fun _ hS => ?_
          refine sI hS (runs_move rfl) fun _ hS => ?_
          refine sY hS (runs_fieldK fo26_2 rfl) fun _ hS => ?_
          refine sY hS (runs_load rfl pl3 (hM3.at rfl)) fun _ hS => ?_
          by_cases h5 : steps ≥ 1
          · skip
            refine sY hS (geqT rfl rfl (by omega)) fun _ hS => ?_
            refine sI hS (runs_pick rfl rfl) fun _ hS => ?_
            refine sI hS (runs_move rfl) fun _ hS => ?_
            refine sY hS (runs_fieldK fo26_2 rfl) fun _ hS => ?_
            refine sY hS (runs_load rfl pl3 (hM3.at rfl)) fun _ hS => ?_
            by_cases h6 : steps ≤ 64
            · skip
              refine sY hS (leqT rfl rfl (by omega)) fun _ hS => ?_
              refine sI hS (runs_pick rfl rfl) fun _ hS => ?_
              refine sI hS (runs_assign rfl) fun _ hS => ?_
              exact nil_ok (qx_ret (ret1 (t := 4) (by kernel_rfl) hS rfl ⟨_, rfl, by first | rw [job_iff.2 (by omega)] | rw [show jobB n es (kindL tg.data.toList) src steps = false from Bool.eq_false_iff.2 (fun h => by have := job_iff.1 h; omega)], hB⟩))
            refine sY hS (leqF rfl rfl (by omega)) fun _ hS => ?_
            refine sI hS (runs_pick rfl rfl) fun _ hS => ?_
            refine sI hS (runs_assign rfl) fun _ hS => ?_
            exact nil_ok (qx_ret (ret1 (t := 4) (by kernel_rfl) hS rfl ⟨_, rfl, by first | rw [job_iff.2 (by omega)] | rw [show jobB n es (kindL tg.data.toList) src steps = false from Bool.eq_false_iff.2 (fun h => by have := job_iff.1 h; omega)], hB⟩))
          refine sY hS (geqF rfl rfl (by omega)) fun _ hS => ?_
          refine sI hS (runs_pick rfl rfl) fun _ hS => ?_
          refine sI hS (runs_move rfl) fun _ hS => ?_
          refine sN hS fun _ hS => ?_
          refine sN hS fun _ hS => ?_
          refine sN hS fun _ hS => ?_
          refine sI hS (runs_pick rfl rfl) fun _ hS => ?_
          refine sI hS (runs_assign rfl) fun _ hS => ?_
          exact nil_ok (qx_ret (ret1 (t := 4) (by kernel_rfl) hS rfl ⟨_, rfl, by first | rw [job_iff.2 (by omega)] | rw [show jobB n es (kindL tg.data.toList) src steps = false from Bool.eq_false_iff.2 (fun h => by have := job_iff.1 h; omega)], hB⟩))
        refine sY hS (lssF rfl rfl (by omega)) fun _ hS => ?_
        refine sI hS (runs_pick rfl rfl) fun _ hS => ?_
        refine sI hS (runs_move rfl) fun _ hS => ?_
        refine sN hS fun _ hS => ?_
        refine sN hS fun _ hS => ?_
        refine sN hS fun _ hS => ?_
        refine sI hS (runs_pick rfl rfl) fun _ hS => ?_
        refine sI hS (runs_move rfl) fun _ hS => ?_
        refine sN hS fun _ hS => ?_
        refine sN hS fun _ hS => ?_
        refine sN hS fun _ hS => ?_
        refine sI hS (runs_pick rfl rfl) fun _ hS => ?_
        refine sI hS (runs_assign rfl) fun _ hS => ?_
        exact nil_ok (qx_ret (ret1 (t := 4) (by kernel_rfl) hS rfl ⟨_, rfl, by first | rw [job_iff.2 (by omega)] | rw [show jobB n es (kindL tg.data.toList) src steps = false from Bool.eq_false_iff.2 (fun h => by have := job_iff.1 h; omega)], hB⟩))
      refine sY hS (geqF rfl rfl (by omega)) fun _ hS => ?_
      refine sI hS (runs_pick rfl rfl) fun _ hS => ?_
      refine sI hS (runs_move rfl) fun _ hS => ?_
      refine sN hS fun _ hS => ?_
      refine sN hS fun _ hS => ?_
      refine sN hS fun _ hS => ?_
      refine sN hS fun _ hS => ?_
      refine sN hS fun _ hS => ?_
      refine sI hS (runs_pick rfl rfl) fun _ hS => ?_
      refine sI hS (runs_move rfl) fun _ hS => ?_
      refine sN hS fun _ hS => ?_
      refine sN hS fun _ hS => ?_
      refine sN hS fun _ hS => ?_
      refine sI hS (runs_pick rfl rfl) fun _ hS => ?_
      refine sI hS (runs_move rfl) fun _ hS => ?_
      refine sN hS fun _ hS => ?_
      refine sN hS fun _ hS => ?_
      refine sN hS fun _ hS => ?_
      refine sI hS (runs_pick rfl rfl) fun _ hS => ?_
      refine sI hS (runs_assign rfl) fun _ hS => ?_
      exact nil_ok (qx_ret (ret1 (t := 4) (by kernel_rfl) hS rfl ⟨_, rfl, by first | rw [job_iff.2 (by omega)] | rw [show jobB n es (kindL tg.data.toList) src steps = false from Bool.eq_false_iff.2 (fun h => by have := job_iff.1 h; omega)], hB⟩))
    refine sY hS (runs_call (args := [.string tg]) goes37 rfl (rknown_is _ w5 (b := false) (by simpa using h2))) fun _ hS => ?_
    refine sI hS (runs_pick rfl rfl) fun _ hS => ?_
    refine sI hS (runs_move rfl) fun _ hS => ?_
    refine sN hS fun _ hS => ?_
    refine sN hS fun _ hS => ?_
    refine sN hS fun _ hS => ?_
    refine sI hS (runs_pick rfl rfl) fun _ hS => ?_
    refine sI hS (runs_move rfl) fun _ hS => ?_
    refine sN hS fun _ hS => ?_
    refine sN hS fun _ hS => ?_
    refine sN hS fun _ hS => ?_
    refine sN hS fun _ hS => ?_
    refine sN hS fun _ hS => ?_
    refine sI hS (runs_pick rfl rfl) fun _ hS => ?_
    refine sI hS (runs_move rfl) fun _ hS => ?_
    refine sN hS fun _ hS => ?_
    refine sN hS fun _ hS => ?_
    refine sN hS fun _ hS => ?_
    refine sI hS (runs_pick rfl rfl) fun _ hS => ?_
    refine sI hS (runs_move rfl) fun _ hS => ?_
    refine sN hS fun _ hS => ?_
    refine sN hS fun _ hS => ?_
    refine sN hS fun _ hS => ?_
    refine sI hS (runs_pick rfl rfl) fun _ hS => ?_
    refine sI hS (runs_assign rfl) fun _ hS => ?_
    exact nil_ok (qx_ret (ret1 (t := 4) (by kernel_rfl) hS rfl ⟨_, rfl, by first | rw [job_iff.2 (by omega)] | rw [show jobB n es (kindL tg.data.toList) src steps = false from Bool.eq_false_iff.2 (fun h => by have := job_iff.1 h; omega)], hB⟩))
  refine sI hS (runs_eql (r := false) rfl rfl (by simpa using h1)) fun _ hS => ?_
  refine sI hS (runs_move rfl) fun _ hS => ?_
  refine sN hS fun _ hS => ?_
  refine sN hS fun _ hS => ?_
  refine sN hS fun _ hS => ?_
  refine sI hS (runs_pick rfl rfl) fun _ hS => ?_
  refine sI hS (runs_move rfl) fun _ hS => ?_
  refine sN hS fun _ hS => ?_
  refine sN hS fun _ hS => ?_
  refine sN hS fun _ hS => ?_
  refine sI hS (runs_pick rfl rfl) fun _ hS => ?_
  refine sI hS (runs_move rfl) fun _ hS => ?_
  refine sN hS fun _ hS => ?_
  refine sN hS fun _ hS => ?_
  refine sN hS fun _ hS => ?_
  refine sN hS fun _ hS => ?_
  refine sN hS fun _ hS => ?_
  refine sI hS (runs_pick rfl rfl) fun _ hS => ?_
  refine sI hS (runs_move rfl) fun _ hS => ?_
  refine sN hS fun _ hS => ?_
  refine sN hS fun _ hS => ?_
  refine sN hS fun _ hS => ?_
  refine sI hS (runs_pick rfl rfl) fun _ hS => ?_
  refine sI hS (runs_move rfl) fun _ hS => ?_
  refine sN hS fun _ hS => ?_
  refine sN hS fun _ hS => ?_
  refine sN hS fun _ hS => ?_
  refine sI hS (runs_pick rfl rfl) fun _ hS => ?_
  refine sI hS (runs_assign rfl) fun _ hS => ?_
  exact nil_ok (qx_ret (ret1 (t := 4) (by kernel_rfl) hS rfl ⟨_, rfl, by first | rw [job_iff.2 (by omega)] | rw [show jobB n es (kindL tg.data.toList) src steps = false from Bool.eq_false_iff.2 (fun h => by have := job_iff.1 h; omega)], hB⟩))
theorem owns_emptyM {w : World} {g B : Nat} (h : w.heap[g]? = some (.cells #[] 61 (0, 0))) (hB : B ≤ g) : w.ownsRow B 61 3 (.slice (some ⟨g, 0, none⟩) 0 0) 0 [] :=
  ⟨rfl, .inr ⟨g, 0, #[], rfl, hB, h, Nat.le_refl _, by unfold maxLen; omega, rfl, rfl⟩⟩
theorem none_ownM {L : List (Nat × Value)} {w : World} {ty : TypeId} {B : Nat} (hB : B ≤ w.heap.size) : Runs Tryz.prog (.buildSlice 29 0 #[]) ty L w (fun v w' => w'.ownsRow B 61 3 v 0 [] ∧ Below w.heap.size w w') := by
  obtain ⟨i48, hi48, hz48, hs48, hb48⟩ := info_parts inf48
  exact (runs_buildNone und32 hi48).mono (by rintro v w3 ⟨rfl, rfl⟩; exact ⟨owns_emptyM (heap_alloc_new _ _) hB, (Below.refl _ _).alloc (Nat.le_refl _) _⟩)
def allF (val count : Int) (x : Int) : Int := if count = 1 then val + 1 else if count = 2 then val + x else val
set_option maxHeartbeats 1000000 in
theorem rall_any (l : List E) (hsm : l.length ≤ 600) (v : Value) (val count : Int) (w : World) (hE : Edges w v l) (hv1 : -2000000000000000 ≤ val) (hv2 : val ≤ 2000000000000000) (hlw : ∀ e ∈ l, 0 ≤ e.2.2 ∧ e.2.2 ≤ 1048576) :
    Ans 73 [v, .int .i64 val, .int .i64 count] w (fun u w' => Below w.heap.size w w' ∧ w'.ownsRow w.heap.size 61 3 u (sendTo l (allF val count)).length (cellsE (sendTo l (allF val count)))) := by
  obtain ⟨A, c, rfl, h1, h2, hA⟩ := hE
  have hE : Edges w (.slice A l.length c) l := ⟨A, c, rfl, h1, h2, hA⟩
  refine calls_qx (args := [.slice A l.length c, .int .i64 val, .int .i64 count]) 51 Tryz.func73 rfl (by kernel_rfl) (by simp) (fun a hS => ?_)
  have hB := Below.refl w.heap.size w
  have hEb := hE
  refine qx_seq (reg_seq ?_)
  refine sI hS (runs_assign rfl) fun _ hS => ?_
  refine nil_ok (qx_seq (reg_seq ?_))
  refine seq_op hS (by decide) (none_ownM (B := w.heap.size) (Nat.le_refl _)) (fun v1 w1 a1 hp hS => ?_)
  obtain ⟨hown, hB1⟩ := hp
  have hB := hB.trans (hB1.mono hB.size)
  have hE := hEb.kept hB
  refine sI hS (runs_assign rfl) fun _ hS => ?_
  refine nil_ok (qx_seq (qx_seq (reg_seq ?_)))
  refine sI hS (runs_assign rfl) fun _ hS => ?_
  refine nil_ok (?_)
  refine qx_for (fun mm a w' => ∃ (i : Nat) (sv : Value), i ≤ l.length ∧ mm = l.length - i ∧ Below w.heap.size w w' ∧ w'.ownsRow w.heap.size 61 3 sv (sendTo (l.take i) (allF val count)).length (cellsE (sendTo (l.take i) (allF val count))) ∧ Sees 51 [(8, .int .i64 (i : Int)), (7, sv), (2, .int .i64 count), (1, .int .i64 val), (0, .slice A l.length c)] a) l.length ⟨0, _, by omega, by omega, hB, hown, hS.only _ ⟨rfl, rfl, rfl, rfl, rfl, trivial⟩⟩ ?_
  clear hS hown
  rintro mm a wl1 ⟨i, sv, hi, rfl, hBb, hown, hS⟩
  have hE := hEb.kept hBb
  have hB := Below.refl wl1.heap.size wl1
  refine reg_seq ?_
  refine sI hS (runs_move rfl) fun _ hS => ?_
  refine sI hS (runs_move rfl) fun _ hS => ?_
  refine sI hS (runs_len rfl und22) fun _ hS => ?_
  by_cases hlt1 : i < l.length
  · skip
    refine sI hS (lssT rfl rfl (by omega)) fun _ hS => ?_
    refine nil_ok ⟨_, hS.eval rfl, fun h => by simp at h, fun _ => ?_⟩
    obtain ⟨e, hei⟩ : ∃ e, l[i]? = some e := ⟨l[i], by simp [hlt1]⟩
    obtain ⟨b, o, hAe, hbw, hr⟩ := edges_row hE (by omega)
    have hre := edges_at hr hei
    have hmem := List.mem_of_getElem? hei
    have hwe := hlw e hmem
    have hownb := hown
    refine qx_seq (qx_block (qx_seq (reg_guard (fun w' => Below wl1.heap.size wl1 w') [.inl (.slice A l.length c), .inl (.int .i64 (i : Int)), .inl (.pointer (some ⟨b, o + i * 3, none⟩)), .inl (.pointer (some ⟨b, o + i * 3 + 0, none⟩)), .inl (.int .i64 e.1), .inl (.slice A l.length c), .inl (.int .i64 (i : Int)), .inl (.pointer (some ⟨b, o + i * 3, none⟩)), .inl (.pointer (some ⟨b, o + i * 3 + 1, none⟩)), .inl (.int .i64 e.2.1), .inl (.int .i64 val), .inl (.agg #[.int .i64 e.1, .int .i64 e.2.1, .int .i64 val]), .inr (fun v w' => ∃ g, v = .pointer (some ⟨g, 0, none⟩) ∧ wl1.heap.size ≤ g ∧ Has w' g 61 [.int .i64 0, .int .i64 0, .int .i64 0])] 13 1 mixed rfl (by kernel_rfl) hS (Below.refl _ _) (fun _ h => h.drew) ?_)))
    refine hs_is rfl (fun w' hw => runs_move rfl) ?_
    refine hs_is rfl (fun w' hw => runs_move rfl) ?_
    refine hs_is rfl (fun w' hw => runs_indexAddrG (j := i) (by rw [← hAe]; rfl) rfl und22 siz45 rfl hlt1) ?_
    refine hs_is rfl (fun w' hw => runs_fieldK fo46_0 rfl) ?_
    refine hs_is rfl (fun w' hw => runs_load rfl pl3 (range_below hre hw hbw 0 _ rfl)) ?_
    refine hs_is rfl (fun w' hw => runs_move rfl) ?_
    refine hs_is rfl (fun w' hw => runs_move rfl) ?_
    refine hs_is rfl (fun w' hw => runs_indexAddrG (j := i) (by rw [← hAe]; rfl) rfl und22 siz45 rfl hlt1) ?_
    refine hs_is rfl (fun w' hw => runs_fieldK fo46_1 rfl) ?_
    refine hs_is rfl (fun w' hw => runs_load rfl pl3 (range_below hre hw hbw 1 _ rfl)) ?_
    refine hs_is rfl (fun w' hw => runs_move rfl) ?_
    refine hs_is rfl (fun w' hw => runs_buildK (pv := [(0, .int .i64 e.1), (1, .int .i64 e.2.1), (2, .int .i64 val)]) (cells := #[.int .i64 e.1, .int .i64 e.2.1, .int .i64 val]) rfl (by kernel_rfl)) ?_
    refine hs_pr rfl (fun _ _ _ h hb => by obtain ⟨g, h1, h2, h3⟩ := h; exact ⟨g, h1, h2, h3.below hb h3.lt⟩) (fun w' hw hq => (runs_allocB (cs := [.int .i64 0, .int .i64 0, .int .i64 0]) zo48 rfl).mono (by rintro v w5 ⟨rfl, h2, h3⟩; exact ⟨⟨_, rfl, hw.size, h2⟩, hw.trans (h3.mono hw.size), h3⟩)) (fun v54 => ?_)
    refine (fun a3 w3 hS hB3 hq => ?_)
    obtain ⟨gm, rfl, hLhM, hM⟩ := (hq (12, _) List.mem_cons_self)
    clear hq
    have hB := hB.trans (hB3.mono hB.size)
    refine tail_none 13 (by kernel_rfl) rfl hS (runs_storeB (cs := [.int .i64 e.1, .int .i64 e.2.1, .int .i64 val]) rfl rfl hM rfl rfl sz48) (fun v5 w5 a5 hp hS => ⟨trivial, ?_⟩)
    obtain ⟨hM, hU5⟩ := hp
    have hB := But.new hB hU5 (fun i e => by rw [e]; exact hLhM) (Nat.le_refl _)
    refine wpAnyH_done (by kernel_rfl) ?_ _
    refine qx_seq (qx_seq (reg_seq ?_))
    refine sI hS (runs_move rfl) fun _ hS => ?_
    by_cases c1 : count = 1
    · skip
      refine sI hS (runs_eql (r := true) rfl rfl (by simp [c1])) fun _ hS => ?_
      refine nil_ok (wp_cond_true (hS.eval rfl) (reg_seq ?_))
      refine sI hS (runs_fieldK fo48_2 rfl) fun _ hS => ?_
      refine sI hS (runs_load rfl pl2 (hM.at rfl)) fun _ hS => ?_
      refine sI hS (runs_add rfl rfl (wrap64 (by omega) (by omega))) fun _ hS => ?_
      refine sI hS (runs_fieldK fo48_2 rfl) fun _ hS => ?_
      refine seq_none hS (runs_storeC rfl rfl rfl s1_2 hM rfl) (fun v7 w7 a1 hp hS => ?_)
      obtain ⟨hM, hU7⟩ := hp
      have hB := But.new hB hU7 (fun i e => by rw [e]; exact hLhM) (Nat.le_refl _)
      refine nil_ok (qx_seq (qx_seq (reg_seq ?_)))
      refine sI hS (runs_move rfl) fun _ hS => ?_
      by_cases c2 : count = 2
      · skip
        refine sI hS (runs_eql (r := true) rfl rfl (by simp [c2])) fun _ hS => ?_
        refine nil_ok (wp_cond_true (hS.eval rfl) (reg_guard (fun w' => Below w7.heap.size w7 w') [.inl (.pointer (some ⟨gm, 0 + 2, none⟩)), .inl (.int .i64 (val + 1)), .inl (.slice A l.length c), .inl (.int .i64 (i : Int)), .inl (.pointer (some ⟨b, o + i * 3, none⟩)), .inl (.pointer (some ⟨b, o + i * 3 + 2, none⟩)), .inl (.int .i64 e.2.2), .inl (.int .i64 ( (val + 1) + e.2.2))] 8 2 mixed rfl (by kernel_rfl) hS (Below.refl _ _) (fun _ h => h.drew) ?_))
        refine hs_is rfl (fun w' hw => runs_fieldK fo48_2 rfl) ?_
        refine hs_is rfl (fun w' hw => runs_load rfl pl2 ((hM.below hw hM.lt).at rfl)) ?_
        refine hs_is rfl (fun w' hw => runs_move rfl) ?_
        refine hs_is rfl (fun w' hw => runs_move rfl) ?_
        refine hs_is rfl (fun w' hw => runs_indexAddrG (j := i) (by rw [← hAe]; rfl) rfl und22 siz45 rfl hlt1) ?_
        refine hs_is rfl (fun w' hw => runs_fieldK fo46_2 rfl) ?_
        refine hs_is rfl (fun w' hw => runs_load rfl pl2 (range_below (range_below hre hB hbw) hw (Nat.lt_of_lt_of_le hbw hB.size) 2 _ rfl)) ?_
        refine hs_is rfl (fun w' hw => runs_add rfl rfl (wrap64 (by omega) (by omega))) ?_
        refine (fun a9 w9 hS hB9 hq => ?_)
        clear hq
        have hB := hB.trans (hB9.mono hB.size)
        have hM := hM.below hB9 hM.lt
        refine tail_op 8 (by kernel_rfl) rfl hS (by decide) (runs_fieldK fo48_2 rfl) (fun v11 w11 a11 hp hS => ⟨trivial, ?_⟩)
        obtain ⟨rfl, rfl⟩ := hp
        refine tail_none 9 (by kernel_rfl) rfl hS (runs_storeC rfl rfl rfl s1_2 hM rfl) (fun v12 w12 a12 hp hS => ⟨trivial, ?_⟩)
        obtain ⟨hM, hU12⟩ := hp
        have hB := But.new hB hU12 (fun i e => by rw [e]; exact hLhM) (Nat.le_refl _)
        refine wpAnyH_done (by kernel_rfl) ?_ _
        refine reg_seq ?_
        refine sI hS (runs_move rfl) fun _ hS => ?_
        refine sI hS (runs_loadRow rfl hM Tryz.underlying61 rfl (by rw [sz48]; rfl)) fun _ hS => ?_
        refine seq_op hS (by decide) (runs_oneM (e := (e.1, e.2.1,  ( (val + 1) + e.2.2))) rfl) (fun v14 w14 a1 hp hS => ?_)
        obtain ⟨g2, rfl, hX, hB14⟩ := hp
        have hB := hB.trans (hB14.mono hB.size)
        have hM := hM.below hB14 hM.lt
        have hown5 := owns_kept hownb hB
        refine seq_op hS (by decide) (push_ownM (acc := sendTo (l.take i) (allF val count)) (e := (e.1, e.2.1,  ( (val + 1) + e.2.2))) rfl hown5 rfl hX (by rw [sendTo_length, List.length_take]; omega) (Nat.le_trans hBb.size hB.size)) (fun v16 w16 a1 hp hS => ?_)
        obtain ⟨_, hown3, _, hB16⟩ := hp
        refine sI hS (runs_assign rfl) fun _ hS => ?_
        refine nil_ok (reg_seq ?_)
        refine sI hS (runs_move rfl) fun _ hS => ?_
        refine sI hS (runs_add (r := ((i + 1 : Nat) : Int)) rfl rfl (by simp [IntKind.wrap, IntKind.bits, IntKind.signed]; omega)) fun _ hS => ?_
        refine sI hS (runs_assign rfl) fun _ hS => ?_
        exact absurd c2 (by omega)
      refine sI hS (runs_eql (r := false) rfl rfl (by simp [c2])) fun _ hS => ?_
      refine nil_ok (wp_cond_false (hS.eval rfl) (wp_skip (reg_seq ?_)))
      refine sI hS (runs_move rfl) fun _ hS => ?_
      refine sI hS (runs_loadRow rfl hM Tryz.underlying61 rfl (by rw [sz48]; rfl)) fun _ hS => ?_
      refine seq_op hS (by decide) (runs_oneM (e := (e.1, e.2.1,  (val + 1))) rfl) (fun v17 w17 a1 hp hS => ?_)
      obtain ⟨g2, rfl, hX, hB17⟩ := hp
      have hB := hB.trans (hB17.mono hB.size)
      have hM := hM.below hB17 hM.lt
      have hown5 := owns_kept hownb hB
      refine seq_op hS (by decide) (push_ownM (acc := sendTo (l.take i) (allF val count)) (e := (e.1, e.2.1,  (val + 1))) rfl hown5 rfl hX (by rw [sendTo_length, List.length_take]; omega) (Nat.le_trans hBb.size hB.size)) (fun v19 w19 a1 hp hS => ?_)
      obtain ⟨_, hown3, _, hB19⟩ := hp
      refine sI hS (runs_assign rfl) fun _ hS => ?_
      refine nil_ok (reg_seq ?_)
      refine sI hS (runs_move rfl) fun _ hS => ?_
      refine sI hS (runs_add (r := ((i + 1 : Nat) : Int)) rfl rfl (by simp [IntKind.wrap, IntKind.bits, IntKind.signed]; omega)) fun _ hS => ?_
      refine sI hS (runs_assign rfl) fun _ hS => ?_
      have hval :  (val + 1) = allF val count e.2.2 := by unfold allF; rw [if_pos c1]
      exact nil_ok ⟨_, by omega, i + 1, _, by omega, rfl, hBb.trans ((hB.mono hBb.size).trans hB19), by rw [sendTo_snoc hei, List.length_append, ← hval]; exact hown3, hS.only _ ⟨rfl, rfl, rfl, rfl, rfl, trivial⟩⟩
    refine sI hS (runs_eql (r := false) rfl rfl (by simp [c1])) fun _ hS => ?_
    refine nil_ok (wp_cond_false (hS.eval rfl) (wp_skip (qx_seq (qx_seq (reg_seq ?_)))))
    refine sI hS (runs_move rfl) fun _ hS => ?_
    by_cases c2 : count = 2
    · skip
      refine sI hS (runs_eql (r := true) rfl rfl (by simp [c2])) fun _ hS => ?_
      refine nil_ok (wp_cond_true (hS.eval rfl) (reg_guard (fun w' => Below w5.heap.size w5 w') [.inl (.pointer (some ⟨gm, 0 + 2, none⟩)), .inl (.int .i64 val), .inl (.slice A l.length c), .inl (.int .i64 (i : Int)), .inl (.pointer (some ⟨b, o + i * 3, none⟩)), .inl (.pointer (some ⟨b, o + i * 3 + 2, none⟩)), .inl (.int .i64 e.2.2), .inl (.int .i64 ( val + e.2.2))] 8 2 mixed rfl (by kernel_rfl) hS (Below.refl _ _) (fun _ h => h.drew) ?_))
      refine hs_is rfl (fun w' hw => runs_fieldK fo48_2 rfl) ?_
      refine hs_is rfl (fun w' hw => runs_load rfl pl2 ((hM.below hw hM.lt).at rfl)) ?_
      refine hs_is rfl (fun w' hw => runs_move rfl) ?_
      refine hs_is rfl (fun w' hw => runs_move rfl) ?_
      refine hs_is rfl (fun w' hw => runs_indexAddrG (j := i) (by rw [← hAe]; rfl) rfl und22 siz45 rfl hlt1) ?_
      refine hs_is rfl (fun w' hw => runs_fieldK fo46_2 rfl) ?_
      refine hs_is rfl (fun w' hw => runs_load rfl pl2 (range_below (range_below hre hB hbw) hw (Nat.lt_of_lt_of_le hbw hB.size) 2 _ rfl)) ?_
      refine hs_is rfl (fun w' hw => runs_add rfl rfl (wrap64 (by omega) (by omega))) ?_
      refine (fun a20 w20 hS hB20 hq => ?_)
      clear hq
      have hB := hB.trans (hB20.mono hB.size)
      have hM := hM.below hB20 hM.lt
      refine tail_op 8 (by kernel_rfl) rfl hS (by decide) (runs_fieldK fo48_2 rfl) (fun v22 w22 a22 hp hS => ⟨trivial, ?_⟩)
      obtain ⟨rfl, rfl⟩ := hp
      refine tail_none 9 (by kernel_rfl) rfl hS (runs_storeC rfl rfl rfl s1_2 hM rfl) (fun v23 w23 a23 hp hS => ⟨trivial, ?_⟩)
      obtain ⟨hM, hU23⟩ := hp
      have hB := But.new hB hU23 (fun i e => by rw [e]; exact hLhM) (Nat.le_refl _)
      refine wpAnyH_done (by kernel_rfl) ?_ _
      refine reg_seq ?_
      refine sI hS (runs_move rfl) fun _ hS => ?_
      refine sI hS (runs_loadRow rfl hM Tryz.underlying61 rfl (by rw [sz48]; rfl)) fun _ hS => ?_
      refine seq_op hS (by decide) (runs_oneM (e := (e.1, e.2.1,  ( val + e.2.2))) rfl) (fun v25 w25 a1 hp hS => ?_)
      obtain ⟨g2, rfl, hX, hB25⟩ := hp
      have hB := hB.trans (hB25.mono hB.size)
      have hM := hM.below hB25 hM.lt
      have hown5 := owns_kept hownb hB
      refine seq_op hS (by decide) (push_ownM (acc := sendTo (l.take i) (allF val count)) (e := (e.1, e.2.1,  ( val + e.2.2))) rfl hown5 rfl hX (by rw [sendTo_length, List.length_take]; omega) (Nat.le_trans hBb.size hB.size)) (fun v27 w27 a1 hp hS => ?_)
      obtain ⟨_, hown3, _, hB27⟩ := hp
      refine sI hS (runs_assign rfl) fun _ hS => ?_
      refine nil_ok (reg_seq ?_)
      refine sI hS (runs_move rfl) fun _ hS => ?_
      refine sI hS (runs_add (r := ((i + 1 : Nat) : Int)) rfl rfl (by simp [IntKind.wrap, IntKind.bits, IntKind.signed]; omega)) fun _ hS => ?_
      refine sI hS (runs_assign rfl) fun _ hS => ?_
      have hval :  ( val + e.2.2) = allF val count e.2.2 := by unfold allF; rw [if_neg c1, if_pos c2]
      exact nil_ok ⟨_, by omega, i + 1, _, by omega, rfl, hBb.trans ((hB.mono hBb.size).trans hB27), by rw [sendTo_snoc hei, List.length_append, ← hval]; exact hown3, hS.only _ ⟨rfl, rfl, rfl, rfl, rfl, trivial⟩⟩
    refine sI hS (runs_eql (r := false) rfl rfl (by simp [c2])) fun _ hS => ?_
    refine nil_ok (wp_cond_false (hS.eval rfl) (wp_skip (reg_seq ?_)))
    refine sI hS (runs_move rfl) fun _ hS => ?_
    refine sI hS (runs_loadRow rfl hM Tryz.underlying61 rfl (by rw [sz48]; rfl)) fun _ hS => ?_
    refine seq_op hS (by decide) (runs_oneM (e := (e.1, e.2.1,  val)) rfl) (fun v28 w28 a1 hp hS => ?_)
    obtain ⟨g2, rfl, hX, hB28⟩ := hp
    have hB := hB.trans (hB28.mono hB.size)
    have hown5 := owns_kept hownb hB
    refine seq_op hS (by decide) (push_ownM (acc := sendTo (l.take i) (allF val count)) (e := (e.1, e.2.1,  val)) rfl hown5 rfl hX (by rw [sendTo_length, List.length_take]; omega) (Nat.le_trans hBb.size hB.size)) (fun v30 w30 a1 hp hS => ?_)
    obtain ⟨_, hown3, _, hB30⟩ := hp
    refine sI hS (runs_assign rfl) fun _ hS => ?_
    refine nil_ok (reg_seq ?_)
    refine sI hS (runs_move rfl) fun _ hS => ?_
    refine sI hS (runs_add (r := ((i + 1 : Nat) : Int)) rfl rfl (by simp [IntKind.wrap, IntKind.bits, IntKind.signed]; omega)) fun _ hS => ?_
    refine sI hS (runs_assign rfl) fun _ hS => ?_
    have hval :  val = allF val count e.2.2 := by unfold allF; rw [if_neg c1, if_neg c2]
    exact nil_ok ⟨_, by omega, i + 1, _, by omega, rfl, hBb.trans ((hB.mono hBb.size).trans hB30), by rw [sendTo_snoc hei, List.length_append, ← hval]; exact hown3, hS.only _ ⟨rfl, rfl, rfl, rfl, rfl, trivial⟩⟩
  refine sI hS (lssF rfl rfl (by omega)) fun _ hS => ?_
  obtain rfl : i = l.length := by omega
  refine nil_ok ⟨_, hS.eval rfl, fun _ => ?_, fun h => by simp at h⟩
  rw [List.take_length] at hown
  refine qx_seq (reg_seq ?_)
  refine sI hS (runs_move rfl) fun _ hS => ?_
  refine sI hS (runs_assign rfl) fun _ hS => ?_
  exact nil_ok (qx_ret (ret1 (t := 6) (by kernel_rfl) hS rfl ⟨_, rfl, hBb, hown⟩))
end Go.Proofs.YtapcpmalgdhakaaGreat
/- The document's step of a vertex that has something to do. Conditions: none of our own. -/
namespace Go.Proofs.YtapcpmalgdhakaaGreat
open Go.RowKit
set_option maxRecDepth 100000

theorem allF_0 (val : Int) : allF val 0 = fun _ => val := by funext x; simp [allF]
theorem allF_1 (val : Int) : allF val 1 = fun _ => val + 1 := by funext x; simp [allF]
theorem allF_2 (val : Int) : allF val 2 = fun x => val + x := by funext x; simp [allF]
set_option maxHeartbeats 1000000 in
theorem rplain_any (l : List E) (hsm : l.length ≤ 600) (v : Value) (tg : ByteArray) (src steps at_ : Int) (x : Vx) (w : World) (hE : Edges w v l) (hkn : kindL tg.data.toList ≠ 0) (hgv : great x.val = false) (hgi : great x.inn = false) (hlw : ∀ e ∈ l, 0 ≤ e.2.2 ∧ e.2.2 ≤ 1048576) (hs1 : 1 ≤ steps) (hs2 : steps ≤ 64) (hat : 0 ≤ at_) :
    Ans 53 [jv tg src steps, .int .i64 at_, vv x, v] w (fun u w' => Below w.heap.size w w' ∧ ∃ sv, u = .tuple #[vv ⟨x.id, (runL (kindL tg.data.toList) (at_ == 0) (at_ == steps - 1) (x.id == src) x.has (if x.has = true then x.inn else 0) x.val l).1.1, (runL (kindL tg.data.toList) (at_ == 0) (at_ == steps - 1) (x.id == src) x.has (if x.has = true then x.inn else 0) x.val l).1.2, false, 0⟩, sv] ∧ w'.ownsRow w.heap.size 61 3 sv (runL (kindL tg.data.toList) (at_ == 0) (at_ == steps - 1) (x.id == src) x.has (if x.has = true then x.inn else 0) x.val l).2.length (cellsE (runL (kindL tg.data.toList) (at_ == 0) (at_ == steps - 1) (x.id == src) x.has (if x.has = true then x.inn else 0) x.val l).2)) := by
  obtain ⟨A, c, rfl, h1, h2, hA⟩ := hE
  have hE : Edges w (.slice A l.length c) l := ⟨A, c, rfl, h1, h2, hA⟩
  obtain ⟨hv1, hv2⟩ := great_no hgv
  obtain ⟨hi1, hi2⟩ := great_no hgi
  refine calls_qx (args := [.agg (jc tg src steps).toArray, .int .i64 at_, .agg (vc x).toArray, .slice A l.length c]) 163 Tryz.func53 rfl (by kernel_rfl) (by simp) (fun a hS => ?_)
  have hB := Below.refl w.heap.size w
  have hEb := hE
  refine qx_seq (reg_seq ?_)
  refine seq_op hS (by decide) (runs_boxB (cs := jc tg src steps) rfl rfl) (fun v1 w1 a1 hp hS => ?_)
  obtain ⟨rfl, hM1, hB1⟩ := hp
  have hB := hB.trans (hB1.mono hB.size)
  have hE := hEb.kept hB
  refine seq_op hS (by decide) (runs_boxB (cs := vc x) rfl rfl) (fun v3 w3 a1 hp hS => ?_)
  obtain ⟨rfl, hM3, hB3⟩ := hp
  have hB := hB.trans (hB3.mono hB.size)
  have hM1 := hM1.below hB3 hM1.lt
  have hE := hEb.kept hB
  refine seq_op hS (by decide) (runs_allocB (cs := [.int .i64 0, .int .i64 0, .bool false, .bool false, .int .i64 0]) zo28 rfl) (fun v5 w5 a1 hp hS => ?_)
  obtain ⟨rfl, hM5, hB5⟩ := hp
  have hLhM5 : w.heap.size ≤ w3.heap.size := hB.size
  have hNhM3hM5 : w1.heap.size ≠ w3.heap.size := by have := hM3.lt; omega
  have hB := hB.trans (hB5.mono hB.size)
  have hM1 := hM1.below hB5 hM1.lt
  have hM3 := hM3.below hB5 hM3.lt
  have hE := hEb.kept hB
  refine sI hS (runs_assign rfl) fun _ hS => ?_
  refine nil_ok (qx_seq (reg_seq ?_))
  refine sI hS (runs_fieldK fo28_0 rfl) fun _ hS => ?_
  refine sI hS (runs_load rfl pl3 (hM3.at rfl)) fun _ hS => ?_
  refine sI hS (runs_fieldK fo28_1 rfl) fun _ hS => ?_
  refine sI hS (runs_load rfl pl2 (hM3.at rfl)) fun _ hS => ?_
  refine sI hS (runs_buildK (pv := [(0, .int .i64 x.id), (1, .int .i64 x.val)]) (cells := #[.int .i64 x.id, .int .i64 x.val, .bool false, .bool false, .int .i64 0]) rfl (by kernel_rfl)) fun _ hS => ?_
  refine seq_op hS (by decide) (runs_allocB (cs := [.int .i64 0, .int .i64 0, .bool false, .bool false, .int .i64 0]) zo28 rfl) (fun v7 w7 a1 hp hS => ?_)
  obtain ⟨rfl, hM7, hB7⟩ := hp
  have hLhM7 : w.heap.size ≤ w5.heap.size := hB.size
  have hNhM3hM7 : w1.heap.size ≠ w5.heap.size := by have := hM3.lt; omega
  have hNhM5hM7 : w3.heap.size ≠ w5.heap.size := by have := hM5.lt; omega
  have hB := hB.trans (hB7.mono hB.size)
  have hM1 := hM1.below hB7 hM1.lt
  have hM3 := hM3.below hB7 hM3.lt
  have hM5 := hM5.below hB7 hM5.lt
  have hE := hEb.kept hB
  refine seq_none hS (runs_storeB (cs := [.int .i64 x.id, .int .i64 x.val, .bool false, .bool false, .int .i64 0]) rfl rfl hM7 rfl rfl sz28) (fun v9 w9 a1 hp hS => ?_)
  have hQ9 := hM7
  obtain ⟨hM7, hU9⟩ := hp
  have hB := But.new hB hU9 (fun i e => by rw [e]; exact hLhM7) (Nat.le_refl _)
  have hM1 := hM1.but hU9 (has_ne hM1 hQ9 (by decide))
  have hM3 := hM3.but hU9 (hNhM3hM7)
  have hM5 := hM5.but hU9 (hNhM5hM7)
  have hE := hEb.kept hB
  refine nil_ok (qx_seq (reg_seq ?_))
  refine sI hS (runs_fieldK fo28_4 rfl) fun _ hS => ?_
  refine sI hS (runs_load rfl pl2 (hM3.at rfl)) fun _ hS => ?_
  refine sI hS (runs_assign rfl) fun _ hS => ?_
  refine nil_ok (qx_seq (qx_seq (reg_seq ?_)))
  refine sI hS (runs_fieldK fo28_3 rfl) fun _ hS => ?_
  by_cases hh : x.has = true
  · skip
    refine sI hS (runs_load rfl pl4 ((hM3.at rfl).trans (by rw [hh]))) fun _ hS => ?_
    refine sI hS (runs_not (b := true) rfl) fun _ hS => ?_
    refine nil_ok (wp_cond_false (hS.eval rfl) (wp_skip (qx_seq (qx_seq (reg_seq ?_)))))
    refine sI hS (runs_fieldK fo26_0 rfl) fun _ hS => ?_
    refine sI hS (runs_load rfl pl9 (hM1.at rfl)) fun _ hS => ?_
    refine nil_ok (qx_block (qx_seq (qx_seq (?_))))
    rcases kind_cases tg.data.toList with hk | hk | hk | hk | hk | hk | hk | hk
    · exact absurd hk hkn
    · skip
      refine reg_seq ?_
      refine sI hS (eqS1 rfl rfl hk) fun _ hS => ?_
      refine sI hS (runs_assign rfl) fun _ hS => ?_
      refine nil_ok (wp_cond_true (hS.eval rfl) (wp_skip (wp_cond_true (hS.eval rfl) (qx_seq (qx_seq (reg_seq ?_))))))
      refine sI hS (runs_move rfl) fun _ hS => ?_
      by_cases a0 : at_ = 0
      · skip
        refine sI hS (runs_eql (r := true) rfl rfl (by simp [a0])) fun _ hS => ?_
        have hBw := hB.size
        refine nil_ok (wp_cond_true (hS.eval rfl) (qx_seq (reg_guard (fun w' => Below w9.heap.size w9 w') [.inl (.agg #[.int .i64 x.id, .int .i64 x.val, .bool false, .bool false, .int .i64 0]), .inl (.slice A l.length c), .inl (.pointer (some ⟨w1.heap.size, 0 + 1, none⟩)), .inl (.int .i64 x.val), .inr (fun u w' => w'.ownsRow w.heap.size 61 3 u (sendTo l (allF x.val 0)).length (cellsE (sendTo l (allF x.val 0))))] 5 2 mixed rfl (by kernel_rfl) hS (Below.refl _ _) (fun _ h => h.drew) ?_)))
        refine hs_is rfl (fun w' hw => runs_loadRow rfl (hM7.below hw hM7.lt) Tryz.underlying50 rfl (by rw [sz28]; rfl)) ?_
        refine hs_is rfl (fun w' hw => runs_move rfl) ?_
        refine hs_is rfl (fun w' hw => runs_fieldK fo28_1 rfl) ?_
        refine hs_is rfl (fun w' hw => runs_load rfl pl2 ((hM3.below hw hM3.lt).at rfl)) ?_
        refine hs_pr rfl (fun _ _ _ h hb => owns_kept h hb) (fun w' hw hq => (runs_call (args := [.slice A l.length c, .int .i64 x.val, .int .i64 0]) goes73 rfl (rall_any l hsm _ x.val 0 w' (hE.kept hw) (by omega) (by omega) hlw)).mono (by rintro u w5 ⟨hb, h3⟩; exact ⟨owns_mono h3 (Nat.le_trans hBw hw.size), hw.trans (hb.mono hw.size), hb⟩)) (fun sr => ?_)
        refine (fun a11 w11 hS hB11 hq => ?_)
        have hSent := (hq (4, _) List.mem_cons_self)
        clear hq
        have hB := hB.trans (hB11.mono hB.size)
        have hM1 := hM1.below hB11 hM1.lt
        have hM3 := hM3.below hB11 hM3.lt
        have hM5 := hM5.below hB11 hM5.lt
        have hM7 := hM7.below hB11 hM7.lt
        have hE := hEb.kept hB
        refine tail_none 5 (by kernel_rfl) rfl hS (runs_storeB (cs := [.int .i64 x.id, .int .i64 x.val, .bool false, .bool false, .int .i64 0]) rfl rfl hM5 rfl rfl sz28) (fun v13 w13 a13 hp hS => ⟨trivial, ?_⟩)
        have hQ13 := hM5
        obtain ⟨hM5, hU13⟩ := hp
        have hB := But.new hB hU13 (fun i e => by rw [e]; exact hLhM5) (Nat.le_refl _)
        have hM1 := hM1.but hU13 (has_ne hM1 hQ13 (by decide))
        have hM3 := hM3.but hU13 (hNhM3hM5)
        have hM7 := hM7.but hU13 ((Ne.symm hNhM5hM7))
        have hE := hEb.kept hB
        have hSent := owns_but hSent hU13 (fun i old ho e => by subst e; exact has_ne ho hQ13 (by decide) rfl)
        refine tail_op 6 (by kernel_rfl) rfl hS (by decide) (runs_assign rfl) (fun v15 w15 a15 hp hS => ⟨trivial, ?_⟩)
        obtain ⟨rfl, rfl⟩ := hp
        refine wpAnyH_done (by kernel_rfl) ?_ _
        have e0 : (at_ == 0) = true := by rw [beq_iff_eq]; exact a0
        have hfin : runL (kindL tg.data.toList) (at_ == 0) (at_ == steps - 1) (x.id == src) x.has (if x.has = true then x.inn else 0) x.val l = ((x.val, false), sendTo l (allF x.val 0)) := by rw [hk, e0]; simp [runL, bestL, allF_0, -decide_eq_true_eq]
        rw [hfin]
        exact qx_ret (retRow2 (p := 8) (t := 9) (ty := 50) (by kernel_rfl) hS rfl rfl hM5 Tryz.underlying50 rfl (by rw [sz28]; rfl) ⟨_, rfl, hB, _, rfl, hSent⟩)
      refine sI hS (runs_eql (r := false) rfl rfl (by simp [a0])) fun _ hS => ?_
      refine nil_ok (wp_cond_false (hS.eval rfl) (wp_skip (qx_seq (qx_seq (reg_seq ?_)))))
      refine sI hS (runs_fieldK fo28_3 rfl) fun _ hS => ?_
      refine sI hS (runs_load rfl pl4 ((hM3.at rfl).trans (by rw [hh]))) fun _ hS => ?_
      refine sI hS (runs_move rfl) fun _ hS => ?_
      refine sY hS (runs_fieldK fo26_0 rfl) fun _ hS => ?_
      refine sY hS (runs_load rfl pl9 (hM1.at rfl)) fun _ hS => ?_
      refine sY hS (eqS1 rfl rfl hk) fun _ hS => ?_
      refine sY hS (runs_move rfl) fun _ hS => ?_
      refine sY hS (runs_move rfl) fun _ hS => ?_
      refine sY hS (runs_fieldK fo28_1 rfl) fun _ hS => ?_
      refine sY hS (runs_load rfl pl2 (hM3.at rfl)) fun _ hS => ?_
      by_cases g1 : x.inn > x.val
      · skip
        refine sY hS (gtrT rfl rfl (by omega)) fun _ hS => ?_
        refine sY hS (runs_pick rfl rfl) fun _ hS => ?_
        refine sY hS (runs_move rfl) fun _ hS => ?_
        refine sN hS fun _ hS => ?_
        refine sN hS fun _ hS => ?_
        refine sN hS fun _ hS => ?_
        refine sN hS fun _ hS => ?_
        refine sU hS fun _ hS => ?_
        refine sU hS fun _ hS => ?_
        refine sU hS fun _ hS => ?_
        refine sU hS fun _ hS => ?_
        refine sN hS fun _ hS => ?_
        refine sY hS (runs_pick rfl rfl) fun _ hS => ?_
        refine sI hS (runs_pick rfl rfl) fun _ hS => ?_
        refine nil_ok (wp_cond_true (hS.eval rfl) (qx_seq (reg_seq ?_)))
        refine sI hS (runs_move rfl) fun _ hS => ?_
        refine sI hS (runs_fieldK fo28_1 rfl) fun _ hS => ?_
        refine seq_none hS (runs_storeC rfl rfl rfl s1_2 hM7 rfl) (fun v16 w16 a1 hp hS => ?_)
        have hQ16 := hM7
        obtain ⟨hM7, hU16⟩ := hp
        have hB := But.new hB hU16 (fun i e => by rw [e]; exact hLhM7) (Nat.le_refl _)
        have hM1 := hM1.but hU16 (has_ne hM1 hQ16 (by decide))
        have hM3 := hM3.but hU16 (hNhM3hM7)
        have hM5 := hM5.but hU16 (hNhM5hM7)
        have hE := hEb.kept hB
        have hBw := hB.size
        refine nil_ok (qx_seq (reg_guard (fun w' => Below w16.heap.size w16 w') [.inl (.agg #[.int .i64 x.id, .int .i64 x.inn, .bool false, .bool false, .int .i64 0]), .inl (.slice A l.length c), .inl (.int .i64 x.inn), .inr (fun u w' => w'.ownsRow w.heap.size 61 3 u (sendTo l (allF x.inn 0)).length (cellsE (sendTo l (allF x.inn 0))))] 4 2 mixed rfl (by kernel_rfl) hS (Below.refl _ _) (fun _ h => h.drew) ?_))
        refine hs_is rfl (fun w' hw => runs_loadRow rfl (hM7.below hw hM7.lt) Tryz.underlying50 rfl (by rw [sz28]; rfl)) ?_
        refine hs_is rfl (fun w' hw => runs_move rfl) ?_
        refine hs_is rfl (fun w' hw => runs_move rfl) ?_
        refine hs_pr rfl (fun _ _ _ h hb => owns_kept h hb) (fun w' hw hq => (runs_call (args := [.slice A l.length c, .int .i64 x.inn, .int .i64 0]) goes73 rfl (rall_any l hsm _ x.inn 0 w' (hE.kept hw) (by omega) (by omega) hlw)).mono (by rintro u w5 ⟨hb, h3⟩; exact ⟨owns_mono h3 (Nat.le_trans hBw hw.size), hw.trans (hb.mono hw.size), hb⟩)) (fun sr => ?_)
        refine (fun a18 w18 hS hB18 hq => ?_)
        have hSent := (hq (3, _) List.mem_cons_self)
        clear hq
        have hB := hB.trans (hB18.mono hB.size)
        have hM1 := hM1.below hB18 hM1.lt
        have hM3 := hM3.below hB18 hM3.lt
        have hM5 := hM5.below hB18 hM5.lt
        have hM7 := hM7.below hB18 hM7.lt
        have hE := hEb.kept hB
        refine tail_none 4 (by kernel_rfl) rfl hS (runs_storeB (cs := [.int .i64 x.id, .int .i64 x.inn, .bool false, .bool false, .int .i64 0]) rfl rfl hM5 rfl rfl sz28) (fun v20 w20 a20 hp hS => ⟨trivial, ?_⟩)
        have hQ20 := hM5
        obtain ⟨hM5, hU20⟩ := hp
        have hB := But.new hB hU20 (fun i e => by rw [e]; exact hLhM5) (Nat.le_refl _)
        have hM1 := hM1.but hU20 (has_ne hM1 hQ20 (by decide))
        have hM3 := hM3.but hU20 (hNhM3hM5)
        have hM7 := hM7.but hU20 ((Ne.symm hNhM5hM7))
        have hE := hEb.kept hB
        have hSent := owns_but hSent hU20 (fun i old ho e => by subst e; exact has_ne ho hQ20 (by decide) rfl)
        refine tail_op 5 (by kernel_rfl) rfl hS (by decide) (runs_assign rfl) (fun v22 w22 a22 hp hS => ⟨trivial, ?_⟩)
        obtain ⟨rfl, rfl⟩ := hp
        refine wpAnyH_done (by kernel_rfl) ?_ _
        have e0 : (at_ == 0) = false := by rw [beq_eq_false_iff_ne]; exact a0
        have hfin : runL (kindL tg.data.toList) (at_ == 0) (at_ == steps - 1) (x.id == src) x.has (if x.has = true then x.inn else 0) x.val l = ((x.inn, false), sendTo l (allF x.inn 0)) := by rw [hk, e0]; simp [runL, bestL, allF_0, -decide_eq_true_eq, hh, g1]
        rw [hfin]
        exact qx_ret (retRow2 (p := 8) (t := 9) (ty := 50) (by kernel_rfl) hS rfl rfl hM5 Tryz.underlying50 rfl (by rw [sz28]; rfl) ⟨_, rfl, hB, _, rfl, hSent⟩)
      refine sY hS (gtrF rfl rfl (by omega)) fun _ hS => ?_
      refine sY hS (runs_pick rfl rfl) fun _ hS => ?_
      refine sY hS (runs_move rfl) fun _ hS => ?_
      refine sY hS (runs_fieldK fo26_0 rfl) fun _ hS => ?_
      refine sY hS (runs_load rfl pl9 (hM1.at rfl)) fun _ hS => ?_
      refine sY hS (eqS2 rfl rfl hk) fun _ hS => ?_
      refine sY hS (runs_move rfl) fun _ hS => ?_
      refine sN hS fun _ hS => ?_
      refine sN hS fun _ hS => ?_
      refine sN hS fun _ hS => ?_
      refine sN hS fun _ hS => ?_
      refine sY hS (runs_pick rfl rfl) fun _ hS => ?_
      refine sY hS (runs_pick rfl rfl) fun _ hS => ?_
      refine sI hS (runs_pick rfl rfl) fun _ hS => ?_
      refine nil_ok (wp_cond_false (hS.eval rfl) (wp_skip (qx_seq (reg_seq ?_))))
      refine sI hS (runs_loadRow rfl hM7 Tryz.underlying50 rfl (by rw [sz28]; rfl)) fun _ hS => ?_
      refine seq_none hS (runs_storeB (cs := [.int .i64 x.id, .int .i64 x.val, .bool false, .bool false, .int .i64 0]) rfl rfl hM5 rfl rfl sz28) (fun v23 w23 a1 hp hS => ?_)
      have hQ23 := hM5
      obtain ⟨hM5, hU23⟩ := hp
      have hB := But.new hB hU23 (fun i e => by rw [e]; exact hLhM5) (Nat.le_refl _)
      have hM1 := hM1.but hU23 (has_ne hM1 hQ23 (by decide))
      have hM3 := hM3.but hU23 (hNhM3hM5)
      have hM7 := hM7.but hU23 ((Ne.symm hNhM5hM7))
      have hE := hEb.kept hB
      refine sI hS (runs_assign rfl) fun _ hS => ?_
      have e0 : (at_ == 0) = false := by rw [beq_eq_false_iff_ne]; exact a0
      have hfin : runL (kindL tg.data.toList) (at_ == 0) (at_ == steps - 1) (x.id == src) x.has (if x.has = true then x.inn else 0) x.val l = ((x.val, false), []) := by rw [hk, e0]; simp [runL, bestL, -decide_eq_true_eq, hh, g1]
      rw [hfin]
      exact nil_ok (qx_ret (retRow2 (p := 8) (t := 9) (ty := 50) (by kernel_rfl) hS rfl rfl hM5 Tryz.underlying50 rfl (by rw [sz28]; rfl) ⟨_, rfl, hB, _, rfl, ⟨rfl, .inl ⟨rfl, rfl⟩⟩⟩))
    · skip
      refine reg_seq ?_
      refine sI hS (eqS1 rfl rfl hk) fun _ hS => ?_
      refine sI hS (runs_assign rfl) fun _ hS => ?_
      refine nil_ok (wp_cond_false (hS.eval rfl) (reg_seq ?_))
      refine sI hS (eqS2 rfl rfl hk) fun _ hS => ?_
      refine sI hS (runs_assign rfl) fun _ hS => ?_
      refine nil_ok (wp_cond_true (hS.eval rfl) (qx_seq (qx_seq (reg_seq ?_))))
      refine sI hS (runs_move rfl) fun _ hS => ?_
      by_cases a0 : at_ = 0
      · skip
        refine sI hS (runs_eql (r := true) rfl rfl (by simp [a0])) fun _ hS => ?_
        have hBw := hB.size
        refine nil_ok (wp_cond_true (hS.eval rfl) (qx_seq (reg_guard (fun w' => Below w9.heap.size w9 w') [.inl (.agg #[.int .i64 x.id, .int .i64 x.val, .bool false, .bool false, .int .i64 0]), .inl (.slice A l.length c), .inl (.pointer (some ⟨w1.heap.size, 0 + 1, none⟩)), .inl (.int .i64 x.val), .inr (fun u w' => w'.ownsRow w.heap.size 61 3 u (sendTo l (allF x.val 0)).length (cellsE (sendTo l (allF x.val 0))))] 5 2 mixed rfl (by kernel_rfl) hS (Below.refl _ _) (fun _ h => h.drew) ?_)))
        refine hs_is rfl (fun w' hw => runs_loadRow rfl (hM7.below hw hM7.lt) Tryz.underlying50 rfl (by rw [sz28]; rfl)) ?_
        refine hs_is rfl (fun w' hw => runs_move rfl) ?_
        refine hs_is rfl (fun w' hw => runs_fieldK fo28_1 rfl) ?_
        refine hs_is rfl (fun w' hw => runs_load rfl pl2 ((hM3.below hw hM3.lt).at rfl)) ?_
        refine hs_pr rfl (fun _ _ _ h hb => owns_kept h hb) (fun w' hw hq => (runs_call (args := [.slice A l.length c, .int .i64 x.val, .int .i64 0]) goes73 rfl (rall_any l hsm _ x.val 0 w' (hE.kept hw) (by omega) (by omega) hlw)).mono (by rintro u w5 ⟨hb, h3⟩; exact ⟨owns_mono h3 (Nat.le_trans hBw hw.size), hw.trans (hb.mono hw.size), hb⟩)) (fun sr => ?_)
        refine (fun a25 w25 hS hB25 hq => ?_)
        have hSent := (hq (4, _) List.mem_cons_self)
        clear hq
        have hB := hB.trans (hB25.mono hB.size)
        have hM1 := hM1.below hB25 hM1.lt
        have hM3 := hM3.below hB25 hM3.lt
        have hM5 := hM5.below hB25 hM5.lt
        have hM7 := hM7.below hB25 hM7.lt
        have hE := hEb.kept hB
        refine tail_none 5 (by kernel_rfl) rfl hS (runs_storeB (cs := [.int .i64 x.id, .int .i64 x.val, .bool false, .bool false, .int .i64 0]) rfl rfl hM5 rfl rfl sz28) (fun v27 w27 a27 hp hS => ⟨trivial, ?_⟩)
        have hQ27 := hM5
        obtain ⟨hM5, hU27⟩ := hp
        have hB := But.new hB hU27 (fun i e => by rw [e]; exact hLhM5) (Nat.le_refl _)
        have hM1 := hM1.but hU27 (has_ne hM1 hQ27 (by decide))
        have hM3 := hM3.but hU27 (hNhM3hM5)
        have hM7 := hM7.but hU27 ((Ne.symm hNhM5hM7))
        have hE := hEb.kept hB
        have hSent := owns_but hSent hU27 (fun i old ho e => by subst e; exact has_ne ho hQ27 (by decide) rfl)
        refine tail_op 6 (by kernel_rfl) rfl hS (by decide) (runs_assign rfl) (fun v29 w29 a29 hp hS => ⟨trivial, ?_⟩)
        obtain ⟨rfl, rfl⟩ := hp
        refine wpAnyH_done (by kernel_rfl) ?_ _
        have e0 : (at_ == 0) = true := by rw [beq_iff_eq]; exact a0
        have hfin : runL (kindL tg.data.toList) (at_ == 0) (at_ == steps - 1) (x.id == src) x.has (if x.has = true then x.inn else 0) x.val l = ((x.val, false), sendTo l (allF x.val 0)) := by rw [hk, e0]; simp [runL, bestL, allF_0, -decide_eq_true_eq]
        rw [hfin]
        exact qx_ret (retRow2 (p := 8) (t := 9) (ty := 50) (by kernel_rfl) hS rfl rfl hM5 Tryz.underlying50 rfl (by rw [sz28]; rfl) ⟨_, rfl, hB, _, rfl, hSent⟩)
      refine sI hS (runs_eql (r := false) rfl rfl (by simp [a0])) fun _ hS => ?_
      refine nil_ok (wp_cond_false (hS.eval rfl) (wp_skip (qx_seq (qx_seq (reg_seq ?_)))))
      refine sI hS (runs_fieldK fo28_3 rfl) fun _ hS => ?_
      refine sI hS (runs_load rfl pl4 ((hM3.at rfl).trans (by rw [hh]))) fun _ hS => ?_
      refine sI hS (runs_move rfl) fun _ hS => ?_
      refine sY hS (runs_fieldK fo26_0 rfl) fun _ hS => ?_
      refine sY hS (runs_load rfl pl9 (hM1.at rfl)) fun _ hS => ?_
      refine sY hS (eqS1 rfl rfl hk) fun _ hS => ?_
      refine sY hS (runs_move rfl) fun _ hS => ?_
      refine sN hS fun _ hS => ?_
      refine sN hS fun _ hS => ?_
      refine sN hS fun _ hS => ?_
      refine sN hS fun _ hS => ?_
      refine sY hS (runs_pick rfl rfl) fun _ hS => ?_
      refine sY hS (runs_move rfl) fun _ hS => ?_
      refine sY hS (runs_fieldK fo26_0 rfl) fun _ hS => ?_
      refine sY hS (runs_load rfl pl9 (hM1.at rfl)) fun _ hS => ?_
      refine sY hS (eqS2 rfl rfl hk) fun _ hS => ?_
      refine sY hS (runs_move rfl) fun _ hS => ?_
      refine sY hS (runs_move rfl) fun _ hS => ?_
      refine sY hS (runs_fieldK fo28_1 rfl) fun _ hS => ?_
      refine sY hS (runs_load rfl pl2 (hM3.at rfl)) fun _ hS => ?_
      by_cases g1 : x.inn < x.val
      · skip
        refine sY hS (lssT rfl rfl (by omega)) fun _ hS => ?_
        refine sY hS (runs_pick rfl rfl) fun _ hS => ?_
        refine sY hS (runs_pick rfl rfl) fun _ hS => ?_
        refine sI hS (runs_pick rfl rfl) fun _ hS => ?_
        refine nil_ok (wp_cond_true (hS.eval rfl) (qx_seq (reg_seq ?_)))
        refine sI hS (runs_move rfl) fun _ hS => ?_
        refine sI hS (runs_fieldK fo28_1 rfl) fun _ hS => ?_
        refine seq_none hS (runs_storeC rfl rfl rfl s1_2 hM7 rfl) (fun v30 w30 a1 hp hS => ?_)
        have hQ30 := hM7
        obtain ⟨hM7, hU30⟩ := hp
        have hB := But.new hB hU30 (fun i e => by rw [e]; exact hLhM7) (Nat.le_refl _)
        have hM1 := hM1.but hU30 (has_ne hM1 hQ30 (by decide))
        have hM3 := hM3.but hU30 (hNhM3hM7)
        have hM5 := hM5.but hU30 (hNhM5hM7)
        have hE := hEb.kept hB
        have hBw := hB.size
        refine nil_ok (qx_seq (reg_guard (fun w' => Below w30.heap.size w30 w') [.inl (.agg #[.int .i64 x.id, .int .i64 x.inn, .bool false, .bool false, .int .i64 0]), .inl (.slice A l.length c), .inl (.int .i64 x.inn), .inr (fun u w' => w'.ownsRow w.heap.size 61 3 u (sendTo l (allF x.inn 0)).length (cellsE (sendTo l (allF x.inn 0))))] 4 2 mixed rfl (by kernel_rfl) hS (Below.refl _ _) (fun _ h => h.drew) ?_))
        refine hs_is rfl (fun w' hw => runs_loadRow rfl (hM7.below hw hM7.lt) Tryz.underlying50 rfl (by rw [sz28]; rfl)) ?_
        refine hs_is rfl (fun w' hw => runs_move rfl) ?_
        refine hs_is rfl (fun w' hw => runs_move rfl) ?_
        refine hs_pr rfl (fun _ _ _ h hb => owns_kept h hb) (fun w' hw hq => (runs_call (args := [.slice A l.length c, .int .i64 x.inn, .int .i64 0]) goes73 rfl (rall_any l hsm _ x.inn 0 w' (hE.kept hw) (by omega) (by omega) hlw)).mono (by rintro u w5 ⟨hb, h3⟩; exact ⟨owns_mono h3 (Nat.le_trans hBw hw.size), hw.trans (hb.mono hw.size), hb⟩)) (fun sr => ?_)
        refine (fun a32 w32 hS hB32 hq => ?_)
        have hSent := (hq (3, _) List.mem_cons_self)
        clear hq
        have hB := hB.trans (hB32.mono hB.size)
        have hM1 := hM1.below hB32 hM1.lt
        have hM3 := hM3.below hB32 hM3.lt
        have hM5 := hM5.below hB32 hM5.lt
        have hM7 := hM7.below hB32 hM7.lt
        have hE := hEb.kept hB
        refine tail_none 4 (by kernel_rfl) rfl hS (runs_storeB (cs := [.int .i64 x.id, .int .i64 x.inn, .bool false, .bool false, .int .i64 0]) rfl rfl hM5 rfl rfl sz28) (fun v34 w34 a34 hp hS => ⟨trivial, ?_⟩)
        have hQ34 := hM5
        obtain ⟨hM5, hU34⟩ := hp
        have hB := But.new hB hU34 (fun i e => by rw [e]; exact hLhM5) (Nat.le_refl _)
        have hM1 := hM1.but hU34 (has_ne hM1 hQ34 (by decide))
        have hM3 := hM3.but hU34 (hNhM3hM5)
        have hM7 := hM7.but hU34 ((Ne.symm hNhM5hM7))
        have hE := hEb.kept hB
        have hSent := owns_but hSent hU34 (fun i old ho e => by subst e; exact has_ne ho hQ34 (by decide) rfl)
        refine tail_op 5 (by kernel_rfl) rfl hS (by decide) (runs_assign rfl) (fun v36 w36 a36 hp hS => ⟨trivial, ?_⟩)
        obtain ⟨rfl, rfl⟩ := hp
        refine wpAnyH_done (by kernel_rfl) ?_ _
        have e0 : (at_ == 0) = false := by rw [beq_eq_false_iff_ne]; exact a0
        have hfin : runL (kindL tg.data.toList) (at_ == 0) (at_ == steps - 1) (x.id == src) x.has (if x.has = true then x.inn else 0) x.val l = ((x.inn, false), sendTo l (allF x.inn 0)) := by rw [hk, e0]; simp [runL, bestL, allF_0, -decide_eq_true_eq, hh, g1]
        rw [hfin]
        exact qx_ret (retRow2 (p := 8) (t := 9) (ty := 50) (by kernel_rfl) hS rfl rfl hM5 Tryz.underlying50 rfl (by rw [sz28]; rfl) ⟨_, rfl, hB, _, rfl, hSent⟩)
      refine sY hS (lssF rfl rfl (by omega)) fun _ hS => ?_
      refine sY hS (runs_pick rfl rfl) fun _ hS => ?_
      refine sY hS (runs_pick rfl rfl) fun _ hS => ?_
      refine sI hS (runs_pick rfl rfl) fun _ hS => ?_
      refine nil_ok (wp_cond_false (hS.eval rfl) (wp_skip (qx_seq (reg_seq ?_))))
      refine sI hS (runs_loadRow rfl hM7 Tryz.underlying50 rfl (by rw [sz28]; rfl)) fun _ hS => ?_
      refine seq_none hS (runs_storeB (cs := [.int .i64 x.id, .int .i64 x.val, .bool false, .bool false, .int .i64 0]) rfl rfl hM5 rfl rfl sz28) (fun v37 w37 a1 hp hS => ?_)
      have hQ37 := hM5
      obtain ⟨hM5, hU37⟩ := hp
      have hB := But.new hB hU37 (fun i e => by rw [e]; exact hLhM5) (Nat.le_refl _)
      have hM1 := hM1.but hU37 (has_ne hM1 hQ37 (by decide))
      have hM3 := hM3.but hU37 (hNhM3hM5)
      have hM7 := hM7.but hU37 ((Ne.symm hNhM5hM7))
      have hE := hEb.kept hB
      refine sI hS (runs_assign rfl) fun _ hS => ?_
      have e0 : (at_ == 0) = false := by rw [beq_eq_false_iff_ne]; exact a0
      have hfin : runL (kindL tg.data.toList) (at_ == 0) (at_ == steps - 1) (x.id == src) x.has (if x.has = true then x.inn else 0) x.val l = ((x.val, false), []) := by rw [hk, e0]; simp [runL, bestL, -decide_eq_true_eq, hh, g1]
      rw [hfin]
      exact nil_ok (qx_ret (retRow2 (p := 8) (t := 9) (ty := 50) (by kernel_rfl) hS rfl rfl hM5 Tryz.underlying50 rfl (by rw [sz28]; rfl) ⟨_, rfl, hB, _, rfl, ⟨rfl, .inl ⟨rfl, rfl⟩⟩⟩))
    · skip
      refine reg_seq ?_
      refine sI hS (eqS1 rfl rfl hk) fun _ hS => ?_
      refine sI hS (runs_assign rfl) fun _ hS => ?_
      refine nil_ok (wp_cond_false (hS.eval rfl) (reg_seq ?_))
      refine sI hS (eqS2 rfl rfl hk) fun _ hS => ?_
      refine sI hS (runs_assign rfl) fun _ hS => ?_
      refine nil_ok (wp_cond_false (hS.eval rfl) (qx_seq (qx_seq (reg_seq ?_))))
      refine sI hS (eqS3 rfl rfl hk) fun _ hS => ?_
      refine sI hS (runs_assign rfl) fun _ hS => ?_
      refine nil_ok (wp_cond_true (hS.eval rfl) (wp_skip (wp_cond_true (hS.eval rfl) (qx_seq (reg_seq ?_)))))
      refine sI hS (runs_assign rfl) fun _ hS => ?_
      refine nil_ok (qx_seq (qx_seq (reg_seq ?_)))
      refine sI hS (runs_fieldK fo26_0 rfl) fun _ hS => ?_
      refine sI hS (runs_load rfl pl9 (hM1.at rfl)) fun _ hS => ?_
      refine sI hS (eqS4 rfl rfl hk) fun _ hS => ?_
      refine nil_ok (wp_cond_false (hS.eval rfl) (wp_skip (qx_seq (qx_seq (reg_seq ?_)))))
      refine sI hS (runs_move rfl) fun _ hS => ?_
      by_cases a0 : at_ = 0
      · skip
        refine sI hS (runs_eql (r := true) rfl rfl (by simp [a0])) fun _ hS => ?_
        refine nil_ok (wp_cond_true (hS.eval rfl) (qx_seq (qx_seq (reg_seq ?_))))
        refine sI hS (runs_fieldK fo28_0 rfl) fun _ hS => ?_
        refine sI hS (runs_load rfl pl3 (hM3.at rfl)) fun _ hS => ?_
        refine sI hS (runs_fieldK fo26_1 rfl) fun _ hS => ?_
        refine sI hS (runs_load rfl pl3 (hM1.at rfl)) fun _ hS => ?_
        by_cases s0 : x.id = src
        · skip
          refine sI hS (runs_eql (r := true) rfl rfl (by simp [s0])) fun _ hS => ?_
          have hBw := hB.size
          refine nil_ok (wp_cond_true (hS.eval rfl) (qx_seq (reg_guard (fun w' => Below w9.heap.size w9 w') [.inl (.agg #[.int .i64 x.id, .int .i64 x.val, .bool false, .bool false, .int .i64 0]), .inl (.slice A l.length c), .inl (.int .i64 2), .inr (fun u w' => w'.ownsRow w.heap.size 61 3 u (sendTo l (allF 0 2)).length (cellsE (sendTo l (allF 0 2))))] 4 2 mixed rfl (by kernel_rfl) hS (Below.refl _ _) (fun _ h => h.drew) ?_)))
          refine hs_is rfl (fun w' hw => runs_loadRow rfl (hM7.below hw hM7.lt) Tryz.underlying50 rfl (by rw [sz28]; rfl)) ?_
          refine hs_is rfl (fun w' hw => runs_move rfl) ?_
          refine hs_is rfl (fun w' hw => runs_move rfl) ?_
          refine hs_pr rfl (fun _ _ _ h hb => owns_kept h hb) (fun w' hw hq => (runs_call (args := [.slice A l.length c, .int .i64 0, .int .i64 2]) goes73 rfl (rall_any l hsm _ 0 2 w' (hE.kept hw) (by omega) (by omega) hlw)).mono (by rintro u w5 ⟨hb, h3⟩; exact ⟨owns_mono h3 (Nat.le_trans hBw hw.size), hw.trans (hb.mono hw.size), hb⟩)) (fun sr => ?_)
          refine (fun a39 w39 hS hB39 hq => ?_)
          have hSent := (hq (3, _) List.mem_cons_self)
          clear hq
          have hB := hB.trans (hB39.mono hB.size)
          have hM1 := hM1.below hB39 hM1.lt
          have hM3 := hM3.below hB39 hM3.lt
          have hM5 := hM5.below hB39 hM5.lt
          have hM7 := hM7.below hB39 hM7.lt
          have hE := hEb.kept hB
          refine tail_none 4 (by kernel_rfl) rfl hS (runs_storeB (cs := [.int .i64 x.id, .int .i64 x.val, .bool false, .bool false, .int .i64 0]) rfl rfl hM5 rfl rfl sz28) (fun v41 w41 a41 hp hS => ⟨trivial, ?_⟩)
          have hQ41 := hM5
          obtain ⟨hM5, hU41⟩ := hp
          have hB := But.new hB hU41 (fun i e => by rw [e]; exact hLhM5) (Nat.le_refl _)
          have hM1 := hM1.but hU41 (has_ne hM1 hQ41 (by decide))
          have hM3 := hM3.but hU41 (hNhM3hM5)
          have hM7 := hM7.but hU41 ((Ne.symm hNhM5hM7))
          have hE := hEb.kept hB
          have hSent := owns_but hSent hU41 (fun i old ho e => by subst e; exact has_ne ho hQ41 (by decide) rfl)
          refine tail_op 5 (by kernel_rfl) rfl hS (by decide) (runs_assign rfl) (fun v43 w43 a43 hp hS => ⟨trivial, ?_⟩)
          obtain ⟨rfl, rfl⟩ := hp
          refine wpAnyH_done (by kernel_rfl) ?_ _
          have e0 : (at_ == 0) = true := by rw [beq_iff_eq]; exact a0
          have hfin : runL (kindL tg.data.toList) (at_ == 0) (at_ == steps - 1) (x.id == src) x.has (if x.has = true then x.inn else 0) x.val l = ((x.val, false), sendTo l (allF 0 2)) := by rw [hk, e0]; simp [runL, nearL, allF_2, -decide_eq_true_eq, s0]
          rw [hfin]
          exact qx_ret (retRow2 (p := 8) (t := 9) (ty := 50) (by kernel_rfl) hS rfl rfl hM5 Tryz.underlying50 rfl (by rw [sz28]; rfl) ⟨_, rfl, hB, _, rfl, hSent⟩)
        refine sI hS (runs_eql (r := false) rfl rfl (by simp [s0])) fun _ hS => ?_
        refine nil_ok (wp_cond_false (hS.eval rfl) (wp_skip (qx_seq (reg_seq ?_))))
        refine sI hS (runs_loadRow rfl hM7 Tryz.underlying50 rfl (by rw [sz28]; rfl)) fun _ hS => ?_
        refine seq_none hS (runs_storeB (cs := [.int .i64 x.id, .int .i64 x.val, .bool false, .bool false, .int .i64 0]) rfl rfl hM5 rfl rfl sz28) (fun v44 w44 a1 hp hS => ?_)
        have hQ44 := hM5
        obtain ⟨hM5, hU44⟩ := hp
        have hB := But.new hB hU44 (fun i e => by rw [e]; exact hLhM5) (Nat.le_refl _)
        have hM1 := hM1.but hU44 (has_ne hM1 hQ44 (by decide))
        have hM3 := hM3.but hU44 (hNhM3hM5)
        have hM7 := hM7.but hU44 ((Ne.symm hNhM5hM7))
        have hE := hEb.kept hB
        refine sI hS (runs_assign rfl) fun _ hS => ?_
        have e0 : (at_ == 0) = true := by rw [beq_iff_eq]; exact a0
        have hfin : runL (kindL tg.data.toList) (at_ == 0) (at_ == steps - 1) (x.id == src) x.has (if x.has = true then x.inn else 0) x.val l = ((x.val, false), []) := by rw [hk, e0]; simp [runL, nearL, -decide_eq_true_eq, s0]
        rw [hfin]
        exact nil_ok (qx_ret (retRow2 (p := 8) (t := 9) (ty := 50) (by kernel_rfl) hS rfl rfl hM5 Tryz.underlying50 rfl (by rw [sz28]; rfl) ⟨_, rfl, hB, _, rfl, ⟨rfl, .inl ⟨rfl, rfl⟩⟩⟩))
      refine sI hS (runs_eql (r := false) rfl rfl (by simp [a0])) fun _ hS => ?_
      refine nil_ok (wp_cond_false (hS.eval rfl) (wp_skip (qx_seq (qx_seq (reg_seq ?_)))))
      refine sI hS (runs_fieldK fo28_3 rfl) fun _ hS => ?_
      refine sI hS (runs_load rfl pl4 ((hM3.at rfl).trans (by rw [hh]))) fun _ hS => ?_
      refine sI hS (runs_move rfl) fun _ hS => ?_
      refine sY hS (runs_fieldK fo28_1 rfl) fun _ hS => ?_
      refine sY hS (runs_load rfl pl2 (hM3.at rfl)) fun _ hS => ?_
      by_cases g1 : x.val < 0
      · skip
        refine sY hS (lssT rfl rfl (by omega)) fun _ hS => ?_
        refine sY hS (runs_move rfl) fun _ hS => ?_
        refine sN hS fun _ hS => ?_
        refine sN hS fun _ hS => ?_
        refine sN hS fun _ hS => ?_
        refine sN hS fun _ hS => ?_
        refine sY hS (runs_pick rfl rfl) fun _ hS => ?_
        refine sI hS (runs_pick rfl rfl) fun _ hS => ?_
        refine nil_ok (wp_cond_true (hS.eval rfl) (qx_seq (reg_seq ?_)))
        refine sI hS (runs_move rfl) fun _ hS => ?_
        refine sI hS (runs_fieldK fo28_1 rfl) fun _ hS => ?_
        refine seq_none hS (runs_storeC rfl rfl rfl s1_2 hM7 rfl) (fun v46 w46 a1 hp hS => ?_)
        have hQ46 := hM7
        obtain ⟨hM7, hU46⟩ := hp
        have hB := But.new hB hU46 (fun i e => by rw [e]; exact hLhM7) (Nat.le_refl _)
        have hM1 := hM1.but hU46 (has_ne hM1 hQ46 (by decide))
        have hM3 := hM3.but hU46 (hNhM3hM7)
        have hM5 := hM5.but hU46 (hNhM5hM7)
        have hE := hEb.kept hB
        have hBw := hB.size
        refine nil_ok (qx_seq (reg_guard (fun w' => Below w46.heap.size w46 w') [.inl (.agg #[.int .i64 x.id, .int .i64 x.inn, .bool false, .bool false, .int .i64 0]), .inl (.slice A l.length c), .inl (.int .i64 x.inn), .inl (.int .i64 2), .inr (fun u w' => w'.ownsRow w.heap.size 61 3 u (sendTo l (allF x.inn 2)).length (cellsE (sendTo l (allF x.inn 2))))] 5 2 mixed rfl (by kernel_rfl) hS (Below.refl _ _) (fun _ h => h.drew) ?_))
        refine hs_is rfl (fun w' hw => runs_loadRow rfl (hM7.below hw hM7.lt) Tryz.underlying50 rfl (by rw [sz28]; rfl)) ?_
        refine hs_is rfl (fun w' hw => runs_move rfl) ?_
        refine hs_is rfl (fun w' hw => runs_move rfl) ?_
        refine hs_is rfl (fun w' hw => runs_move rfl) ?_
        refine hs_pr rfl (fun _ _ _ h hb => owns_kept h hb) (fun w' hw hq => (runs_call (args := [.slice A l.length c, .int .i64 x.inn, .int .i64 2]) goes73 rfl (rall_any l hsm _ x.inn 2 w' (hE.kept hw) (by omega) (by omega) hlw)).mono (by rintro u w5 ⟨hb, h3⟩; exact ⟨owns_mono h3 (Nat.le_trans hBw hw.size), hw.trans (hb.mono hw.size), hb⟩)) (fun sr => ?_)
        refine (fun a48 w48 hS hB48 hq => ?_)
        have hSent := (hq (4, _) List.mem_cons_self)
        clear hq
        have hB := hB.trans (hB48.mono hB.size)
        have hM1 := hM1.below hB48 hM1.lt
        have hM3 := hM3.below hB48 hM3.lt
        have hM5 := hM5.below hB48 hM5.lt
        have hM7 := hM7.below hB48 hM7.lt
        have hE := hEb.kept hB
        refine tail_none 5 (by kernel_rfl) rfl hS (runs_storeB (cs := [.int .i64 x.id, .int .i64 x.inn, .bool false, .bool false, .int .i64 0]) rfl rfl hM5 rfl rfl sz28) (fun v50 w50 a50 hp hS => ⟨trivial, ?_⟩)
        have hQ50 := hM5
        obtain ⟨hM5, hU50⟩ := hp
        have hB := But.new hB hU50 (fun i e => by rw [e]; exact hLhM5) (Nat.le_refl _)
        have hM1 := hM1.but hU50 (has_ne hM1 hQ50 (by decide))
        have hM3 := hM3.but hU50 (hNhM3hM5)
        have hM7 := hM7.but hU50 ((Ne.symm hNhM5hM7))
        have hE := hEb.kept hB
        have hSent := owns_but hSent hU50 (fun i old ho e => by subst e; exact has_ne ho hQ50 (by decide) rfl)
        refine tail_op 6 (by kernel_rfl) rfl hS (by decide) (runs_assign rfl) (fun v52 w52 a52 hp hS => ⟨trivial, ?_⟩)
        obtain ⟨rfl, rfl⟩ := hp
        refine wpAnyH_done (by kernel_rfl) ?_ _
        have e0 : (at_ == 0) = false := by rw [beq_eq_false_iff_ne]; exact a0
        have hfin : runL (kindL tg.data.toList) (at_ == 0) (at_ == steps - 1) (x.id == src) x.has (if x.has = true then x.inn else 0) x.val l = ((x.inn, false), sendTo l (allF x.inn 2)) := by rw [hk, e0]; simp [runL, nearL, allF_2, -decide_eq_true_eq, hh, g1]
        rw [hfin]
        exact qx_ret (retRow2 (p := 8) (t := 9) (ty := 50) (by kernel_rfl) hS rfl rfl hM5 Tryz.underlying50 rfl (by rw [sz28]; rfl) ⟨_, rfl, hB, _, rfl, hSent⟩)
      refine sY hS (lssF rfl rfl (by omega)) fun _ hS => ?_
      refine sY hS (runs_move rfl) fun _ hS => ?_
      refine sY hS (runs_move rfl) fun _ hS => ?_
      refine sY hS (runs_fieldK fo28_1 rfl) fun _ hS => ?_
      refine sY hS (runs_load rfl pl2 (hM3.at rfl)) fun _ hS => ?_
      by_cases g2 : x.inn < x.val
      · skip
        refine sY hS (lssT rfl rfl (by omega)) fun _ hS => ?_
        refine sY hS (runs_pick rfl rfl) fun _ hS => ?_
        refine sI hS (runs_pick rfl rfl) fun _ hS => ?_
        refine nil_ok (wp_cond_true (hS.eval rfl) (qx_seq (reg_seq ?_)))
        refine sI hS (runs_move rfl) fun _ hS => ?_
        refine sI hS (runs_fieldK fo28_1 rfl) fun _ hS => ?_
        refine seq_none hS (runs_storeC rfl rfl rfl s1_2 hM7 rfl) (fun v53 w53 a1 hp hS => ?_)
        have hQ53 := hM7
        obtain ⟨hM7, hU53⟩ := hp
        have hB := But.new hB hU53 (fun i e => by rw [e]; exact hLhM7) (Nat.le_refl _)
        have hM1 := hM1.but hU53 (has_ne hM1 hQ53 (by decide))
        have hM3 := hM3.but hU53 (hNhM3hM7)
        have hM5 := hM5.but hU53 (hNhM5hM7)
        have hE := hEb.kept hB
        have hBw := hB.size
        refine nil_ok (qx_seq (reg_guard (fun w' => Below w53.heap.size w53 w') [.inl (.agg #[.int .i64 x.id, .int .i64 x.inn, .bool false, .bool false, .int .i64 0]), .inl (.slice A l.length c), .inl (.int .i64 x.inn), .inl (.int .i64 2), .inr (fun u w' => w'.ownsRow w.heap.size 61 3 u (sendTo l (allF x.inn 2)).length (cellsE (sendTo l (allF x.inn 2))))] 5 2 mixed rfl (by kernel_rfl) hS (Below.refl _ _) (fun _ h => h.drew) ?_))
        refine hs_is rfl (fun w' hw => runs_loadRow rfl (hM7.below hw hM7.lt) Tryz.underlying50 rfl (by rw [sz28]; rfl)) ?_
        refine hs_is rfl (fun w' hw => runs_move rfl) ?_
        refine hs_is rfl (fun w' hw => runs_move rfl) ?_
        refine hs_is rfl (fun w' hw => runs_move rfl) ?_
        refine hs_pr rfl (fun _ _ _ h hb => owns_kept h hb) (fun w' hw hq => (runs_call (args := [.slice A l.length c, .int .i64 x.inn, .int .i64 2]) goes73 rfl (rall_any l hsm _ x.inn 2 w' (hE.kept hw) (by omega) (by omega) hlw)).mono (by rintro u w5 ⟨hb, h3⟩; exact ⟨owns_mono h3 (Nat.le_trans hBw hw.size), hw.trans (hb.mono hw.size), hb⟩)) (fun sr => ?_)
        refine (fun a55 w55 hS hB55 hq => ?_)
        have hSent := (hq (4, _) List.mem_cons_self)
        clear hq
        have hB := hB.trans (hB55.mono hB.size)
        have hM1 := hM1.below hB55 hM1.lt
        have hM3 := hM3.below hB55 hM3.lt
        have hM5 := hM5.below hB55 hM5.lt
        have hM7 := hM7.below hB55 hM7.lt
        have hE := hEb.kept hB
        refine tail_none 5 (by kernel_rfl) rfl hS (runs_storeB (cs := [.int .i64 x.id, .int .i64 x.inn, .bool false, .bool false, .int .i64 0]) rfl rfl hM5 rfl rfl sz28) (fun v57 w57 a57 hp hS => ⟨trivial, ?_⟩)
        have hQ57 := hM5
        obtain ⟨hM5, hU57⟩ := hp
        have hB := But.new hB hU57 (fun i e => by rw [e]; exact hLhM5) (Nat.le_refl _)
        have hM1 := hM1.but hU57 (has_ne hM1 hQ57 (by decide))
        have hM3 := hM3.but hU57 (hNhM3hM5)
        have hM7 := hM7.but hU57 ((Ne.symm hNhM5hM7))
        have hE := hEb.kept hB
        have hSent := owns_but hSent hU57 (fun i old ho e => by subst e; exact has_ne ho hQ57 (by decide) rfl)
        refine tail_op 6 (by kernel_rfl) rfl hS (by decide) (runs_assign rfl) (fun v59 w59 a59 hp hS => ⟨trivial, ?_⟩)
        obtain ⟨rfl, rfl⟩ := hp
        refine wpAnyH_done (by kernel_rfl) ?_ _
        have e0 : (at_ == 0) = false := by rw [beq_eq_false_iff_ne]; exact a0
        have hfin : runL (kindL tg.data.toList) (at_ == 0) (at_ == steps - 1) (x.id == src) x.has (if x.has = true then x.inn else 0) x.val l = ((x.inn, false), sendTo l (allF x.inn 2)) := by rw [hk, e0]; simp [runL, nearL, allF_2, -decide_eq_true_eq, hh, g1, g2]
        rw [hfin]
        exact qx_ret (retRow2 (p := 8) (t := 9) (ty := 50) (by kernel_rfl) hS rfl rfl hM5 Tryz.underlying50 rfl (by rw [sz28]; rfl) ⟨_, rfl, hB, _, rfl, hSent⟩)
      refine sY hS (lssF rfl rfl (by omega)) fun _ hS => ?_
      refine sY hS (runs_pick rfl rfl) fun _ hS => ?_
      refine sI hS (runs_pick rfl rfl) fun _ hS => ?_
      refine nil_ok (wp_cond_false (hS.eval rfl) (wp_skip (qx_seq (reg_seq ?_))))
      refine sI hS (runs_loadRow rfl hM7 Tryz.underlying50 rfl (by rw [sz28]; rfl)) fun _ hS => ?_
      refine seq_none hS (runs_storeB (cs := [.int .i64 x.id, .int .i64 x.val, .bool false, .bool false, .int .i64 0]) rfl rfl hM5 rfl rfl sz28) (fun v60 w60 a1 hp hS => ?_)
      have hQ60 := hM5
      obtain ⟨hM5, hU60⟩ := hp
      have hB := But.new hB hU60 (fun i e => by rw [e]; exact hLhM5) (Nat.le_refl _)
      have hM1 := hM1.but hU60 (has_ne hM1 hQ60 (by decide))
      have hM3 := hM3.but hU60 (hNhM3hM5)
      have hM7 := hM7.but hU60 ((Ne.symm hNhM5hM7))
      have hE := hEb.kept hB
      refine sI hS (runs_assign rfl) fun _ hS => ?_
      have e0 : (at_ == 0) = false := by rw [beq_eq_false_iff_ne]; exact a0
      have hfin : runL (kindL tg.data.toList) (at_ == 0) (at_ == steps - 1) (x.id == src) x.has (if x.has = true then x.inn else 0) x.val l = ((x.val, false), []) := by rw [hk, e0]; simp [runL, nearL, -decide_eq_true_eq, hh, g1, g2]
      rw [hfin]
      exact nil_ok (qx_ret (retRow2 (p := 8) (t := 9) (ty := 50) (by kernel_rfl) hS rfl rfl hM5 Tryz.underlying50 rfl (by rw [sz28]; rfl) ⟨_, rfl, hB, _, rfl, ⟨rfl, .inl ⟨rfl, rfl⟩⟩⟩))
    · skip
      refine reg_seq ?_
      refine sI hS (eqS1 rfl rfl hk) fun _ hS => ?_
      refine sI hS (runs_assign rfl) fun _ hS => ?_
      refine nil_ok (wp_cond_false (hS.eval rfl) (reg_seq ?_))
      refine sI hS (eqS2 rfl rfl hk) fun _ hS => ?_
      refine sI hS (runs_assign rfl) fun _ hS => ?_
      refine nil_ok (wp_cond_false (hS.eval rfl) (qx_seq (qx_seq (reg_seq ?_))))
      refine sI hS (eqS3 rfl rfl hk) fun _ hS => ?_
      refine sI hS (runs_assign rfl) fun _ hS => ?_
      refine nil_ok (wp_cond_false (hS.eval rfl) (reg_seq ?_))
      refine sI hS (eqS4 rfl rfl hk) fun _ hS => ?_
      refine sI hS (runs_assign rfl) fun _ hS => ?_
      refine nil_ok (wp_cond_true (hS.eval rfl) (qx_seq (reg_seq ?_)))
      refine sI hS (runs_assign rfl) fun _ hS => ?_
      refine nil_ok (qx_seq (qx_seq (reg_seq ?_)))
      refine sI hS (runs_fieldK fo26_0 rfl) fun _ hS => ?_
      refine sI hS (runs_load rfl pl9 (hM1.at rfl)) fun _ hS => ?_
      refine sI hS (eqS4 rfl rfl hk) fun _ hS => ?_
      refine nil_ok (wp_cond_true (hS.eval rfl) (reg_seq ?_))
      refine sI hS (runs_assign rfl) fun _ hS => ?_
      refine nil_ok (qx_seq (qx_seq (reg_seq ?_)))
      refine sI hS (runs_move rfl) fun _ hS => ?_
      by_cases a0 : at_ = 0
      · skip
        refine sI hS (runs_eql (r := true) rfl rfl (by simp [a0])) fun _ hS => ?_
        refine nil_ok (wp_cond_true (hS.eval rfl) (qx_seq (qx_seq (reg_seq ?_))))
        refine sI hS (runs_fieldK fo28_0 rfl) fun _ hS => ?_
        refine sI hS (runs_load rfl pl3 (hM3.at rfl)) fun _ hS => ?_
        refine sI hS (runs_fieldK fo26_1 rfl) fun _ hS => ?_
        refine sI hS (runs_load rfl pl3 (hM1.at rfl)) fun _ hS => ?_
        by_cases s0 : x.id = src
        · skip
          refine sI hS (runs_eql (r := true) rfl rfl (by simp [s0])) fun _ hS => ?_
          have hBw := hB.size
          refine nil_ok (wp_cond_true (hS.eval rfl) (qx_seq (reg_guard (fun w' => Below w9.heap.size w9 w') [.inl (.agg #[.int .i64 x.id, .int .i64 x.val, .bool false, .bool false, .int .i64 0]), .inl (.slice A l.length c), .inl (.int .i64 1), .inr (fun u w' => w'.ownsRow w.heap.size 61 3 u (sendTo l (allF 0 1)).length (cellsE (sendTo l (allF 0 1))))] 4 2 mixed rfl (by kernel_rfl) hS (Below.refl _ _) (fun _ h => h.drew) ?_)))
          refine hs_is rfl (fun w' hw => runs_loadRow rfl (hM7.below hw hM7.lt) Tryz.underlying50 rfl (by rw [sz28]; rfl)) ?_
          refine hs_is rfl (fun w' hw => runs_move rfl) ?_
          refine hs_is rfl (fun w' hw => runs_move rfl) ?_
          refine hs_pr rfl (fun _ _ _ h hb => owns_kept h hb) (fun w' hw hq => (runs_call (args := [.slice A l.length c, .int .i64 0, .int .i64 1]) goes73 rfl (rall_any l hsm _ 0 1 w' (hE.kept hw) (by omega) (by omega) hlw)).mono (by rintro u w5 ⟨hb, h3⟩; exact ⟨owns_mono h3 (Nat.le_trans hBw hw.size), hw.trans (hb.mono hw.size), hb⟩)) (fun sr => ?_)
          refine (fun a62 w62 hS hB62 hq => ?_)
          have hSent := (hq (3, _) List.mem_cons_self)
          clear hq
          have hB := hB.trans (hB62.mono hB.size)
          have hM1 := hM1.below hB62 hM1.lt
          have hM3 := hM3.below hB62 hM3.lt
          have hM5 := hM5.below hB62 hM5.lt
          have hM7 := hM7.below hB62 hM7.lt
          have hE := hEb.kept hB
          refine tail_none 4 (by kernel_rfl) rfl hS (runs_storeB (cs := [.int .i64 x.id, .int .i64 x.val, .bool false, .bool false, .int .i64 0]) rfl rfl hM5 rfl rfl sz28) (fun v64 w64 a64 hp hS => ⟨trivial, ?_⟩)
          have hQ64 := hM5
          obtain ⟨hM5, hU64⟩ := hp
          have hB := But.new hB hU64 (fun i e => by rw [e]; exact hLhM5) (Nat.le_refl _)
          have hM1 := hM1.but hU64 (has_ne hM1 hQ64 (by decide))
          have hM3 := hM3.but hU64 (hNhM3hM5)
          have hM7 := hM7.but hU64 ((Ne.symm hNhM5hM7))
          have hE := hEb.kept hB
          have hSent := owns_but hSent hU64 (fun i old ho e => by subst e; exact has_ne ho hQ64 (by decide) rfl)
          refine tail_op 5 (by kernel_rfl) rfl hS (by decide) (runs_assign rfl) (fun v66 w66 a66 hp hS => ⟨trivial, ?_⟩)
          obtain ⟨rfl, rfl⟩ := hp
          refine wpAnyH_done (by kernel_rfl) ?_ _
          have e0 : (at_ == 0) = true := by rw [beq_iff_eq]; exact a0
          have hfin : runL (kindL tg.data.toList) (at_ == 0) (at_ == steps - 1) (x.id == src) x.has (if x.has = true then x.inn else 0) x.val l = ((x.val, false), sendTo l (allF 0 1)) := by rw [hk, e0]; simp [runL, nearL, allF_1, -decide_eq_true_eq, s0]
          rw [hfin]
          exact qx_ret (retRow2 (p := 8) (t := 9) (ty := 50) (by kernel_rfl) hS rfl rfl hM5 Tryz.underlying50 rfl (by rw [sz28]; rfl) ⟨_, rfl, hB, _, rfl, hSent⟩)
        refine sI hS (runs_eql (r := false) rfl rfl (by simp [s0])) fun _ hS => ?_
        refine nil_ok (wp_cond_false (hS.eval rfl) (wp_skip (qx_seq (reg_seq ?_))))
        refine sI hS (runs_loadRow rfl hM7 Tryz.underlying50 rfl (by rw [sz28]; rfl)) fun _ hS => ?_
        refine seq_none hS (runs_storeB (cs := [.int .i64 x.id, .int .i64 x.val, .bool false, .bool false, .int .i64 0]) rfl rfl hM5 rfl rfl sz28) (fun v67 w67 a1 hp hS => ?_)
        have hQ67 := hM5
        obtain ⟨hM5, hU67⟩ := hp
        have hB := But.new hB hU67 (fun i e => by rw [e]; exact hLhM5) (Nat.le_refl _)
        have hM1 := hM1.but hU67 (has_ne hM1 hQ67 (by decide))
        have hM3 := hM3.but hU67 (hNhM3hM5)
        have hM7 := hM7.but hU67 ((Ne.symm hNhM5hM7))
        have hE := hEb.kept hB
        refine sI hS (runs_assign rfl) fun _ hS => ?_
        have e0 : (at_ == 0) = true := by rw [beq_iff_eq]; exact a0
        have hfin : runL (kindL tg.data.toList) (at_ == 0) (at_ == steps - 1) (x.id == src) x.has (if x.has = true then x.inn else 0) x.val l = ((x.val, false), []) := by rw [hk, e0]; simp [runL, nearL, -decide_eq_true_eq, s0]
        rw [hfin]
        exact nil_ok (qx_ret (retRow2 (p := 8) (t := 9) (ty := 50) (by kernel_rfl) hS rfl rfl hM5 Tryz.underlying50 rfl (by rw [sz28]; rfl) ⟨_, rfl, hB, _, rfl, ⟨rfl, .inl ⟨rfl, rfl⟩⟩⟩))
      refine sI hS (runs_eql (r := false) rfl rfl (by simp [a0])) fun _ hS => ?_
      refine nil_ok (wp_cond_false (hS.eval rfl) (wp_skip (qx_seq (qx_seq (reg_seq ?_)))))
      refine sI hS (runs_fieldK fo28_3 rfl) fun _ hS => ?_
      refine sI hS (runs_load rfl pl4 ((hM3.at rfl).trans (by rw [hh]))) fun _ hS => ?_
      refine sI hS (runs_move rfl) fun _ hS => ?_
      refine sY hS (runs_fieldK fo28_1 rfl) fun _ hS => ?_
      refine sY hS (runs_load rfl pl2 (hM3.at rfl)) fun _ hS => ?_
      by_cases g1 : x.val < 0
      · skip
        refine sY hS (lssT rfl rfl (by omega)) fun _ hS => ?_
        refine sY hS (runs_move rfl) fun _ hS => ?_
        refine sN hS fun _ hS => ?_
        refine sN hS fun _ hS => ?_
        refine sN hS fun _ hS => ?_
        refine sN hS fun _ hS => ?_
        refine sY hS (runs_pick rfl rfl) fun _ hS => ?_
        refine sI hS (runs_pick rfl rfl) fun _ hS => ?_
        refine nil_ok (wp_cond_true (hS.eval rfl) (qx_seq (reg_seq ?_)))
        refine sI hS (runs_move rfl) fun _ hS => ?_
        refine sI hS (runs_fieldK fo28_1 rfl) fun _ hS => ?_
        refine seq_none hS (runs_storeC rfl rfl rfl s1_2 hM7 rfl) (fun v69 w69 a1 hp hS => ?_)
        have hQ69 := hM7
        obtain ⟨hM7, hU69⟩ := hp
        have hB := But.new hB hU69 (fun i e => by rw [e]; exact hLhM7) (Nat.le_refl _)
        have hM1 := hM1.but hU69 (has_ne hM1 hQ69 (by decide))
        have hM3 := hM3.but hU69 (hNhM3hM7)
        have hM5 := hM5.but hU69 (hNhM5hM7)
        have hE := hEb.kept hB
        have hBw := hB.size
        refine nil_ok (qx_seq (reg_guard (fun w' => Below w69.heap.size w69 w') [.inl (.agg #[.int .i64 x.id, .int .i64 x.inn, .bool false, .bool false, .int .i64 0]), .inl (.slice A l.length c), .inl (.int .i64 x.inn), .inl (.int .i64 1), .inr (fun u w' => w'.ownsRow w.heap.size 61 3 u (sendTo l (allF x.inn 1)).length (cellsE (sendTo l (allF x.inn 1))))] 5 2 mixed rfl (by kernel_rfl) hS (Below.refl _ _) (fun _ h => h.drew) ?_))
        refine hs_is rfl (fun w' hw => runs_loadRow rfl (hM7.below hw hM7.lt) Tryz.underlying50 rfl (by rw [sz28]; rfl)) ?_
        refine hs_is rfl (fun w' hw => runs_move rfl) ?_
        refine hs_is rfl (fun w' hw => runs_move rfl) ?_
        refine hs_is rfl (fun w' hw => runs_move rfl) ?_
        refine hs_pr rfl (fun _ _ _ h hb => owns_kept h hb) (fun w' hw hq => (runs_call (args := [.slice A l.length c, .int .i64 x.inn, .int .i64 1]) goes73 rfl (rall_any l hsm _ x.inn 1 w' (hE.kept hw) (by omega) (by omega) hlw)).mono (by rintro u w5 ⟨hb, h3⟩; exact ⟨owns_mono h3 (Nat.le_trans hBw hw.size), hw.trans (hb.mono hw.size), hb⟩)) (fun sr => ?_)
        refine (fun a71 w71 hS hB71 hq => ?_)
        have hSent := (hq (4, _) List.mem_cons_self)
        clear hq
        have hB := hB.trans (hB71.mono hB.size)
        have hM1 := hM1.below hB71 hM1.lt
        have hM3 := hM3.below hB71 hM3.lt
        have hM5 := hM5.below hB71 hM5.lt
        have hM7 := hM7.below hB71 hM7.lt
        have hE := hEb.kept hB
        refine tail_none 5 (by kernel_rfl) rfl hS (runs_storeB (cs := [.int .i64 x.id, .int .i64 x.inn, .bool false, .bool false, .int .i64 0]) rfl rfl hM5 rfl rfl sz28) (fun v73 w73 a73 hp hS => ⟨trivial, ?_⟩)
        have hQ73 := hM5
        obtain ⟨hM5, hU73⟩ := hp
        have hB := But.new hB hU73 (fun i e => by rw [e]; exact hLhM5) (Nat.le_refl _)
        have hM1 := hM1.but hU73 (has_ne hM1 hQ73 (by decide))
        have hM3 := hM3.but hU73 (hNhM3hM5)
        have hM7 := hM7.but hU73 ((Ne.symm hNhM5hM7))
        have hE := hEb.kept hB
        have hSent := owns_but hSent hU73 (fun i old ho e => by subst e; exact has_ne ho hQ73 (by decide) rfl)
        refine tail_op 6 (by kernel_rfl) rfl hS (by decide) (runs_assign rfl) (fun v75 w75 a75 hp hS => ⟨trivial, ?_⟩)
        obtain ⟨rfl, rfl⟩ := hp
        refine wpAnyH_done (by kernel_rfl) ?_ _
        have e0 : (at_ == 0) = false := by rw [beq_eq_false_iff_ne]; exact a0
        have hfin : runL (kindL tg.data.toList) (at_ == 0) (at_ == steps - 1) (x.id == src) x.has (if x.has = true then x.inn else 0) x.val l = ((x.inn, false), sendTo l (allF x.inn 1)) := by rw [hk, e0]; simp [runL, nearL, allF_1, -decide_eq_true_eq, hh, g1]
        rw [hfin]
        exact qx_ret (retRow2 (p := 8) (t := 9) (ty := 50) (by kernel_rfl) hS rfl rfl hM5 Tryz.underlying50 rfl (by rw [sz28]; rfl) ⟨_, rfl, hB, _, rfl, hSent⟩)
      refine sY hS (lssF rfl rfl (by omega)) fun _ hS => ?_
      refine sY hS (runs_move rfl) fun _ hS => ?_
      refine sY hS (runs_move rfl) fun _ hS => ?_
      refine sY hS (runs_fieldK fo28_1 rfl) fun _ hS => ?_
      refine sY hS (runs_load rfl pl2 (hM3.at rfl)) fun _ hS => ?_
      by_cases g2 : x.inn < x.val
      · skip
        refine sY hS (lssT rfl rfl (by omega)) fun _ hS => ?_
        refine sY hS (runs_pick rfl rfl) fun _ hS => ?_
        refine sI hS (runs_pick rfl rfl) fun _ hS => ?_
        refine nil_ok (wp_cond_true (hS.eval rfl) (qx_seq (reg_seq ?_)))
        refine sI hS (runs_move rfl) fun _ hS => ?_
        refine sI hS (runs_fieldK fo28_1 rfl) fun _ hS => ?_
        refine seq_none hS (runs_storeC rfl rfl rfl s1_2 hM7 rfl) (fun v76 w76 a1 hp hS => ?_)
        have hQ76 := hM7
        obtain ⟨hM7, hU76⟩ := hp
        have hB := But.new hB hU76 (fun i e => by rw [e]; exact hLhM7) (Nat.le_refl _)
        have hM1 := hM1.but hU76 (has_ne hM1 hQ76 (by decide))
        have hM3 := hM3.but hU76 (hNhM3hM7)
        have hM5 := hM5.but hU76 (hNhM5hM7)
        have hE := hEb.kept hB
        have hBw := hB.size
        refine nil_ok (qx_seq (reg_guard (fun w' => Below w76.heap.size w76 w') [.inl (.agg #[.int .i64 x.id, .int .i64 x.inn, .bool false, .bool false, .int .i64 0]), .inl (.slice A l.length c), .inl (.int .i64 x.inn), .inl (.int .i64 1), .inr (fun u w' => w'.ownsRow w.heap.size 61 3 u (sendTo l (allF x.inn 1)).length (cellsE (sendTo l (allF x.inn 1))))] 5 2 mixed rfl (by kernel_rfl) hS (Below.refl _ _) (fun _ h => h.drew) ?_))
        refine hs_is rfl (fun w' hw => runs_loadRow rfl (hM7.below hw hM7.lt) Tryz.underlying50 rfl (by rw [sz28]; rfl)) ?_
        refine hs_is rfl (fun w' hw => runs_move rfl) ?_
        refine hs_is rfl (fun w' hw => runs_move rfl) ?_
        refine hs_is rfl (fun w' hw => runs_move rfl) ?_
        refine hs_pr rfl (fun _ _ _ h hb => owns_kept h hb) (fun w' hw hq => (runs_call (args := [.slice A l.length c, .int .i64 x.inn, .int .i64 1]) goes73 rfl (rall_any l hsm _ x.inn 1 w' (hE.kept hw) (by omega) (by omega) hlw)).mono (by rintro u w5 ⟨hb, h3⟩; exact ⟨owns_mono h3 (Nat.le_trans hBw hw.size), hw.trans (hb.mono hw.size), hb⟩)) (fun sr => ?_)
        refine (fun a78 w78 hS hB78 hq => ?_)
        have hSent := (hq (4, _) List.mem_cons_self)
        clear hq
        have hB := hB.trans (hB78.mono hB.size)
        have hM1 := hM1.below hB78 hM1.lt
        have hM3 := hM3.below hB78 hM3.lt
        have hM5 := hM5.below hB78 hM5.lt
        have hM7 := hM7.below hB78 hM7.lt
        have hE := hEb.kept hB
        refine tail_none 5 (by kernel_rfl) rfl hS (runs_storeB (cs := [.int .i64 x.id, .int .i64 x.inn, .bool false, .bool false, .int .i64 0]) rfl rfl hM5 rfl rfl sz28) (fun v80 w80 a80 hp hS => ⟨trivial, ?_⟩)
        have hQ80 := hM5
        obtain ⟨hM5, hU80⟩ := hp
        have hB := But.new hB hU80 (fun i e => by rw [e]; exact hLhM5) (Nat.le_refl _)
        have hM1 := hM1.but hU80 (has_ne hM1 hQ80 (by decide))
        have hM3 := hM3.but hU80 (hNhM3hM5)
        have hM7 := hM7.but hU80 ((Ne.symm hNhM5hM7))
        have hE := hEb.kept hB
        have hSent := owns_but hSent hU80 (fun i old ho e => by subst e; exact has_ne ho hQ80 (by decide) rfl)
        refine tail_op 6 (by kernel_rfl) rfl hS (by decide) (runs_assign rfl) (fun v82 w82 a82 hp hS => ⟨trivial, ?_⟩)
        obtain ⟨rfl, rfl⟩ := hp
        refine wpAnyH_done (by kernel_rfl) ?_ _
        have e0 : (at_ == 0) = false := by rw [beq_eq_false_iff_ne]; exact a0
        have hfin : runL (kindL tg.data.toList) (at_ == 0) (at_ == steps - 1) (x.id == src) x.has (if x.has = true then x.inn else 0) x.val l = ((x.inn, false), sendTo l (allF x.inn 1)) := by rw [hk, e0]; simp [runL, nearL, allF_1, -decide_eq_true_eq, hh, g1, g2]
        rw [hfin]
        exact qx_ret (retRow2 (p := 8) (t := 9) (ty := 50) (by kernel_rfl) hS rfl rfl hM5 Tryz.underlying50 rfl (by rw [sz28]; rfl) ⟨_, rfl, hB, _, rfl, hSent⟩)
      refine sY hS (lssF rfl rfl (by omega)) fun _ hS => ?_
      refine sY hS (runs_pick rfl rfl) fun _ hS => ?_
      refine sI hS (runs_pick rfl rfl) fun _ hS => ?_
      refine nil_ok (wp_cond_false (hS.eval rfl) (wp_skip (qx_seq (reg_seq ?_))))
      refine sI hS (runs_loadRow rfl hM7 Tryz.underlying50 rfl (by rw [sz28]; rfl)) fun _ hS => ?_
      refine seq_none hS (runs_storeB (cs := [.int .i64 x.id, .int .i64 x.val, .bool false, .bool false, .int .i64 0]) rfl rfl hM5 rfl rfl sz28) (fun v83 w83 a1 hp hS => ?_)
      have hQ83 := hM5
      obtain ⟨hM5, hU83⟩ := hp
      have hB := But.new hB hU83 (fun i e => by rw [e]; exact hLhM5) (Nat.le_refl _)
      have hM1 := hM1.but hU83 (has_ne hM1 hQ83 (by decide))
      have hM3 := hM3.but hU83 (hNhM3hM5)
      have hM7 := hM7.but hU83 ((Ne.symm hNhM5hM7))
      have hE := hEb.kept hB
      refine sI hS (runs_assign rfl) fun _ hS => ?_
      have e0 : (at_ == 0) = false := by rw [beq_eq_false_iff_ne]; exact a0
      have hfin : runL (kindL tg.data.toList) (at_ == 0) (at_ == steps - 1) (x.id == src) x.has (if x.has = true then x.inn else 0) x.val l = ((x.val, false), []) := by rw [hk, e0]; simp [runL, nearL, -decide_eq_true_eq, hh, g1, g2]
      rw [hfin]
      exact nil_ok (qx_ret (retRow2 (p := 8) (t := 9) (ty := 50) (by kernel_rfl) hS rfl rfl hM5 Tryz.underlying50 rfl (by rw [sz28]; rfl) ⟨_, rfl, hB, _, rfl, ⟨rfl, .inl ⟨rfl, rfl⟩⟩⟩))
    · skip
      refine reg_seq ?_
      refine sI hS (eqS1 rfl rfl hk) fun _ hS => ?_
      refine sI hS (runs_assign rfl) fun _ hS => ?_
      refine nil_ok (wp_cond_false (hS.eval rfl) (reg_seq ?_))
      refine sI hS (eqS2 rfl rfl hk) fun _ hS => ?_
      refine sI hS (runs_assign rfl) fun _ hS => ?_
      refine nil_ok (wp_cond_false (hS.eval rfl) (qx_seq (qx_seq (reg_seq ?_))))
      refine sI hS (eqS3 rfl rfl hk) fun _ hS => ?_
      refine sI hS (runs_assign rfl) fun _ hS => ?_
      refine nil_ok (wp_cond_false (hS.eval rfl) (reg_seq ?_))
      refine sI hS (eqS4 rfl rfl hk) fun _ hS => ?_
      refine sI hS (runs_assign rfl) fun _ hS => ?_
      refine nil_ok (wp_cond_false (hS.eval rfl) (qx_seq (reg_seq ?_)))
      refine sI hS (eqS5 rfl rfl hk) fun _ hS => ?_
      refine sI hS (runs_assign rfl) fun _ hS => ?_
      refine nil_ok (wp_cond_true (hS.eval rfl) (qx_seq (qx_seq (reg_seq ?_))))
      refine sI hS (runs_move rfl) fun _ hS => ?_
      by_cases a0 : at_ = 0
      · skip
        refine sI hS (runs_eql (r := true) rfl rfl (by simp [a0])) fun _ hS => ?_
        have hBw := hB.size
        refine nil_ok (wp_cond_true (hS.eval rfl) (qx_seq (reg_guard (fun w' => Below w9.heap.size w9 w') [.inl (.agg #[.int .i64 x.id, .int .i64 x.val, .bool false, .bool false, .int .i64 0]), .inl (.slice A l.length c), .inr (fun u w' => w'.ownsRow w.heap.size 61 3 u (sendTo l (allF 1 0)).length (cellsE (sendTo l (allF 1 0))))] 3 2 mixed rfl (by kernel_rfl) hS (Below.refl _ _) (fun _ h => h.drew) ?_)))
        refine hs_is rfl (fun w' hw => runs_loadRow rfl (hM7.below hw hM7.lt) Tryz.underlying50 rfl (by rw [sz28]; rfl)) ?_
        refine hs_is rfl (fun w' hw => runs_move rfl) ?_
        refine hs_pr rfl (fun _ _ _ h hb => owns_kept h hb) (fun w' hw hq => (runs_call (args := [.slice A l.length c, .int .i64 1, .int .i64 0]) goes73 rfl (rall_any l hsm _ 1 0 w' (hE.kept hw) (by omega) (by omega) hlw)).mono (by rintro u w5 ⟨hb, h3⟩; exact ⟨owns_mono h3 (Nat.le_trans hBw hw.size), hw.trans (hb.mono hw.size), hb⟩)) (fun sr => ?_)
        refine (fun a85 w85 hS hB85 hq => ?_)
        have hSent := (hq (2, _) List.mem_cons_self)
        clear hq
        have hB := hB.trans (hB85.mono hB.size)
        have hM1 := hM1.below hB85 hM1.lt
        have hM3 := hM3.below hB85 hM3.lt
        have hM5 := hM5.below hB85 hM5.lt
        have hM7 := hM7.below hB85 hM7.lt
        have hE := hEb.kept hB
        refine tail_none 3 (by kernel_rfl) rfl hS (runs_storeB (cs := [.int .i64 x.id, .int .i64 x.val, .bool false, .bool false, .int .i64 0]) rfl rfl hM5 rfl rfl sz28) (fun v87 w87 a87 hp hS => ⟨trivial, ?_⟩)
        have hQ87 := hM5
        obtain ⟨hM5, hU87⟩ := hp
        have hB := But.new hB hU87 (fun i e => by rw [e]; exact hLhM5) (Nat.le_refl _)
        have hM1 := hM1.but hU87 (has_ne hM1 hQ87 (by decide))
        have hM3 := hM3.but hU87 (hNhM3hM5)
        have hM7 := hM7.but hU87 ((Ne.symm hNhM5hM7))
        have hE := hEb.kept hB
        have hSent := owns_but hSent hU87 (fun i old ho e => by subst e; exact has_ne ho hQ87 (by decide) rfl)
        refine tail_op 4 (by kernel_rfl) rfl hS (by decide) (runs_assign rfl) (fun v89 w89 a89 hp hS => ⟨trivial, ?_⟩)
        obtain ⟨rfl, rfl⟩ := hp
        refine wpAnyH_done (by kernel_rfl) ?_ _
        have e0 : (at_ == 0) = true := by rw [beq_iff_eq]; exact a0
        have hfin : runL (kindL tg.data.toList) (at_ == 0) (at_ == steps - 1) (x.id == src) x.has (if x.has = true then x.inn else 0) x.val l = ((x.val, false), sendTo l (allF 1 0)) := by rw [hk, e0]; simp [runL, degL, allF_0, -decide_eq_true_eq]
        rw [hfin]
        exact qx_ret (retRow2 (p := 8) (t := 9) (ty := 50) (by kernel_rfl) hS rfl rfl hM5 Tryz.underlying50 rfl (by rw [sz28]; rfl) ⟨_, rfl, hB, _, rfl, hSent⟩)
      refine sI hS (runs_eql (r := false) rfl rfl (by simp [a0])) fun _ hS => ?_
      refine nil_ok (wp_cond_false (hS.eval rfl) (wp_skip (qx_seq (qx_seq (reg_seq ?_)))))
      refine sI hS (runs_fieldK fo28_3 rfl) fun _ hS => ?_
      refine sI hS (runs_load rfl pl4 ((hM3.at rfl).trans (by rw [hh]))) fun _ hS => ?_
      refine nil_ok (wp_cond_true (hS.eval rfl) (reg_seq ?_))
      refine sI hS (runs_move rfl) fun _ hS => ?_
      refine sI hS (runs_fieldK fo28_1 rfl) fun _ hS => ?_
      refine seq_none hS (runs_storeC rfl rfl rfl s1_2 hM7 rfl) (fun v90 w90 a1 hp hS => ?_)
      have hQ90 := hM7
      obtain ⟨hM7, hU90⟩ := hp
      have hB := But.new hB hU90 (fun i e => by rw [e]; exact hLhM7) (Nat.le_refl _)
      have hM1 := hM1.but hU90 (has_ne hM1 hQ90 (by decide))
      have hM3 := hM3.but hU90 (hNhM3hM7)
      have hM5 := hM5.but hU90 (hNhM5hM7)
      have hE := hEb.kept hB
      refine nil_ok (qx_seq (reg_seq ?_))
      refine sI hS (runs_loadRow rfl hM7 Tryz.underlying50 rfl (by rw [sz28]; rfl)) fun _ hS => ?_
      refine seq_none hS (runs_storeB (cs := [.int .i64 x.id, .int .i64 x.inn, .bool false, .bool false, .int .i64 0]) rfl rfl hM5 rfl rfl sz28) (fun v92 w92 a1 hp hS => ?_)
      have hQ92 := hM5
      obtain ⟨hM5, hU92⟩ := hp
      have hB := But.new hB hU92 (fun i e => by rw [e]; exact hLhM5) (Nat.le_refl _)
      have hM1 := hM1.but hU92 (has_ne hM1 hQ92 (by decide))
      have hM3 := hM3.but hU92 (hNhM3hM5)
      have hM7 := hM7.but hU92 ((Ne.symm hNhM5hM7))
      have hE := hEb.kept hB
      refine sI hS (runs_assign rfl) fun _ hS => ?_
      have e0 : (at_ == 0) = false := by rw [beq_eq_false_iff_ne]; exact a0
      have hfin : runL (kindL tg.data.toList) (at_ == 0) (at_ == steps - 1) (x.id == src) x.has (if x.has = true then x.inn else 0) x.val l = ((x.inn, false), []) := by rw [hk, e0]; simp [runL, degL, -decide_eq_true_eq, hh]
      rw [hfin]
      exact nil_ok (qx_ret (retRow2 (p := 8) (t := 9) (ty := 50) (by kernel_rfl) hS rfl rfl hM5 Tryz.underlying50 rfl (by rw [sz28]; rfl) ⟨_, rfl, hB, _, rfl, ⟨rfl, .inl ⟨rfl, rfl⟩⟩⟩))
    · skip
      refine reg_seq ?_
      refine sI hS (eqS1 rfl rfl hk) fun _ hS => ?_
      refine sI hS (runs_assign rfl) fun _ hS => ?_
      refine nil_ok (wp_cond_false (hS.eval rfl) (reg_seq ?_))
      refine sI hS (eqS2 rfl rfl hk) fun _ hS => ?_
      refine sI hS (runs_assign rfl) fun _ hS => ?_
      refine nil_ok (wp_cond_false (hS.eval rfl) (qx_seq (qx_seq (reg_seq ?_))))
      refine sI hS (eqS3 rfl rfl hk) fun _ hS => ?_
      refine sI hS (runs_assign rfl) fun _ hS => ?_
      refine nil_ok (wp_cond_false (hS.eval rfl) (reg_seq ?_))
      refine sI hS (eqS4 rfl rfl hk) fun _ hS => ?_
      refine sI hS (runs_assign rfl) fun _ hS => ?_
      refine nil_ok (wp_cond_false (hS.eval rfl) (qx_seq (reg_seq ?_)))
      refine sI hS (eqS5 rfl rfl hk) fun _ hS => ?_
      refine sI hS (runs_assign rfl) fun _ hS => ?_
      refine nil_ok (wp_cond_false (hS.eval rfl) (qx_seq (reg_seq ?_)))
      refine sI hS (eqS7 rfl rfl hk) fun _ hS => ?_
      refine sI hS (runs_assign rfl) fun _ hS => ?_
      refine nil_ok (wp_cond_false (hS.eval rfl) (wp_skip (qx_seq (qx_seq (reg_seq ?_)))))
      refine sI hS (runs_move rfl) fun _ hS => ?_
      by_cases a1 : at_ > 0
      · skip
        refine sI hS (gtrT rfl rfl (by omega)) fun _ hS => ?_
        refine nil_ok (wp_cond_true (hS.eval rfl) (reg_seq ?_))
        refine sI hS (runs_move rfl) fun _ hS => ?_
        have hfb := ediv_bound (a := x.inn * 85) (b := 100) (M := 100000000000000000) (by omega) (by omega) (by omega) (by omega)
        refine sI hS (runs_mul rfl rfl ((congrArg _ (Int.mul_comm _ _)).trans (wrap64 (by omega) (by omega)))) fun _ hS => ?_
        refine sI hS (runs_call (args := [.int .i64 (x.inn * 85), .int .i64 100]) goes74 rfl (floor_any (x.inn * 85) 100 (by omega) (by omega) (by omega) (by omega) w9)) fun _ hS => ?_
        refine sI hS (runs_add rfl rfl (wrap64 (by omega) (by omega))) fun _ hS => ?_
        refine sI hS (runs_fieldK fo28_1 rfl) fun _ hS => ?_
        refine seq_none hS (runs_storeC rfl rfl rfl s1_2 hM7 rfl) (fun v94 w94 a1 hp hS => ?_)
        have hQ94 := hM7
        obtain ⟨hM7, hU94⟩ := hp
        have hB := But.new hB hU94 (fun i e => by rw [e]; exact hLhM7) (Nat.le_refl _)
        have hM1 := hM1.but hU94 (has_ne hM1 hQ94 (by decide))
        have hM3 := hM3.but hU94 (hNhM3hM7)
        have hM5 := hM5.but hU94 (hNhM5hM7)
        have hE := hEb.kept hB
        refine nil_ok (qx_seq (qx_seq (reg_seq ?_)))
        refine sI hS (runs_move rfl) fun _ hS => ?_
        refine sI hS (runs_fieldK fo26_2 rfl) fun _ hS => ?_
        refine sI hS (runs_load rfl pl3 (hM1.at rfl)) fun _ hS => ?_
        refine sI hS (runs_sub rfl rfl (wrap64 (by omega) (by omega))) fun _ hS => ?_
        by_cases la : at_ = steps - 1
        · skip
          refine sI hS (runs_eql (r := true) rfl rfl (by simp [la])) fun _ hS => ?_
          refine nil_ok (wp_cond_true (hS.eval rfl) (qx_seq (reg_seq ?_)))
          refine sI hS (runs_loadRow rfl hM7 Tryz.underlying50 rfl (by rw [sz28]; rfl)) fun _ hS => ?_
          refine seq_none hS (runs_storeB (cs := [.int .i64 x.id, .int .i64 (9830 + x.inn * 85 / 100), .bool false, .bool false, .int .i64 0]) rfl rfl hM5 rfl rfl sz28) (fun v96 w96 a1 hp hS => ?_)
          have hQ96 := hM5
          obtain ⟨hM5, hU96⟩ := hp
          have hB := But.new hB hU96 (fun i e => by rw [e]; exact hLhM5) (Nat.le_refl _)
          have hM1 := hM1.but hU96 (has_ne hM1 hQ96 (by decide))
          have hM3 := hM3.but hU96 (hNhM3hM5)
          have hM7 := hM7.but hU96 ((Ne.symm hNhM5hM7))
          have hE := hEb.kept hB
          refine sI hS (runs_assign rfl) fun _ hS => ?_
          have a0 : ¬ at_ = 0 := by omega
          have e0 : (at_ == 0) = false := by rw [beq_eq_false_iff_ne]; exact a0
          have e2 : (at_ == steps - 1) = true := by rw [beq_iff_eq]; exact la
          have hfin : runL (kindL tg.data.toList) (at_ == 0) (at_ == steps - 1) (x.id == src) x.has (if x.has = true then x.inn else 0) x.val l = (((9830 + x.inn * 85 / 100), false), []) := by rw [hk, e0, e2]; simp [runL, rankL, rankV, -decide_eq_true_eq, hh]
          rw [hfin]
          exact nil_ok (qx_ret (retRow2 (p := 8) (t := 9) (ty := 50) (by kernel_rfl) hS rfl rfl hM5 Tryz.underlying50 rfl (by rw [sz28]; rfl) ⟨_, rfl, hB, _, rfl, ⟨rfl, .inl ⟨rfl, rfl⟩⟩⟩))
        refine sI hS (runs_eql (r := false) rfl rfl (by simp [la])) fun _ hS => ?_
        refine nil_ok (wp_cond_false (hS.eval rfl) (wp_skip (qx_seq (reg_seq ?_))))
        refine sI hS (runs_fieldK fo28_2 rfl) fun _ hS => ?_
        refine seq_none hS (runs_storeC rfl rfl rfl s1_4 hM7 rfl) (fun v98 w98 a1 hp hS => ?_)
        have hQ98 := hM7
        obtain ⟨hM7, hU98⟩ := hp
        have hB := But.new hB hU98 (fun i e => by rw [e]; exact hLhM7) (Nat.le_refl _)
        have hM1 := hM1.but hU98 (has_ne hM1 hQ98 (by decide))
        have hM3 := hM3.but hU98 (hNhM3hM7)
        have hM5 := hM5.but hU98 (hNhM5hM7)
        have hE := hEb.kept hB
        refine nil_ok (qx_seq (qx_seq (reg_seq ?_)))
        refine sI hS (runs_move rfl) fun _ hS => ?_
        refine sI hS (runs_len rfl und22) fun _ hS => ?_
        by_cases l0 : l.length = 0
        · skip
          refine sI hS (runs_eql (r := true) rfl rfl (by simp [l0])) fun _ hS => ?_
          refine nil_ok (wp_cond_true (hS.eval rfl) (qx_seq (reg_seq ?_)))
          refine sI hS (runs_loadRow rfl hM7 Tryz.underlying50 rfl (by rw [sz28]; rfl)) fun _ hS => ?_
          refine seq_none hS (runs_storeB (cs := [.int .i64 x.id, .int .i64 (9830 + x.inn * 85 / 100), .bool true, .bool false, .int .i64 0]) rfl rfl hM5 rfl rfl sz28) (fun v100 w100 a1 hp hS => ?_)
          have hQ100 := hM5
          obtain ⟨hM5, hU100⟩ := hp
          have hB := But.new hB hU100 (fun i e => by rw [e]; exact hLhM5) (Nat.le_refl _)
          have hM1 := hM1.but hU100 (has_ne hM1 hQ100 (by decide))
          have hM3 := hM3.but hU100 (hNhM3hM5)
          have hM7 := hM7.but hU100 ((Ne.symm hNhM5hM7))
          have hE := hEb.kept hB
          refine sI hS (runs_assign rfl) fun _ hS => ?_
          have a0 : ¬ at_ = 0 := by omega
          have e0 : (at_ == 0) = false := by rw [beq_eq_false_iff_ne]; exact a0
          have e2 : (at_ == steps - 1) = false := by rw [beq_eq_false_iff_ne]; exact la
          have hl0 : decide (0 < l.length) = false := by rw [decide_eq_false_iff_not]; omega
          have hfin : runL (kindL tg.data.toList) (at_ == 0) (at_ == steps - 1) (x.id == src) x.has (if x.has = true then x.inn else 0) x.val l = (((9830 + x.inn * 85 / 100), true), []) := by rw [hk, e0, e2]; simp [runL, rankL, rankV, -decide_eq_true_eq, hh, hl0]
          rw [hfin]
          exact nil_ok (qx_ret (retRow2 (p := 8) (t := 9) (ty := 50) (by kernel_rfl) hS rfl rfl hM5 Tryz.underlying50 rfl (by rw [sz28]; rfl) ⟨_, rfl, hB, _, rfl, ⟨rfl, .inl ⟨rfl, rfl⟩⟩⟩))
        refine sI hS (runs_eql (r := false) rfl rfl (by rw [beq_eq_false_iff_ne]; omega)) fun _ hS => ?_
        refine nil_ok (wp_cond_false (hS.eval rfl) (wp_skip (qx_seq (?_))))
        have hd47 := ediv_bound (a := (9830 + x.inn * 85 / 100)) (b := ((l.length : Nat) : Int)) (M := 1200000000000000) (by omega) (by omega) (by omega) (by omega)
        have hBw := hB.size
        refine reg_guard (fun w' => Below w98.heap.size w98 w') [.inl (.agg #[.int .i64 x.id, .int .i64 (9830 + x.inn * 85 / 100), .bool true, .bool false, .int .i64 0]), .inl (.slice A l.length c), .inl (.pointer (some ⟨w5.heap.size, 0 + 1, none⟩)), .inl (.int .i64 (9830 + x.inn * 85 / 100)), .inl (.slice A l.length c), .inl (.int .i64 ((l.length : Nat) : Int)), .inl (.int .i64 ((9830 + x.inn * 85 / 100) / ((l.length : Nat) : Int))), .inr (fun u w' => w'.ownsRow w.heap.size 61 3 u (sendTo l (allF ((9830 + x.inn * 85 / 100) / ((l.length : Nat) : Int)) 0)).length (cellsE (sendTo l (allF ((9830 + x.inn * 85 / 100) / ((l.length : Nat) : Int)) 0))))] 8 2 mixed rfl (by kernel_rfl) hS (Below.refl _ _) (fun _ h => h.drew) ?_
        refine hs_is rfl (fun w' hw => runs_loadRow rfl (hM7.below hw hM7.lt) Tryz.underlying50 rfl (by rw [sz28]; rfl)) ?_
        refine hs_is rfl (fun w' hw => runs_move rfl) ?_
        refine hs_is rfl (fun w' hw => runs_fieldK fo28_1 rfl) ?_
        refine hs_is rfl (fun w' hw => runs_load rfl pl2 ((hM7.below hw hM7.lt).at rfl)) ?_
        refine hs_is rfl (fun w' hw => runs_move rfl) ?_
        refine hs_is rfl (fun w' hw => runs_len rfl und22) ?_
        refine hs_is rfl (fun w' hw => runs_call (args := [.int .i64 (9830 + x.inn * 85 / 100), .int .i64 ((l.length : Nat) : Int)]) goes74 rfl (floor_any (9830 + x.inn * 85 / 100) ((l.length : Nat) : Int) (by omega) (by omega) (by omega) (by omega) w')) ?_
        refine hs_pr rfl (fun _ _ _ h hb => owns_kept h hb) (fun w' hw hq => (runs_call (args := [.slice A l.length c, .int .i64 ((9830 + x.inn * 85 / 100) / ((l.length : Nat) : Int)), .int .i64 0]) goes73 rfl (rall_any l hsm _ ((9830 + x.inn * 85 / 100) / ((l.length : Nat) : Int)) 0 w' (hE.kept hw) (by omega) (by omega) hlw)).mono (by rintro u w5 ⟨hb, h3⟩; exact ⟨owns_mono h3 (Nat.le_trans hBw hw.size), hw.trans (hb.mono hw.size), hb⟩)) (fun sr => ?_)
        refine (fun a102 w102 hS hB102 hq => ?_)
        have hSent := (hq (7, _) List.mem_cons_self)
        clear hq
        have hB := hB.trans (hB102.mono hB.size)
        have hM1 := hM1.below hB102 hM1.lt
        have hM3 := hM3.below hB102 hM3.lt
        have hM5 := hM5.below hB102 hM5.lt
        have hM7 := hM7.below hB102 hM7.lt
        have hE := hEb.kept hB
        refine tail_none 8 (by kernel_rfl) rfl hS (runs_storeB (cs := [.int .i64 x.id, .int .i64 (9830 + x.inn * 85 / 100), .bool true, .bool false, .int .i64 0]) rfl rfl hM5 rfl rfl sz28) (fun v104 w104 a104 hp hS => ⟨trivial, ?_⟩)
        have hQ104 := hM5
        obtain ⟨hM5, hU104⟩ := hp
        have hB := But.new hB hU104 (fun i e => by rw [e]; exact hLhM5) (Nat.le_refl _)
        have hM1 := hM1.but hU104 (has_ne hM1 hQ104 (by decide))
        have hM3 := hM3.but hU104 (hNhM3hM5)
        have hM7 := hM7.but hU104 ((Ne.symm hNhM5hM7))
        have hE := hEb.kept hB
        have hSent := owns_but hSent hU104 (fun i old ho e => by subst e; exact has_ne ho hQ104 (by decide) rfl)
        refine tail_op 9 (by kernel_rfl) rfl hS (by decide) (runs_assign rfl) (fun v106 w106 a106 hp hS => ⟨trivial, ?_⟩)
        obtain ⟨rfl, rfl⟩ := hp
        refine wpAnyH_done (by kernel_rfl) ?_ _
        have a0 : ¬ at_ = 0 := by omega
        have e0 : (at_ == 0) = false := by rw [beq_eq_false_iff_ne]; exact a0
        have e2 : (at_ == steps - 1) = false := by rw [beq_eq_false_iff_ne]; exact la
        have hl0 : decide (0 < l.length) = true := by rw [decide_eq_true_eq]; omega
        have hfin : runL (kindL tg.data.toList) (at_ == 0) (at_ == steps - 1) (x.id == src) x.has (if x.has = true then x.inn else 0) x.val l = (((9830 + x.inn * 85 / 100), true), sendTo l (allF ((9830 + x.inn * 85 / 100) / ((l.length : Nat) : Int)) 0)) := by rw [hk, e0, e2]; simp [runL, rankL, rankV, allF_0, -decide_eq_true_eq, hh, hl0]
        rw [hfin]
        exact qx_ret (retRow2 (p := 8) (t := 9) (ty := 50) (by kernel_rfl) hS rfl rfl hM5 Tryz.underlying50 rfl (by rw [sz28]; rfl) ⟨_, rfl, hB, _, rfl, hSent⟩)
      refine sI hS (gtrF rfl rfl (by omega)) fun _ hS => ?_
      refine nil_ok (wp_cond_false (hS.eval rfl) (wp_skip (qx_seq (qx_seq (reg_seq ?_)))))
      refine sI hS (runs_move rfl) fun _ hS => ?_
      refine sI hS (runs_fieldK fo26_2 rfl) fun _ hS => ?_
      refine sI hS (runs_load rfl pl3 (hM1.at rfl)) fun _ hS => ?_
      refine sI hS (runs_sub rfl rfl (wrap64 (by omega) (by omega))) fun _ hS => ?_
      by_cases la : at_ = steps - 1
      · skip
        refine sI hS (runs_eql (r := true) rfl rfl (by simp [la])) fun _ hS => ?_
        refine nil_ok (wp_cond_true (hS.eval rfl) (qx_seq (reg_seq ?_)))
        refine sI hS (runs_loadRow rfl hM7 Tryz.underlying50 rfl (by rw [sz28]; rfl)) fun _ hS => ?_
        refine seq_none hS (runs_storeB (cs := [.int .i64 x.id, .int .i64 x.val, .bool false, .bool false, .int .i64 0]) rfl rfl hM5 rfl rfl sz28) (fun v107 w107 a1 hp hS => ?_)
        have hQ107 := hM5
        obtain ⟨hM5, hU107⟩ := hp
        have hB := But.new hB hU107 (fun i e => by rw [e]; exact hLhM5) (Nat.le_refl _)
        have hM1 := hM1.but hU107 (has_ne hM1 hQ107 (by decide))
        have hM3 := hM3.but hU107 (hNhM3hM5)
        have hM7 := hM7.but hU107 ((Ne.symm hNhM5hM7))
        have hE := hEb.kept hB
        refine sI hS (runs_assign rfl) fun _ hS => ?_
        have a0 : at_ = 0 := by omega
        have e0 : (at_ == 0) = true := by rw [beq_iff_eq]; exact a0
        have e2 : (at_ == steps - 1) = true := by rw [beq_iff_eq]; exact la
        have hfin : runL (kindL tg.data.toList) (at_ == 0) (at_ == steps - 1) (x.id == src) x.has (if x.has = true then x.inn else 0) x.val l = ((x.val, false), []) := by rw [hk, e0, e2]; simp [runL, rankL, rankV, -decide_eq_true_eq]
        rw [hfin]
        exact nil_ok (qx_ret (retRow2 (p := 8) (t := 9) (ty := 50) (by kernel_rfl) hS rfl rfl hM5 Tryz.underlying50 rfl (by rw [sz28]; rfl) ⟨_, rfl, hB, _, rfl, ⟨rfl, .inl ⟨rfl, rfl⟩⟩⟩))
      refine sI hS (runs_eql (r := false) rfl rfl (by simp [la])) fun _ hS => ?_
      refine nil_ok (wp_cond_false (hS.eval rfl) (wp_skip (qx_seq (reg_seq ?_))))
      refine sI hS (runs_fieldK fo28_2 rfl) fun _ hS => ?_
      refine seq_none hS (runs_storeC rfl rfl rfl s1_4 hM7 rfl) (fun v109 w109 a1 hp hS => ?_)
      have hQ109 := hM7
      obtain ⟨hM7, hU109⟩ := hp
      have hB := But.new hB hU109 (fun i e => by rw [e]; exact hLhM7) (Nat.le_refl _)
      have hM1 := hM1.but hU109 (has_ne hM1 hQ109 (by decide))
      have hM3 := hM3.but hU109 (hNhM3hM7)
      have hM5 := hM5.but hU109 (hNhM5hM7)
      have hE := hEb.kept hB
      refine nil_ok (qx_seq (qx_seq (reg_seq ?_)))
      refine sI hS (runs_move rfl) fun _ hS => ?_
      refine sI hS (runs_len rfl und22) fun _ hS => ?_
      by_cases l0 : l.length = 0
      · skip
        refine sI hS (runs_eql (r := true) rfl rfl (by simp [l0])) fun _ hS => ?_
        refine nil_ok (wp_cond_true (hS.eval rfl) (qx_seq (reg_seq ?_)))
        refine sI hS (runs_loadRow rfl hM7 Tryz.underlying50 rfl (by rw [sz28]; rfl)) fun _ hS => ?_
        refine seq_none hS (runs_storeB (cs := [.int .i64 x.id, .int .i64 x.val, .bool true, .bool false, .int .i64 0]) rfl rfl hM5 rfl rfl sz28) (fun v111 w111 a1 hp hS => ?_)
        have hQ111 := hM5
        obtain ⟨hM5, hU111⟩ := hp
        have hB := But.new hB hU111 (fun i e => by rw [e]; exact hLhM5) (Nat.le_refl _)
        have hM1 := hM1.but hU111 (has_ne hM1 hQ111 (by decide))
        have hM3 := hM3.but hU111 (hNhM3hM5)
        have hM7 := hM7.but hU111 ((Ne.symm hNhM5hM7))
        have hE := hEb.kept hB
        refine sI hS (runs_assign rfl) fun _ hS => ?_
        have a0 : at_ = 0 := by omega
        have e0 : (at_ == 0) = true := by rw [beq_iff_eq]; exact a0
        have e2 : (at_ == steps - 1) = false := by rw [beq_eq_false_iff_ne]; exact la
        have hl0 : decide (0 < l.length) = false := by rw [decide_eq_false_iff_not]; omega
        have hfin : runL (kindL tg.data.toList) (at_ == 0) (at_ == steps - 1) (x.id == src) x.has (if x.has = true then x.inn else 0) x.val l = ((x.val, true), []) := by rw [hk, e0, e2]; simp [runL, rankL, rankV, -decide_eq_true_eq, hl0]
        rw [hfin]
        exact nil_ok (qx_ret (retRow2 (p := 8) (t := 9) (ty := 50) (by kernel_rfl) hS rfl rfl hM5 Tryz.underlying50 rfl (by rw [sz28]; rfl) ⟨_, rfl, hB, _, rfl, ⟨rfl, .inl ⟨rfl, rfl⟩⟩⟩))
      refine sI hS (runs_eql (r := false) rfl rfl (by rw [beq_eq_false_iff_ne]; omega)) fun _ hS => ?_
      refine nil_ok (wp_cond_false (hS.eval rfl) (wp_skip (qx_seq (?_))))
      have hd47 := ediv_bound (a := x.val) (b := ((l.length : Nat) : Int)) (M := 1200000000000000) (by omega) (by omega) (by omega) (by omega)
      have hBw := hB.size
      refine reg_guard (fun w' => Below w109.heap.size w109 w') [.inl (.agg #[.int .i64 x.id, .int .i64 x.val, .bool true, .bool false, .int .i64 0]), .inl (.slice A l.length c), .inl (.pointer (some ⟨w5.heap.size, 0 + 1, none⟩)), .inl (.int .i64 x.val), .inl (.slice A l.length c), .inl (.int .i64 ((l.length : Nat) : Int)), .inl (.int .i64 (x.val / ((l.length : Nat) : Int))), .inr (fun u w' => w'.ownsRow w.heap.size 61 3 u (sendTo l (allF (x.val / ((l.length : Nat) : Int)) 0)).length (cellsE (sendTo l (allF (x.val / ((l.length : Nat) : Int)) 0))))] 8 2 mixed rfl (by kernel_rfl) hS (Below.refl _ _) (fun _ h => h.drew) ?_
      refine hs_is rfl (fun w' hw => runs_loadRow rfl (hM7.below hw hM7.lt) Tryz.underlying50 rfl (by rw [sz28]; rfl)) ?_
      refine hs_is rfl (fun w' hw => runs_move rfl) ?_
      refine hs_is rfl (fun w' hw => runs_fieldK fo28_1 rfl) ?_
      refine hs_is rfl (fun w' hw => runs_load rfl pl2 ((hM7.below hw hM7.lt).at rfl)) ?_
      refine hs_is rfl (fun w' hw => runs_move rfl) ?_
      refine hs_is rfl (fun w' hw => runs_len rfl und22) ?_
      refine hs_is rfl (fun w' hw => runs_call (args := [.int .i64 x.val, .int .i64 ((l.length : Nat) : Int)]) goes74 rfl (floor_any x.val ((l.length : Nat) : Int) (by omega) (by omega) (by omega) (by omega) w')) ?_
      refine hs_pr rfl (fun _ _ _ h hb => owns_kept h hb) (fun w' hw hq => (runs_call (args := [.slice A l.length c, .int .i64 (x.val / ((l.length : Nat) : Int)), .int .i64 0]) goes73 rfl (rall_any l hsm _ (x.val / ((l.length : Nat) : Int)) 0 w' (hE.kept hw) (by omega) (by omega) hlw)).mono (by rintro u w5 ⟨hb, h3⟩; exact ⟨owns_mono h3 (Nat.le_trans hBw hw.size), hw.trans (hb.mono hw.size), hb⟩)) (fun sr => ?_)
      refine (fun a113 w113 hS hB113 hq => ?_)
      have hSent := (hq (7, _) List.mem_cons_self)
      clear hq
      have hB := hB.trans (hB113.mono hB.size)
      have hM1 := hM1.below hB113 hM1.lt
      have hM3 := hM3.below hB113 hM3.lt
      have hM5 := hM5.below hB113 hM5.lt
      have hM7 := hM7.below hB113 hM7.lt
      have hE := hEb.kept hB
      refine tail_none 8 (by kernel_rfl) rfl hS (runs_storeB (cs := [.int .i64 x.id, .int .i64 x.val, .bool true, .bool false, .int .i64 0]) rfl rfl hM5 rfl rfl sz28) (fun v115 w115 a115 hp hS => ⟨trivial, ?_⟩)
      have hQ115 := hM5
      obtain ⟨hM5, hU115⟩ := hp
      have hB := But.new hB hU115 (fun i e => by rw [e]; exact hLhM5) (Nat.le_refl _)
      have hM1 := hM1.but hU115 (has_ne hM1 hQ115 (by decide))
      have hM3 := hM3.but hU115 (hNhM3hM5)
      have hM7 := hM7.but hU115 ((Ne.symm hNhM5hM7))
      have hE := hEb.kept hB
      have hSent := owns_but hSent hU115 (fun i old ho e => by subst e; exact has_ne ho hQ115 (by decide) rfl)
      refine tail_op 9 (by kernel_rfl) rfl hS (by decide) (runs_assign rfl) (fun v117 w117 a117 hp hS => ⟨trivial, ?_⟩)
      obtain ⟨rfl, rfl⟩ := hp
      refine wpAnyH_done (by kernel_rfl) ?_ _
      have a0 : at_ = 0 := by omega
      have e0 : (at_ == 0) = true := by rw [beq_iff_eq]; exact a0
      have e2 : (at_ == steps - 1) = false := by rw [beq_eq_false_iff_ne]; exact la
      have hl0 : decide (0 < l.length) = true := by rw [decide_eq_true_eq]; omega
      have hfin : runL (kindL tg.data.toList) (at_ == 0) (at_ == steps - 1) (x.id == src) x.has (if x.has = true then x.inn else 0) x.val l = ((x.val, true), sendTo l (allF (x.val / ((l.length : Nat) : Int)) 0)) := by rw [hk, e0, e2]; simp [runL, rankL, rankV, allF_0, -decide_eq_true_eq, hl0]
      rw [hfin]
      exact qx_ret (retRow2 (p := 8) (t := 9) (ty := 50) (by kernel_rfl) hS rfl rfl hM5 Tryz.underlying50 rfl (by rw [sz28]; rfl) ⟨_, rfl, hB, _, rfl, hSent⟩)
    refine reg_seq ?_
    refine sI hS (eqS1 rfl rfl hk) fun _ hS => ?_
    refine sI hS (runs_assign rfl) fun _ hS => ?_
    refine nil_ok (wp_cond_false (hS.eval rfl) (reg_seq ?_))
    refine sI hS (eqS2 rfl rfl hk) fun _ hS => ?_
    refine sI hS (runs_assign rfl) fun _ hS => ?_
    refine nil_ok (wp_cond_false (hS.eval rfl) (qx_seq (qx_seq (reg_seq ?_))))
    refine sI hS (eqS3 rfl rfl hk) fun _ hS => ?_
    refine sI hS (runs_assign rfl) fun _ hS => ?_
    refine nil_ok (wp_cond_false (hS.eval rfl) (reg_seq ?_))
    refine sI hS (eqS4 rfl rfl hk) fun _ hS => ?_
    refine sI hS (runs_assign rfl) fun _ hS => ?_
    refine nil_ok (wp_cond_false (hS.eval rfl) (qx_seq (reg_seq ?_)))
    refine sI hS (eqS5 rfl rfl hk) fun _ hS => ?_
    refine sI hS (runs_assign rfl) fun _ hS => ?_
    refine nil_ok (wp_cond_false (hS.eval rfl) (qx_seq (reg_seq ?_)))
    refine sI hS (eqS7 rfl rfl hk) fun _ hS => ?_
    refine sI hS (runs_assign rfl) fun _ hS => ?_
    refine nil_ok (wp_cond_true (hS.eval rfl) (qx_seq (qx_seq (reg_seq ?_))))
    refine sI hS (runs_move rfl) fun _ hS => ?_
    by_cases a0 : at_ = 0
    · skip
      refine sI hS (runs_eql (r := true) rfl rfl (by simp [a0])) fun _ hS => ?_
      have hBw := hB.size
      refine nil_ok (wp_cond_true (hS.eval rfl) (qx_seq (reg_guard (fun w' => Below w9.heap.size w9 w') [.inl (.agg #[.int .i64 x.id, .int .i64 x.val, .bool false, .bool false, .int .i64 0]), .inl (.slice A l.length c), .inr (fun u w' => w'.ownsRow w.heap.size 61 3 u (sendTo l (allF 1 0)).length (cellsE (sendTo l (allF 1 0))))] 3 2 mixed rfl (by kernel_rfl) hS (Below.refl _ _) (fun _ h => h.drew) ?_)))
      refine hs_is rfl (fun w' hw => runs_loadRow rfl (hM7.below hw hM7.lt) Tryz.underlying50 rfl (by rw [sz28]; rfl)) ?_
      refine hs_is rfl (fun w' hw => runs_move rfl) ?_
      refine hs_pr rfl (fun _ _ _ h hb => owns_kept h hb) (fun w' hw hq => (runs_call (args := [.slice A l.length c, .int .i64 1, .int .i64 0]) goes73 rfl (rall_any l hsm _ 1 0 w' (hE.kept hw) (by omega) (by omega) hlw)).mono (by rintro u w5 ⟨hb, h3⟩; exact ⟨owns_mono h3 (Nat.le_trans hBw hw.size), hw.trans (hb.mono hw.size), hb⟩)) (fun sr => ?_)
      refine (fun a118 w118 hS hB118 hq => ?_)
      have hSent := (hq (2, _) List.mem_cons_self)
      clear hq
      have hB := hB.trans (hB118.mono hB.size)
      have hM1 := hM1.below hB118 hM1.lt
      have hM3 := hM3.below hB118 hM3.lt
      have hM5 := hM5.below hB118 hM5.lt
      have hM7 := hM7.below hB118 hM7.lt
      have hE := hEb.kept hB
      refine tail_none 3 (by kernel_rfl) rfl hS (runs_storeB (cs := [.int .i64 x.id, .int .i64 x.val, .bool false, .bool false, .int .i64 0]) rfl rfl hM5 rfl rfl sz28) (fun v120 w120 a120 hp hS => ⟨trivial, ?_⟩)
      have hQ120 := hM5
      obtain ⟨hM5, hU120⟩ := hp
      have hB := But.new hB hU120 (fun i e => by rw [e]; exact hLhM5) (Nat.le_refl _)
      have hM1 := hM1.but hU120 (has_ne hM1 hQ120 (by decide))
      have hM3 := hM3.but hU120 (hNhM3hM5)
      have hM7 := hM7.but hU120 ((Ne.symm hNhM5hM7))
      have hE := hEb.kept hB
      have hSent := owns_but hSent hU120 (fun i old ho e => by subst e; exact has_ne ho hQ120 (by decide) rfl)
      refine tail_op 4 (by kernel_rfl) rfl hS (by decide) (runs_assign rfl) (fun v122 w122 a122 hp hS => ⟨trivial, ?_⟩)
      obtain ⟨rfl, rfl⟩ := hp
      refine wpAnyH_done (by kernel_rfl) ?_ _
      have e0 : (at_ == 0) = true := by rw [beq_iff_eq]; exact a0
      have hfin : runL (kindL tg.data.toList) (at_ == 0) (at_ == steps - 1) (x.id == src) x.has (if x.has = true then x.inn else 0) x.val l = ((x.val, false), sendTo l (allF 1 0)) := by rw [hk, e0]; simp [runL, walkL, allF_0, -decide_eq_true_eq]
      rw [hfin]
      exact qx_ret (retRow2 (p := 8) (t := 9) (ty := 50) (by kernel_rfl) hS rfl rfl hM5 Tryz.underlying50 rfl (by rw [sz28]; rfl) ⟨_, rfl, hB, _, rfl, hSent⟩)
    refine sI hS (runs_eql (r := false) rfl rfl (by simp [a0])) fun _ hS => ?_
    refine nil_ok (wp_cond_false (hS.eval rfl) (wp_skip (qx_seq (qx_seq (reg_seq ?_)))))
    refine sI hS (runs_fieldK fo28_3 rfl) fun _ hS => ?_
    refine sI hS (runs_load rfl pl4 ((hM3.at rfl).trans (by rw [hh]))) fun _ hS => ?_
    refine sI hS (runs_not (b := true) rfl) fun _ hS => ?_
    refine nil_ok (wp_cond_false (hS.eval rfl) (wp_skip (qx_seq (reg_seq ?_))))
    refine sI hS (runs_fieldK fo28_1 rfl) fun _ hS => ?_
    refine sI hS (runs_load rfl pl2 (hM3.at rfl)) fun _ hS => ?_
    refine sI hS (runs_move rfl) fun _ hS => ?_
    refine sI hS (runs_add rfl rfl (wrap64 (by omega) (by omega))) fun _ hS => ?_
    refine sI hS (runs_fieldK fo28_1 rfl) fun _ hS => ?_
    refine seq_none hS (runs_storeC rfl rfl rfl s1_2 hM7 rfl) (fun v123 w123 a1 hp hS => ?_)
    have hQ123 := hM7
    obtain ⟨hM7, hU123⟩ := hp
    have hB := But.new hB hU123 (fun i e => by rw [e]; exact hLhM7) (Nat.le_refl _)
    have hM1 := hM1.but hU123 (has_ne hM1 hQ123 (by decide))
    have hM3 := hM3.but hU123 (hNhM3hM7)
    have hM5 := hM5.but hU123 (hNhM5hM7)
    have hE := hEb.kept hB
    have hBw := hB.size
    refine nil_ok (qx_seq (reg_guard (fun w' => Below w123.heap.size w123 w') [.inl (.agg #[.int .i64 x.id, .int .i64 (x.val + x.inn), .bool false, .bool false, .int .i64 0]), .inl (.slice A l.length c), .inl (.int .i64 x.inn), .inr (fun u w' => w'.ownsRow w.heap.size 61 3 u (sendTo l (allF x.inn 0)).length (cellsE (sendTo l (allF x.inn 0))))] 4 2 mixed rfl (by kernel_rfl) hS (Below.refl _ _) (fun _ h => h.drew) ?_))
    refine hs_is rfl (fun w' hw => runs_loadRow rfl (hM7.below hw hM7.lt) Tryz.underlying50 rfl (by rw [sz28]; rfl)) ?_
    refine hs_is rfl (fun w' hw => runs_move rfl) ?_
    refine hs_is rfl (fun w' hw => runs_move rfl) ?_
    refine hs_pr rfl (fun _ _ _ h hb => owns_kept h hb) (fun w' hw hq => (runs_call (args := [.slice A l.length c, .int .i64 x.inn, .int .i64 0]) goes73 rfl (rall_any l hsm _ x.inn 0 w' (hE.kept hw) (by omega) (by omega) hlw)).mono (by rintro u w5 ⟨hb, h3⟩; exact ⟨owns_mono h3 (Nat.le_trans hBw hw.size), hw.trans (hb.mono hw.size), hb⟩)) (fun sr => ?_)
    refine (fun a125 w125 hS hB125 hq => ?_)
    have hSent := (hq (3, _) List.mem_cons_self)
    clear hq
    have hB := hB.trans (hB125.mono hB.size)
    have hM1 := hM1.below hB125 hM1.lt
    have hM3 := hM3.below hB125 hM3.lt
    have hM5 := hM5.below hB125 hM5.lt
    have hM7 := hM7.below hB125 hM7.lt
    have hE := hEb.kept hB
    refine tail_none 4 (by kernel_rfl) rfl hS (runs_storeB (cs := [.int .i64 x.id, .int .i64 (x.val + x.inn), .bool false, .bool false, .int .i64 0]) rfl rfl hM5 rfl rfl sz28) (fun v127 w127 a127 hp hS => ⟨trivial, ?_⟩)
    have hQ127 := hM5
    obtain ⟨hM5, hU127⟩ := hp
    have hB := But.new hB hU127 (fun i e => by rw [e]; exact hLhM5) (Nat.le_refl _)
    have hM1 := hM1.but hU127 (has_ne hM1 hQ127 (by decide))
    have hM3 := hM3.but hU127 (hNhM3hM5)
    have hM7 := hM7.but hU127 ((Ne.symm hNhM5hM7))
    have hE := hEb.kept hB
    have hSent := owns_but hSent hU127 (fun i old ho e => by subst e; exact has_ne ho hQ127 (by decide) rfl)
    refine tail_op 5 (by kernel_rfl) rfl hS (by decide) (runs_assign rfl) (fun v129 w129 a129 hp hS => ⟨trivial, ?_⟩)
    obtain ⟨rfl, rfl⟩ := hp
    refine wpAnyH_done (by kernel_rfl) ?_ _
    have e0 : (at_ == 0) = false := by rw [beq_eq_false_iff_ne]; exact a0
    have hfin : runL (kindL tg.data.toList) (at_ == 0) (at_ == steps - 1) (x.id == src) x.has (if x.has = true then x.inn else 0) x.val l = (((x.val + x.inn), false), sendTo l (allF x.inn 0)) := by rw [hk, e0]; simp [runL, walkL, allF_0, -decide_eq_true_eq, hh]
    rw [hfin]
    exact qx_ret (retRow2 (p := 8) (t := 9) (ty := 50) (by kernel_rfl) hS rfl rfl hM5 Tryz.underlying50 rfl (by rw [sz28]; rfl) ⟨_, rfl, hB, _, rfl, hSent⟩)
  refine sI hS (runs_load rfl pl4 ((hM3.at rfl).trans (by rw [Bool.eq_false_iff.2 hh]))) fun _ hS => ?_
  refine sI hS (runs_not (b := false) rfl) fun _ hS => ?_
  refine nil_ok (wp_cond_true (hS.eval rfl) (reg_seq ?_))
  refine sI hS (runs_assign rfl) fun _ hS => ?_
  refine nil_ok (qx_seq (qx_seq (reg_seq ?_)))
  refine sI hS (runs_fieldK fo26_0 rfl) fun _ hS => ?_
  refine sI hS (runs_load rfl pl9 (hM1.at rfl)) fun _ hS => ?_
  refine nil_ok (qx_block (qx_seq (qx_seq (?_))))
  rcases kind_cases tg.data.toList with hk | hk | hk | hk | hk | hk | hk | hk
  · exact absurd hk hkn
  · skip
    refine reg_seq ?_
    refine sI hS (eqS1 rfl rfl hk) fun _ hS => ?_
    refine sI hS (runs_assign rfl) fun _ hS => ?_
    refine nil_ok (wp_cond_true (hS.eval rfl) (wp_skip (wp_cond_true (hS.eval rfl) (qx_seq (qx_seq (reg_seq ?_))))))
    refine sI hS (runs_move rfl) fun _ hS => ?_
    by_cases a0 : at_ = 0
    · skip
      refine sI hS (runs_eql (r := true) rfl rfl (by simp [a0])) fun _ hS => ?_
      have hBw := hB.size
      refine nil_ok (wp_cond_true (hS.eval rfl) (qx_seq (reg_guard (fun w' => Below w9.heap.size w9 w') [.inl (.agg #[.int .i64 x.id, .int .i64 x.val, .bool false, .bool false, .int .i64 0]), .inl (.slice A l.length c), .inl (.pointer (some ⟨w1.heap.size, 0 + 1, none⟩)), .inl (.int .i64 x.val), .inr (fun u w' => w'.ownsRow w.heap.size 61 3 u (sendTo l (allF x.val 0)).length (cellsE (sendTo l (allF x.val 0))))] 5 2 mixed rfl (by kernel_rfl) hS (Below.refl _ _) (fun _ h => h.drew) ?_)))
      refine hs_is rfl (fun w' hw => runs_loadRow rfl (hM7.below hw hM7.lt) Tryz.underlying50 rfl (by rw [sz28]; rfl)) ?_
      refine hs_is rfl (fun w' hw => runs_move rfl) ?_
      refine hs_is rfl (fun w' hw => runs_fieldK fo28_1 rfl) ?_
      refine hs_is rfl (fun w' hw => runs_load rfl pl2 ((hM3.below hw hM3.lt).at rfl)) ?_
      refine hs_pr rfl (fun _ _ _ h hb => owns_kept h hb) (fun w' hw hq => (runs_call (args := [.slice A l.length c, .int .i64 x.val, .int .i64 0]) goes73 rfl (rall_any l hsm _ x.val 0 w' (hE.kept hw) (by omega) (by omega) hlw)).mono (by rintro u w5 ⟨hb, h3⟩; exact ⟨owns_mono h3 (Nat.le_trans hBw hw.size), hw.trans (hb.mono hw.size), hb⟩)) (fun sr => ?_)
      refine (fun a130 w130 hS hB130 hq => ?_)
      have hSent := (hq (4, _) List.mem_cons_self)
      clear hq
      have hB := hB.trans (hB130.mono hB.size)
      have hM1 := hM1.below hB130 hM1.lt
      have hM3 := hM3.below hB130 hM3.lt
      have hM5 := hM5.below hB130 hM5.lt
      have hM7 := hM7.below hB130 hM7.lt
      have hE := hEb.kept hB
      refine tail_none 5 (by kernel_rfl) rfl hS (runs_storeB (cs := [.int .i64 x.id, .int .i64 x.val, .bool false, .bool false, .int .i64 0]) rfl rfl hM5 rfl rfl sz28) (fun v132 w132 a132 hp hS => ⟨trivial, ?_⟩)
      have hQ132 := hM5
      obtain ⟨hM5, hU132⟩ := hp
      have hB := But.new hB hU132 (fun i e => by rw [e]; exact hLhM5) (Nat.le_refl _)
      have hM1 := hM1.but hU132 (has_ne hM1 hQ132 (by decide))
      have hM3 := hM3.but hU132 (hNhM3hM5)
      have hM7 := hM7.but hU132 ((Ne.symm hNhM5hM7))
      have hE := hEb.kept hB
      have hSent := owns_but hSent hU132 (fun i old ho e => by subst e; exact has_ne ho hQ132 (by decide) rfl)
      refine tail_op 6 (by kernel_rfl) rfl hS (by decide) (runs_assign rfl) (fun v134 w134 a134 hp hS => ⟨trivial, ?_⟩)
      obtain ⟨rfl, rfl⟩ := hp
      refine wpAnyH_done (by kernel_rfl) ?_ _
      have e0 : (at_ == 0) = true := by rw [beq_iff_eq]; exact a0
      have hfin : runL (kindL tg.data.toList) (at_ == 0) (at_ == steps - 1) (x.id == src) x.has (if x.has = true then x.inn else 0) x.val l = ((x.val, false), sendTo l (allF x.val 0)) := by rw [hk, e0]; simp [runL, bestL, allF_0, -decide_eq_true_eq]
      rw [hfin]
      exact qx_ret (retRow2 (p := 8) (t := 9) (ty := 50) (by kernel_rfl) hS rfl rfl hM5 Tryz.underlying50 rfl (by rw [sz28]; rfl) ⟨_, rfl, hB, _, rfl, hSent⟩)
    refine sI hS (runs_eql (r := false) rfl rfl (by simp [a0])) fun _ hS => ?_
    refine nil_ok (wp_cond_false (hS.eval rfl) (wp_skip (qx_seq (qx_seq (reg_seq ?_)))))
    refine sI hS (runs_fieldK fo28_3 rfl) fun _ hS => ?_
    refine sI hS (runs_load rfl pl4 ((hM3.at rfl).trans (by rw [Bool.eq_false_iff.2 hh]))) fun _ hS => ?_
    refine sI hS (runs_move rfl) fun _ hS => ?_
    refine sN hS fun _ hS => ?_
    refine sN hS fun _ hS => ?_
    refine sN hS fun _ hS => ?_
    refine sN hS fun _ hS => ?_
    refine sU hS fun _ hS => ?_
    refine sU hS fun _ hS => ?_
    refine sU hS fun _ hS => ?_
    refine sU hS fun _ hS => ?_
    refine sN hS fun _ hS => ?_
    refine sN hS fun _ hS => ?_
    refine sU hS fun _ hS => ?_
    refine sU hS fun _ hS => ?_
    refine sU hS fun _ hS => ?_
    refine sU hS fun _ hS => ?_
    refine sU hS fun _ hS => ?_
    refine sU hS fun _ hS => ?_
    refine sU hS fun _ hS => ?_
    refine sU hS fun _ hS => ?_
    refine sU hS fun _ hS => ?_
    refine sN hS fun _ hS => ?_
    refine sI hS (runs_pick rfl rfl) fun _ hS => ?_
    refine nil_ok (wp_cond_false (hS.eval rfl) (wp_skip (qx_seq (reg_seq ?_))))
    refine sI hS (runs_loadRow rfl hM7 Tryz.underlying50 rfl (by rw [sz28]; rfl)) fun _ hS => ?_
    refine seq_none hS (runs_storeB (cs := [.int .i64 x.id, .int .i64 x.val, .bool false, .bool false, .int .i64 0]) rfl rfl hM5 rfl rfl sz28) (fun v135 w135 a1 hp hS => ?_)
    have hQ135 := hM5
    obtain ⟨hM5, hU135⟩ := hp
    have hB := But.new hB hU135 (fun i e => by rw [e]; exact hLhM5) (Nat.le_refl _)
    have hM1 := hM1.but hU135 (has_ne hM1 hQ135 (by decide))
    have hM3 := hM3.but hU135 (hNhM3hM5)
    have hM7 := hM7.but hU135 ((Ne.symm hNhM5hM7))
    have hE := hEb.kept hB
    refine sI hS (runs_assign rfl) fun _ hS => ?_
    have e0 : (at_ == 0) = false := by rw [beq_eq_false_iff_ne]; exact a0
    have hfin : runL (kindL tg.data.toList) (at_ == 0) (at_ == steps - 1) (x.id == src) x.has (if x.has = true then x.inn else 0) x.val l = ((x.val, false), []) := by rw [hk, e0]; simp [runL, bestL, -decide_eq_true_eq, hh]
    rw [hfin]
    exact nil_ok (qx_ret (retRow2 (p := 8) (t := 9) (ty := 50) (by kernel_rfl) hS rfl rfl hM5 Tryz.underlying50 rfl (by rw [sz28]; rfl) ⟨_, rfl, hB, _, rfl, ⟨rfl, .inl ⟨rfl, rfl⟩⟩⟩))
  · skip
    refine reg_seq ?_
    refine sI hS (eqS1 rfl rfl hk) fun _ hS => ?_
    refine sI hS (runs_assign rfl) fun _ hS => ?_
    refine nil_ok (wp_cond_false (hS.eval rfl) (reg_seq ?_))
    refine sI hS (eqS2 rfl rfl hk) fun _ hS => ?_
    refine sI hS (runs_assign rfl) fun _ hS => ?_
    refine nil_ok (wp_cond_true (hS.eval rfl) (qx_seq (qx_seq (reg_seq ?_))))
    refine sI hS (runs_move rfl) fun _ hS => ?_
    by_cases a0 : at_ = 0
    · skip
      refine sI hS (runs_eql (r := true) rfl rfl (by simp [a0])) fun _ hS => ?_
      have hBw := hB.size
      refine nil_ok (wp_cond_true (hS.eval rfl) (qx_seq (reg_guard (fun w' => Below w9.heap.size w9 w') [.inl (.agg #[.int .i64 x.id, .int .i64 x.val, .bool false, .bool false, .int .i64 0]), .inl (.slice A l.length c), .inl (.pointer (some ⟨w1.heap.size, 0 + 1, none⟩)), .inl (.int .i64 x.val), .inr (fun u w' => w'.ownsRow w.heap.size 61 3 u (sendTo l (allF x.val 0)).length (cellsE (sendTo l (allF x.val 0))))] 5 2 mixed rfl (by kernel_rfl) hS (Below.refl _ _) (fun _ h => h.drew) ?_)))
      refine hs_is rfl (fun w' hw => runs_loadRow rfl (hM7.below hw hM7.lt) Tryz.underlying50 rfl (by rw [sz28]; rfl)) ?_
      refine hs_is rfl (fun w' hw => runs_move rfl) ?_
      refine hs_is rfl (fun w' hw => runs_fieldK fo28_1 rfl) ?_
      refine hs_is rfl (fun w' hw => runs_load rfl pl2 ((hM3.below hw hM3.lt).at rfl)) ?_
      refine hs_pr rfl (fun _ _ _ h hb => owns_kept h hb) (fun w' hw hq => (runs_call (args := [.slice A l.length c, .int .i64 x.val, .int .i64 0]) goes73 rfl (rall_any l hsm _ x.val 0 w' (hE.kept hw) (by omega) (by omega) hlw)).mono (by rintro u w5 ⟨hb, h3⟩; exact ⟨owns_mono h3 (Nat.le_trans hBw hw.size), hw.trans (hb.mono hw.size), hb⟩)) (fun sr => ?_)
      refine (fun a137 w137 hS hB137 hq => ?_)
      have hSent := (hq (4, _) List.mem_cons_self)
      clear hq
      have hB := hB.trans (hB137.mono hB.size)
      have hM1 := hM1.below hB137 hM1.lt
      have hM3 := hM3.below hB137 hM3.lt
      have hM5 := hM5.below hB137 hM5.lt
      have hM7 := hM7.below hB137 hM7.lt
      have hE := hEb.kept hB
      refine tail_none 5 (by kernel_rfl) rfl hS (runs_storeB (cs := [.int .i64 x.id, .int .i64 x.val, .bool false, .bool false, .int .i64 0]) rfl rfl hM5 rfl rfl sz28) (fun v139 w139 a139 hp hS => ⟨trivial, ?_⟩)
      have hQ139 := hM5
      obtain ⟨hM5, hU139⟩ := hp
      have hB := But.new hB hU139 (fun i e => by rw [e]; exact hLhM5) (Nat.le_refl _)
      have hM1 := hM1.but hU139 (has_ne hM1 hQ139 (by decide))
      have hM3 := hM3.but hU139 (hNhM3hM5)
      have hM7 := hM7.but hU139 ((Ne.symm hNhM5hM7))
      have hE := hEb.kept hB
      have hSent := owns_but hSent hU139 (fun i old ho e => by subst e; exact has_ne ho hQ139 (by decide) rfl)
      refine tail_op 6 (by kernel_rfl) rfl hS (by decide) (runs_assign rfl) (fun v141 w141 a141 hp hS => ⟨trivial, ?_⟩)
      obtain ⟨rfl, rfl⟩ := hp
      refine wpAnyH_done (by kernel_rfl) ?_ _
      have e0 : (at_ == 0) = true := by rw [beq_iff_eq]; exact a0
      have hfin : runL (kindL tg.data.toList) (at_ == 0) (at_ == steps - 1) (x.id == src) x.has (if x.has = true then x.inn else 0) x.val l = ((x.val, false), sendTo l (allF x.val 0)) := by rw [hk, e0]; simp [runL, bestL, allF_0, -decide_eq_true_eq]
      rw [hfin]
      exact qx_ret (retRow2 (p := 8) (t := 9) (ty := 50) (by kernel_rfl) hS rfl rfl hM5 Tryz.underlying50 rfl (by rw [sz28]; rfl) ⟨_, rfl, hB, _, rfl, hSent⟩)
    refine sI hS (runs_eql (r := false) rfl rfl (by simp [a0])) fun _ hS => ?_
    refine nil_ok (wp_cond_false (hS.eval rfl) (wp_skip (qx_seq (qx_seq (reg_seq ?_)))))
    refine sI hS (runs_fieldK fo28_3 rfl) fun _ hS => ?_
    refine sI hS (runs_load rfl pl4 ((hM3.at rfl).trans (by rw [Bool.eq_false_iff.2 hh]))) fun _ hS => ?_
    refine sI hS (runs_move rfl) fun _ hS => ?_
    refine sN hS fun _ hS => ?_
    refine sN hS fun _ hS => ?_
    refine sN hS fun _ hS => ?_
    refine sN hS fun _ hS => ?_
    refine sU hS fun _ hS => ?_
    refine sU hS fun _ hS => ?_
    refine sU hS fun _ hS => ?_
    refine sU hS fun _ hS => ?_
    refine sN hS fun _ hS => ?_
    refine sN hS fun _ hS => ?_
    refine sU hS fun _ hS => ?_
    refine sU hS fun _ hS => ?_
    refine sU hS fun _ hS => ?_
    refine sU hS fun _ hS => ?_
    refine sU hS fun _ hS => ?_
    refine sU hS fun _ hS => ?_
    refine sU hS fun _ hS => ?_
    refine sU hS fun _ hS => ?_
    refine sU hS fun _ hS => ?_
    refine sN hS fun _ hS => ?_
    refine sI hS (runs_pick rfl rfl) fun _ hS => ?_
    refine nil_ok (wp_cond_false (hS.eval rfl) (wp_skip (qx_seq (reg_seq ?_))))
    refine sI hS (runs_loadRow rfl hM7 Tryz.underlying50 rfl (by rw [sz28]; rfl)) fun _ hS => ?_
    refine seq_none hS (runs_storeB (cs := [.int .i64 x.id, .int .i64 x.val, .bool false, .bool false, .int .i64 0]) rfl rfl hM5 rfl rfl sz28) (fun v142 w142 a1 hp hS => ?_)
    have hQ142 := hM5
    obtain ⟨hM5, hU142⟩ := hp
    have hB := But.new hB hU142 (fun i e => by rw [e]; exact hLhM5) (Nat.le_refl _)
    have hM1 := hM1.but hU142 (has_ne hM1 hQ142 (by decide))
    have hM3 := hM3.but hU142 (hNhM3hM5)
    have hM7 := hM7.but hU142 ((Ne.symm hNhM5hM7))
    have hE := hEb.kept hB
    refine sI hS (runs_assign rfl) fun _ hS => ?_
    have e0 : (at_ == 0) = false := by rw [beq_eq_false_iff_ne]; exact a0
    have hfin : runL (kindL tg.data.toList) (at_ == 0) (at_ == steps - 1) (x.id == src) x.has (if x.has = true then x.inn else 0) x.val l = ((x.val, false), []) := by rw [hk, e0]; simp [runL, bestL, -decide_eq_true_eq, hh]
    rw [hfin]
    exact nil_ok (qx_ret (retRow2 (p := 8) (t := 9) (ty := 50) (by kernel_rfl) hS rfl rfl hM5 Tryz.underlying50 rfl (by rw [sz28]; rfl) ⟨_, rfl, hB, _, rfl, ⟨rfl, .inl ⟨rfl, rfl⟩⟩⟩))
  · skip
    refine reg_seq ?_
    refine sI hS (eqS1 rfl rfl hk) fun _ hS => ?_
    refine sI hS (runs_assign rfl) fun _ hS => ?_
    refine nil_ok (wp_cond_false (hS.eval rfl) (reg_seq ?_))
    refine sI hS (eqS2 rfl rfl hk) fun _ hS => ?_
    refine sI hS (runs_assign rfl) fun _ hS => ?_
    refine nil_ok (wp_cond_false (hS.eval rfl) (qx_seq (qx_seq (reg_seq ?_))))
    refine sI hS (eqS3 rfl rfl hk) fun _ hS => ?_
    refine sI hS (runs_assign rfl) fun _ hS => ?_
    refine nil_ok (wp_cond_true (hS.eval rfl) (wp_skip (wp_cond_true (hS.eval rfl) (qx_seq (reg_seq ?_)))))
    refine sI hS (runs_assign rfl) fun _ hS => ?_
    refine nil_ok (qx_seq (qx_seq (reg_seq ?_)))
    refine sI hS (runs_fieldK fo26_0 rfl) fun _ hS => ?_
    refine sI hS (runs_load rfl pl9 (hM1.at rfl)) fun _ hS => ?_
    refine sI hS (eqS4 rfl rfl hk) fun _ hS => ?_
    refine nil_ok (wp_cond_false (hS.eval rfl) (wp_skip (qx_seq (qx_seq (reg_seq ?_)))))
    refine sI hS (runs_move rfl) fun _ hS => ?_
    by_cases a0 : at_ = 0
    · skip
      refine sI hS (runs_eql (r := true) rfl rfl (by simp [a0])) fun _ hS => ?_
      refine nil_ok (wp_cond_true (hS.eval rfl) (qx_seq (qx_seq (reg_seq ?_))))
      refine sI hS (runs_fieldK fo28_0 rfl) fun _ hS => ?_
      refine sI hS (runs_load rfl pl3 (hM3.at rfl)) fun _ hS => ?_
      refine sI hS (runs_fieldK fo26_1 rfl) fun _ hS => ?_
      refine sI hS (runs_load rfl pl3 (hM1.at rfl)) fun _ hS => ?_
      by_cases s0 : x.id = src
      · skip
        refine sI hS (runs_eql (r := true) rfl rfl (by simp [s0])) fun _ hS => ?_
        have hBw := hB.size
        refine nil_ok (wp_cond_true (hS.eval rfl) (qx_seq (reg_guard (fun w' => Below w9.heap.size w9 w') [.inl (.agg #[.int .i64 x.id, .int .i64 x.val, .bool false, .bool false, .int .i64 0]), .inl (.slice A l.length c), .inl (.int .i64 2), .inr (fun u w' => w'.ownsRow w.heap.size 61 3 u (sendTo l (allF 0 2)).length (cellsE (sendTo l (allF 0 2))))] 4 2 mixed rfl (by kernel_rfl) hS (Below.refl _ _) (fun _ h => h.drew) ?_)))
        refine hs_is rfl (fun w' hw => runs_loadRow rfl (hM7.below hw hM7.lt) Tryz.underlying50 rfl (by rw [sz28]; rfl)) ?_
        refine hs_is rfl (fun w' hw => runs_move rfl) ?_
        refine hs_is rfl (fun w' hw => runs_move rfl) ?_
        refine hs_pr rfl (fun _ _ _ h hb => owns_kept h hb) (fun w' hw hq => (runs_call (args := [.slice A l.length c, .int .i64 0, .int .i64 2]) goes73 rfl (rall_any l hsm _ 0 2 w' (hE.kept hw) (by omega) (by omega) hlw)).mono (by rintro u w5 ⟨hb, h3⟩; exact ⟨owns_mono h3 (Nat.le_trans hBw hw.size), hw.trans (hb.mono hw.size), hb⟩)) (fun sr => ?_)
        refine (fun a144 w144 hS hB144 hq => ?_)
        have hSent := (hq (3, _) List.mem_cons_self)
        clear hq
        have hB := hB.trans (hB144.mono hB.size)
        have hM1 := hM1.below hB144 hM1.lt
        have hM3 := hM3.below hB144 hM3.lt
        have hM5 := hM5.below hB144 hM5.lt
        have hM7 := hM7.below hB144 hM7.lt
        have hE := hEb.kept hB
        refine tail_none 4 (by kernel_rfl) rfl hS (runs_storeB (cs := [.int .i64 x.id, .int .i64 x.val, .bool false, .bool false, .int .i64 0]) rfl rfl hM5 rfl rfl sz28) (fun v146 w146 a146 hp hS => ⟨trivial, ?_⟩)
        have hQ146 := hM5
        obtain ⟨hM5, hU146⟩ := hp
        have hB := But.new hB hU146 (fun i e => by rw [e]; exact hLhM5) (Nat.le_refl _)
        have hM1 := hM1.but hU146 (has_ne hM1 hQ146 (by decide))
        have hM3 := hM3.but hU146 (hNhM3hM5)
        have hM7 := hM7.but hU146 ((Ne.symm hNhM5hM7))
        have hE := hEb.kept hB
        have hSent := owns_but hSent hU146 (fun i old ho e => by subst e; exact has_ne ho hQ146 (by decide) rfl)
        refine tail_op 5 (by kernel_rfl) rfl hS (by decide) (runs_assign rfl) (fun v148 w148 a148 hp hS => ⟨trivial, ?_⟩)
        obtain ⟨rfl, rfl⟩ := hp
        refine wpAnyH_done (by kernel_rfl) ?_ _
        have e0 : (at_ == 0) = true := by rw [beq_iff_eq]; exact a0
        have hfin : runL (kindL tg.data.toList) (at_ == 0) (at_ == steps - 1) (x.id == src) x.has (if x.has = true then x.inn else 0) x.val l = ((x.val, false), sendTo l (allF 0 2)) := by rw [hk, e0]; simp [runL, nearL, allF_2, -decide_eq_true_eq, s0]
        rw [hfin]
        exact qx_ret (retRow2 (p := 8) (t := 9) (ty := 50) (by kernel_rfl) hS rfl rfl hM5 Tryz.underlying50 rfl (by rw [sz28]; rfl) ⟨_, rfl, hB, _, rfl, hSent⟩)
      refine sI hS (runs_eql (r := false) rfl rfl (by simp [s0])) fun _ hS => ?_
      refine nil_ok (wp_cond_false (hS.eval rfl) (wp_skip (qx_seq (reg_seq ?_))))
      refine sI hS (runs_loadRow rfl hM7 Tryz.underlying50 rfl (by rw [sz28]; rfl)) fun _ hS => ?_
      refine seq_none hS (runs_storeB (cs := [.int .i64 x.id, .int .i64 x.val, .bool false, .bool false, .int .i64 0]) rfl rfl hM5 rfl rfl sz28) (fun v149 w149 a1 hp hS => ?_)
      have hQ149 := hM5
      obtain ⟨hM5, hU149⟩ := hp
      have hB := But.new hB hU149 (fun i e => by rw [e]; exact hLhM5) (Nat.le_refl _)
      have hM1 := hM1.but hU149 (has_ne hM1 hQ149 (by decide))
      have hM3 := hM3.but hU149 (hNhM3hM5)
      have hM7 := hM7.but hU149 ((Ne.symm hNhM5hM7))
      have hE := hEb.kept hB
      refine sI hS (runs_assign rfl) fun _ hS => ?_
      have e0 : (at_ == 0) = true := by rw [beq_iff_eq]; exact a0
      have hfin : runL (kindL tg.data.toList) (at_ == 0) (at_ == steps - 1) (x.id == src) x.has (if x.has = true then x.inn else 0) x.val l = ((x.val, false), []) := by rw [hk, e0]; simp [runL, nearL, -decide_eq_true_eq, s0]
      rw [hfin]
      exact nil_ok (qx_ret (retRow2 (p := 8) (t := 9) (ty := 50) (by kernel_rfl) hS rfl rfl hM5 Tryz.underlying50 rfl (by rw [sz28]; rfl) ⟨_, rfl, hB, _, rfl, ⟨rfl, .inl ⟨rfl, rfl⟩⟩⟩))
    refine sI hS (runs_eql (r := false) rfl rfl (by simp [a0])) fun _ hS => ?_
    refine nil_ok (wp_cond_false (hS.eval rfl) (wp_skip (qx_seq (qx_seq (reg_seq ?_)))))
    refine sI hS (runs_fieldK fo28_3 rfl) fun _ hS => ?_
    refine sI hS (runs_load rfl pl4 ((hM3.at rfl).trans (by rw [Bool.eq_false_iff.2 hh]))) fun _ hS => ?_
    refine sI hS (runs_move rfl) fun _ hS => ?_
    refine sN hS fun _ hS => ?_
    refine sN hS fun _ hS => ?_
    refine sN hS fun _ hS => ?_
    refine sN hS fun _ hS => ?_
    refine sU hS fun _ hS => ?_
    refine sU hS fun _ hS => ?_
    refine sU hS fun _ hS => ?_
    refine sU hS fun _ hS => ?_
    refine sN hS fun _ hS => ?_
    refine sI hS (runs_pick rfl rfl) fun _ hS => ?_
    refine nil_ok (wp_cond_false (hS.eval rfl) (wp_skip (qx_seq (reg_seq ?_))))
    refine sI hS (runs_loadRow rfl hM7 Tryz.underlying50 rfl (by rw [sz28]; rfl)) fun _ hS => ?_
    refine seq_none hS (runs_storeB (cs := [.int .i64 x.id, .int .i64 x.val, .bool false, .bool false, .int .i64 0]) rfl rfl hM5 rfl rfl sz28) (fun v151 w151 a1 hp hS => ?_)
    have hQ151 := hM5
    obtain ⟨hM5, hU151⟩ := hp
    have hB := But.new hB hU151 (fun i e => by rw [e]; exact hLhM5) (Nat.le_refl _)
    have hM1 := hM1.but hU151 (has_ne hM1 hQ151 (by decide))
    have hM3 := hM3.but hU151 (hNhM3hM5)
    have hM7 := hM7.but hU151 ((Ne.symm hNhM5hM7))
    have hE := hEb.kept hB
    refine sI hS (runs_assign rfl) fun _ hS => ?_
    have e0 : (at_ == 0) = false := by rw [beq_eq_false_iff_ne]; exact a0
    have hfin : runL (kindL tg.data.toList) (at_ == 0) (at_ == steps - 1) (x.id == src) x.has (if x.has = true then x.inn else 0) x.val l = ((x.val, false), []) := by rw [hk, e0]; simp [runL, nearL, -decide_eq_true_eq, hh]
    rw [hfin]
    exact nil_ok (qx_ret (retRow2 (p := 8) (t := 9) (ty := 50) (by kernel_rfl) hS rfl rfl hM5 Tryz.underlying50 rfl (by rw [sz28]; rfl) ⟨_, rfl, hB, _, rfl, ⟨rfl, .inl ⟨rfl, rfl⟩⟩⟩))
  · skip
    refine reg_seq ?_
    refine sI hS (eqS1 rfl rfl hk) fun _ hS => ?_
    refine sI hS (runs_assign rfl) fun _ hS => ?_
    refine nil_ok (wp_cond_false (hS.eval rfl) (reg_seq ?_))
    refine sI hS (eqS2 rfl rfl hk) fun _ hS => ?_
    refine sI hS (runs_assign rfl) fun _ hS => ?_
    refine nil_ok (wp_cond_false (hS.eval rfl) (qx_seq (qx_seq (reg_seq ?_))))
    refine sI hS (eqS3 rfl rfl hk) fun _ hS => ?_
    refine sI hS (runs_assign rfl) fun _ hS => ?_
    refine nil_ok (wp_cond_false (hS.eval rfl) (reg_seq ?_))
    refine sI hS (eqS4 rfl rfl hk) fun _ hS => ?_
    refine sI hS (runs_assign rfl) fun _ hS => ?_
    refine nil_ok (wp_cond_true (hS.eval rfl) (qx_seq (reg_seq ?_)))
    refine sI hS (runs_assign rfl) fun _ hS => ?_
    refine nil_ok (qx_seq (qx_seq (reg_seq ?_)))
    refine sI hS (runs_fieldK fo26_0 rfl) fun _ hS => ?_
    refine sI hS (runs_load rfl pl9 (hM1.at rfl)) fun _ hS => ?_
    refine sI hS (eqS4 rfl rfl hk) fun _ hS => ?_
    refine nil_ok (wp_cond_true (hS.eval rfl) (reg_seq ?_))
    refine sI hS (runs_assign rfl) fun _ hS => ?_
    refine nil_ok (qx_seq (qx_seq (reg_seq ?_)))
    refine sI hS (runs_move rfl) fun _ hS => ?_
    by_cases a0 : at_ = 0
    · skip
      refine sI hS (runs_eql (r := true) rfl rfl (by simp [a0])) fun _ hS => ?_
      refine nil_ok (wp_cond_true (hS.eval rfl) (qx_seq (qx_seq (reg_seq ?_))))
      refine sI hS (runs_fieldK fo28_0 rfl) fun _ hS => ?_
      refine sI hS (runs_load rfl pl3 (hM3.at rfl)) fun _ hS => ?_
      refine sI hS (runs_fieldK fo26_1 rfl) fun _ hS => ?_
      refine sI hS (runs_load rfl pl3 (hM1.at rfl)) fun _ hS => ?_
      by_cases s0 : x.id = src
      · skip
        refine sI hS (runs_eql (r := true) rfl rfl (by simp [s0])) fun _ hS => ?_
        have hBw := hB.size
        refine nil_ok (wp_cond_true (hS.eval rfl) (qx_seq (reg_guard (fun w' => Below w9.heap.size w9 w') [.inl (.agg #[.int .i64 x.id, .int .i64 x.val, .bool false, .bool false, .int .i64 0]), .inl (.slice A l.length c), .inl (.int .i64 1), .inr (fun u w' => w'.ownsRow w.heap.size 61 3 u (sendTo l (allF 0 1)).length (cellsE (sendTo l (allF 0 1))))] 4 2 mixed rfl (by kernel_rfl) hS (Below.refl _ _) (fun _ h => h.drew) ?_)))
        refine hs_is rfl (fun w' hw => runs_loadRow rfl (hM7.below hw hM7.lt) Tryz.underlying50 rfl (by rw [sz28]; rfl)) ?_
        refine hs_is rfl (fun w' hw => runs_move rfl) ?_
        refine hs_is rfl (fun w' hw => runs_move rfl) ?_
        refine hs_pr rfl (fun _ _ _ h hb => owns_kept h hb) (fun w' hw hq => (runs_call (args := [.slice A l.length c, .int .i64 0, .int .i64 1]) goes73 rfl (rall_any l hsm _ 0 1 w' (hE.kept hw) (by omega) (by omega) hlw)).mono (by rintro u w5 ⟨hb, h3⟩; exact ⟨owns_mono h3 (Nat.le_trans hBw hw.size), hw.trans (hb.mono hw.size), hb⟩)) (fun sr => ?_)
        refine (fun a153 w153 hS hB153 hq => ?_)
        have hSent := (hq (3, _) List.mem_cons_self)
        clear hq
        have hB := hB.trans (hB153.mono hB.size)
        have hM1 := hM1.below hB153 hM1.lt
        have hM3 := hM3.below hB153 hM3.lt
        have hM5 := hM5.below hB153 hM5.lt
        have hM7 := hM7.below hB153 hM7.lt
        have hE := hEb.kept hB
        refine tail_none 4 (by kernel_rfl) rfl hS (runs_storeB (cs := [.int .i64 x.id, .int .i64 x.val, .bool false, .bool false, .int .i64 0]) rfl rfl hM5 rfl rfl sz28) (fun v155 w155 a155 hp hS => ⟨trivial, ?_⟩)
        have hQ155 := hM5
        obtain ⟨hM5, hU155⟩ := hp
        have hB := But.new hB hU155 (fun i e => by rw [e]; exact hLhM5) (Nat.le_refl _)
        have hM1 := hM1.but hU155 (has_ne hM1 hQ155 (by decide))
        have hM3 := hM3.but hU155 (hNhM3hM5)
        have hM7 := hM7.but hU155 ((Ne.symm hNhM5hM7))
        have hE := hEb.kept hB
        have hSent := owns_but hSent hU155 (fun i old ho e => by subst e; exact has_ne ho hQ155 (by decide) rfl)
        refine tail_op 5 (by kernel_rfl) rfl hS (by decide) (runs_assign rfl) (fun v157 w157 a157 hp hS => ⟨trivial, ?_⟩)
        obtain ⟨rfl, rfl⟩ := hp
        refine wpAnyH_done (by kernel_rfl) ?_ _
        have e0 : (at_ == 0) = true := by rw [beq_iff_eq]; exact a0
        have hfin : runL (kindL tg.data.toList) (at_ == 0) (at_ == steps - 1) (x.id == src) x.has (if x.has = true then x.inn else 0) x.val l = ((x.val, false), sendTo l (allF 0 1)) := by rw [hk, e0]; simp [runL, nearL, allF_1, -decide_eq_true_eq, s0]
        rw [hfin]
        exact qx_ret (retRow2 (p := 8) (t := 9) (ty := 50) (by kernel_rfl) hS rfl rfl hM5 Tryz.underlying50 rfl (by rw [sz28]; rfl) ⟨_, rfl, hB, _, rfl, hSent⟩)
      refine sI hS (runs_eql (r := false) rfl rfl (by simp [s0])) fun _ hS => ?_
      refine nil_ok (wp_cond_false (hS.eval rfl) (wp_skip (qx_seq (reg_seq ?_))))
      refine sI hS (runs_loadRow rfl hM7 Tryz.underlying50 rfl (by rw [sz28]; rfl)) fun _ hS => ?_
      refine seq_none hS (runs_storeB (cs := [.int .i64 x.id, .int .i64 x.val, .bool false, .bool false, .int .i64 0]) rfl rfl hM5 rfl rfl sz28) (fun v158 w158 a1 hp hS => ?_)
      have hQ158 := hM5
      obtain ⟨hM5, hU158⟩ := hp
      have hB := But.new hB hU158 (fun i e => by rw [e]; exact hLhM5) (Nat.le_refl _)
      have hM1 := hM1.but hU158 (has_ne hM1 hQ158 (by decide))
      have hM3 := hM3.but hU158 (hNhM3hM5)
      have hM7 := hM7.but hU158 ((Ne.symm hNhM5hM7))
      have hE := hEb.kept hB
      refine sI hS (runs_assign rfl) fun _ hS => ?_
      have e0 : (at_ == 0) = true := by rw [beq_iff_eq]; exact a0
      have hfin : runL (kindL tg.data.toList) (at_ == 0) (at_ == steps - 1) (x.id == src) x.has (if x.has = true then x.inn else 0) x.val l = ((x.val, false), []) := by rw [hk, e0]; simp [runL, nearL, -decide_eq_true_eq, s0]
      rw [hfin]
      exact nil_ok (qx_ret (retRow2 (p := 8) (t := 9) (ty := 50) (by kernel_rfl) hS rfl rfl hM5 Tryz.underlying50 rfl (by rw [sz28]; rfl) ⟨_, rfl, hB, _, rfl, ⟨rfl, .inl ⟨rfl, rfl⟩⟩⟩))
    refine sI hS (runs_eql (r := false) rfl rfl (by simp [a0])) fun _ hS => ?_
    refine nil_ok (wp_cond_false (hS.eval rfl) (wp_skip (qx_seq (qx_seq (reg_seq ?_)))))
    refine sI hS (runs_fieldK fo28_3 rfl) fun _ hS => ?_
    refine sI hS (runs_load rfl pl4 ((hM3.at rfl).trans (by rw [Bool.eq_false_iff.2 hh]))) fun _ hS => ?_
    refine sI hS (runs_move rfl) fun _ hS => ?_
    refine sN hS fun _ hS => ?_
    refine sN hS fun _ hS => ?_
    refine sN hS fun _ hS => ?_
    refine sN hS fun _ hS => ?_
    refine sU hS fun _ hS => ?_
    refine sU hS fun _ hS => ?_
    refine sU hS fun _ hS => ?_
    refine sU hS fun _ hS => ?_
    refine sN hS fun _ hS => ?_
    refine sI hS (runs_pick rfl rfl) fun _ hS => ?_
    refine nil_ok (wp_cond_false (hS.eval rfl) (wp_skip (qx_seq (reg_seq ?_))))
    refine sI hS (runs_loadRow rfl hM7 Tryz.underlying50 rfl (by rw [sz28]; rfl)) fun _ hS => ?_
    refine seq_none hS (runs_storeB (cs := [.int .i64 x.id, .int .i64 x.val, .bool false, .bool false, .int .i64 0]) rfl rfl hM5 rfl rfl sz28) (fun v160 w160 a1 hp hS => ?_)
    have hQ160 := hM5
    obtain ⟨hM5, hU160⟩ := hp
    have hB := But.new hB hU160 (fun i e => by rw [e]; exact hLhM5) (Nat.le_refl _)
    have hM1 := hM1.but hU160 (has_ne hM1 hQ160 (by decide))
    have hM3 := hM3.but hU160 (hNhM3hM5)
    have hM7 := hM7.but hU160 ((Ne.symm hNhM5hM7))
    have hE := hEb.kept hB
    refine sI hS (runs_assign rfl) fun _ hS => ?_
    have e0 : (at_ == 0) = false := by rw [beq_eq_false_iff_ne]; exact a0
    have hfin : runL (kindL tg.data.toList) (at_ == 0) (at_ == steps - 1) (x.id == src) x.has (if x.has = true then x.inn else 0) x.val l = ((x.val, false), []) := by rw [hk, e0]; simp [runL, nearL, -decide_eq_true_eq, hh]
    rw [hfin]
    exact nil_ok (qx_ret (retRow2 (p := 8) (t := 9) (ty := 50) (by kernel_rfl) hS rfl rfl hM5 Tryz.underlying50 rfl (by rw [sz28]; rfl) ⟨_, rfl, hB, _, rfl, ⟨rfl, .inl ⟨rfl, rfl⟩⟩⟩))
  · skip
    refine reg_seq ?_
    refine sI hS (eqS1 rfl rfl hk) fun _ hS => ?_
    refine sI hS (runs_assign rfl) fun _ hS => ?_
    refine nil_ok (wp_cond_false (hS.eval rfl) (reg_seq ?_))
    refine sI hS (eqS2 rfl rfl hk) fun _ hS => ?_
    refine sI hS (runs_assign rfl) fun _ hS => ?_
    refine nil_ok (wp_cond_false (hS.eval rfl) (qx_seq (qx_seq (reg_seq ?_))))
    refine sI hS (eqS3 rfl rfl hk) fun _ hS => ?_
    refine sI hS (runs_assign rfl) fun _ hS => ?_
    refine nil_ok (wp_cond_false (hS.eval rfl) (reg_seq ?_))
    refine sI hS (eqS4 rfl rfl hk) fun _ hS => ?_
    refine sI hS (runs_assign rfl) fun _ hS => ?_
    refine nil_ok (wp_cond_false (hS.eval rfl) (qx_seq (reg_seq ?_)))
    refine sI hS (eqS5 rfl rfl hk) fun _ hS => ?_
    refine sI hS (runs_assign rfl) fun _ hS => ?_
    refine nil_ok (wp_cond_true (hS.eval rfl) (qx_seq (qx_seq (reg_seq ?_))))
    refine sI hS (runs_move rfl) fun _ hS => ?_
    by_cases a0 : at_ = 0
    · skip
      refine sI hS (runs_eql (r := true) rfl rfl (by simp [a0])) fun _ hS => ?_
      have hBw := hB.size
      refine nil_ok (wp_cond_true (hS.eval rfl) (qx_seq (reg_guard (fun w' => Below w9.heap.size w9 w') [.inl (.agg #[.int .i64 x.id, .int .i64 x.val, .bool false, .bool false, .int .i64 0]), .inl (.slice A l.length c), .inr (fun u w' => w'.ownsRow w.heap.size 61 3 u (sendTo l (allF 1 0)).length (cellsE (sendTo l (allF 1 0))))] 3 2 mixed rfl (by kernel_rfl) hS (Below.refl _ _) (fun _ h => h.drew) ?_)))
      refine hs_is rfl (fun w' hw => runs_loadRow rfl (hM7.below hw hM7.lt) Tryz.underlying50 rfl (by rw [sz28]; rfl)) ?_
      refine hs_is rfl (fun w' hw => runs_move rfl) ?_
      refine hs_pr rfl (fun _ _ _ h hb => owns_kept h hb) (fun w' hw hq => (runs_call (args := [.slice A l.length c, .int .i64 1, .int .i64 0]) goes73 rfl (rall_any l hsm _ 1 0 w' (hE.kept hw) (by omega) (by omega) hlw)).mono (by rintro u w5 ⟨hb, h3⟩; exact ⟨owns_mono h3 (Nat.le_trans hBw hw.size), hw.trans (hb.mono hw.size), hb⟩)) (fun sr => ?_)
      refine (fun a162 w162 hS hB162 hq => ?_)
      have hSent := (hq (2, _) List.mem_cons_self)
      clear hq
      have hB := hB.trans (hB162.mono hB.size)
      have hM1 := hM1.below hB162 hM1.lt
      have hM3 := hM3.below hB162 hM3.lt
      have hM5 := hM5.below hB162 hM5.lt
      have hM7 := hM7.below hB162 hM7.lt
      have hE := hEb.kept hB
      refine tail_none 3 (by kernel_rfl) rfl hS (runs_storeB (cs := [.int .i64 x.id, .int .i64 x.val, .bool false, .bool false, .int .i64 0]) rfl rfl hM5 rfl rfl sz28) (fun v164 w164 a164 hp hS => ⟨trivial, ?_⟩)
      have hQ164 := hM5
      obtain ⟨hM5, hU164⟩ := hp
      have hB := But.new hB hU164 (fun i e => by rw [e]; exact hLhM5) (Nat.le_refl _)
      have hM1 := hM1.but hU164 (has_ne hM1 hQ164 (by decide))
      have hM3 := hM3.but hU164 (hNhM3hM5)
      have hM7 := hM7.but hU164 ((Ne.symm hNhM5hM7))
      have hE := hEb.kept hB
      have hSent := owns_but hSent hU164 (fun i old ho e => by subst e; exact has_ne ho hQ164 (by decide) rfl)
      refine tail_op 4 (by kernel_rfl) rfl hS (by decide) (runs_assign rfl) (fun v166 w166 a166 hp hS => ⟨trivial, ?_⟩)
      obtain ⟨rfl, rfl⟩ := hp
      refine wpAnyH_done (by kernel_rfl) ?_ _
      have e0 : (at_ == 0) = true := by rw [beq_iff_eq]; exact a0
      have hfin : runL (kindL tg.data.toList) (at_ == 0) (at_ == steps - 1) (x.id == src) x.has (if x.has = true then x.inn else 0) x.val l = ((x.val, false), sendTo l (allF 1 0)) := by rw [hk, e0]; simp [runL, degL, allF_0, -decide_eq_true_eq]
      rw [hfin]
      exact qx_ret (retRow2 (p := 8) (t := 9) (ty := 50) (by kernel_rfl) hS rfl rfl hM5 Tryz.underlying50 rfl (by rw [sz28]; rfl) ⟨_, rfl, hB, _, rfl, hSent⟩)
    refine sI hS (runs_eql (r := false) rfl rfl (by simp [a0])) fun _ hS => ?_
    refine nil_ok (wp_cond_false (hS.eval rfl) (wp_skip (qx_seq (qx_seq (reg_seq ?_)))))
    refine sI hS (runs_fieldK fo28_3 rfl) fun _ hS => ?_
    refine sI hS (runs_load rfl pl4 ((hM3.at rfl).trans (by rw [Bool.eq_false_iff.2 hh]))) fun _ hS => ?_
    refine nil_ok (wp_cond_false (hS.eval rfl) (wp_skip (qx_seq (reg_seq ?_))))
    refine sI hS (runs_loadRow rfl hM7 Tryz.underlying50 rfl (by rw [sz28]; rfl)) fun _ hS => ?_
    refine seq_none hS (runs_storeB (cs := [.int .i64 x.id, .int .i64 x.val, .bool false, .bool false, .int .i64 0]) rfl rfl hM5 rfl rfl sz28) (fun v167 w167 a1 hp hS => ?_)
    have hQ167 := hM5
    obtain ⟨hM5, hU167⟩ := hp
    have hB := But.new hB hU167 (fun i e => by rw [e]; exact hLhM5) (Nat.le_refl _)
    have hM1 := hM1.but hU167 (has_ne hM1 hQ167 (by decide))
    have hM3 := hM3.but hU167 (hNhM3hM5)
    have hM7 := hM7.but hU167 ((Ne.symm hNhM5hM7))
    have hE := hEb.kept hB
    refine sI hS (runs_assign rfl) fun _ hS => ?_
    have e0 : (at_ == 0) = false := by rw [beq_eq_false_iff_ne]; exact a0
    have hfin : runL (kindL tg.data.toList) (at_ == 0) (at_ == steps - 1) (x.id == src) x.has (if x.has = true then x.inn else 0) x.val l = ((x.val, false), []) := by rw [hk, e0]; simp [runL, degL, -decide_eq_true_eq, hh]
    rw [hfin]
    exact nil_ok (qx_ret (retRow2 (p := 8) (t := 9) (ty := 50) (by kernel_rfl) hS rfl rfl hM5 Tryz.underlying50 rfl (by rw [sz28]; rfl) ⟨_, rfl, hB, _, rfl, ⟨rfl, .inl ⟨rfl, rfl⟩⟩⟩))
  · skip
    refine reg_seq ?_
    refine sI hS (eqS1 rfl rfl hk) fun _ hS => ?_
    refine sI hS (runs_assign rfl) fun _ hS => ?_
    refine nil_ok (wp_cond_false (hS.eval rfl) (reg_seq ?_))
    refine sI hS (eqS2 rfl rfl hk) fun _ hS => ?_
    refine sI hS (runs_assign rfl) fun _ hS => ?_
    refine nil_ok (wp_cond_false (hS.eval rfl) (qx_seq (qx_seq (reg_seq ?_))))
    refine sI hS (eqS3 rfl rfl hk) fun _ hS => ?_
    refine sI hS (runs_assign rfl) fun _ hS => ?_
    refine nil_ok (wp_cond_false (hS.eval rfl) (reg_seq ?_))
    refine sI hS (eqS4 rfl rfl hk) fun _ hS => ?_
    refine sI hS (runs_assign rfl) fun _ hS => ?_
    refine nil_ok (wp_cond_false (hS.eval rfl) (qx_seq (reg_seq ?_)))
    refine sI hS (eqS5 rfl rfl hk) fun _ hS => ?_
    refine sI hS (runs_assign rfl) fun _ hS => ?_
    refine nil_ok (wp_cond_false (hS.eval rfl) (qx_seq (reg_seq ?_)))
    refine sI hS (eqS7 rfl rfl hk) fun _ hS => ?_
    refine sI hS (runs_assign rfl) fun _ hS => ?_
    refine nil_ok (wp_cond_false (hS.eval rfl) (wp_skip (qx_seq (qx_seq (reg_seq ?_)))))
    refine sI hS (runs_move rfl) fun _ hS => ?_
    by_cases a1 : at_ > 0
    · skip
      refine sI hS (gtrT rfl rfl (by omega)) fun _ hS => ?_
      refine nil_ok (wp_cond_true (hS.eval rfl) (reg_seq ?_))
      refine sI hS (runs_move rfl) fun _ hS => ?_
      have hfb := ediv_bound (a := 0 * 85) (b := 100) (M := 100000000000000000) (by omega) (by omega) (by omega) (by omega)
      refine sI hS (runs_mul rfl rfl ((congrArg _ (Int.mul_comm _ _)).trans (wrap64 (by omega) (by omega)))) fun _ hS => ?_
      refine sI hS (runs_call (args := [.int .i64 (0 * 85), .int .i64 100]) goes74 rfl (floor_any (0 * 85) 100 (by omega) (by omega) (by omega) (by omega) w9)) fun _ hS => ?_
      refine sI hS (runs_add rfl rfl (wrap64 (by omega) (by omega))) fun _ hS => ?_
      refine sI hS (runs_fieldK fo28_1 rfl) fun _ hS => ?_
      refine seq_none hS (runs_storeC rfl rfl rfl s1_2 hM7 rfl) (fun v169 w169 a1 hp hS => ?_)
      have hQ169 := hM7
      obtain ⟨hM7, hU169⟩ := hp
      have hB := But.new hB hU169 (fun i e => by rw [e]; exact hLhM7) (Nat.le_refl _)
      have hM1 := hM1.but hU169 (has_ne hM1 hQ169 (by decide))
      have hM3 := hM3.but hU169 (hNhM3hM7)
      have hM5 := hM5.but hU169 (hNhM5hM7)
      have hE := hEb.kept hB
      refine nil_ok (qx_seq (qx_seq (reg_seq ?_)))
      refine sI hS (runs_move rfl) fun _ hS => ?_
      refine sI hS (runs_fieldK fo26_2 rfl) fun _ hS => ?_
      refine sI hS (runs_load rfl pl3 (hM1.at rfl)) fun _ hS => ?_
      refine sI hS (runs_sub rfl rfl (wrap64 (by omega) (by omega))) fun _ hS => ?_
      by_cases la : at_ = steps - 1
      · skip
        refine sI hS (runs_eql (r := true) rfl rfl (by simp [la])) fun _ hS => ?_
        refine nil_ok (wp_cond_true (hS.eval rfl) (qx_seq (reg_seq ?_)))
        refine sI hS (runs_loadRow rfl hM7 Tryz.underlying50 rfl (by rw [sz28]; rfl)) fun _ hS => ?_
        refine seq_none hS (runs_storeB (cs := [.int .i64 x.id, .int .i64 (9830 + 0 * 85 / 100), .bool false, .bool false, .int .i64 0]) rfl rfl hM5 rfl rfl sz28) (fun v171 w171 a1 hp hS => ?_)
        have hQ171 := hM5
        obtain ⟨hM5, hU171⟩ := hp
        have hB := But.new hB hU171 (fun i e => by rw [e]; exact hLhM5) (Nat.le_refl _)
        have hM1 := hM1.but hU171 (has_ne hM1 hQ171 (by decide))
        have hM3 := hM3.but hU171 (hNhM3hM5)
        have hM7 := hM7.but hU171 ((Ne.symm hNhM5hM7))
        have hE := hEb.kept hB
        refine sI hS (runs_assign rfl) fun _ hS => ?_
        have a0 : ¬ at_ = 0 := by omega
        have e0 : (at_ == 0) = false := by rw [beq_eq_false_iff_ne]; exact a0
        have e2 : (at_ == steps - 1) = true := by rw [beq_iff_eq]; exact la
        have hfin : runL (kindL tg.data.toList) (at_ == 0) (at_ == steps - 1) (x.id == src) x.has (if x.has = true then x.inn else 0) x.val l = (((9830 + 0 * 85 / 100), false), []) := by rw [hk, e0, e2]; simp [runL, rankL, rankV, -decide_eq_true_eq, hh]
        rw [hfin]
        exact nil_ok (qx_ret (retRow2 (p := 8) (t := 9) (ty := 50) (by kernel_rfl) hS rfl rfl hM5 Tryz.underlying50 rfl (by rw [sz28]; rfl) ⟨_, rfl, hB, _, rfl, ⟨rfl, .inl ⟨rfl, rfl⟩⟩⟩))
      refine sI hS (runs_eql (r := false) rfl rfl (by simp [la])) fun _ hS => ?_
      refine nil_ok (wp_cond_false (hS.eval rfl) (wp_skip (qx_seq (reg_seq ?_))))
      refine sI hS (runs_fieldK fo28_2 rfl) fun _ hS => ?_
      refine seq_none hS (runs_storeC rfl rfl rfl s1_4 hM7 rfl) (fun v173 w173 a1 hp hS => ?_)
      have hQ173 := hM7
      obtain ⟨hM7, hU173⟩ := hp
      have hB := But.new hB hU173 (fun i e => by rw [e]; exact hLhM7) (Nat.le_refl _)
      have hM1 := hM1.but hU173 (has_ne hM1 hQ173 (by decide))
      have hM3 := hM3.but hU173 (hNhM3hM7)
      have hM5 := hM5.but hU173 (hNhM5hM7)
      have hE := hEb.kept hB
      refine nil_ok (qx_seq (qx_seq (reg_seq ?_)))
      refine sI hS (runs_move rfl) fun _ hS => ?_
      refine sI hS (runs_len rfl und22) fun _ hS => ?_
      by_cases l0 : l.length = 0
      · skip
        refine sI hS (runs_eql (r := true) rfl rfl (by simp [l0])) fun _ hS => ?_
        refine nil_ok (wp_cond_true (hS.eval rfl) (qx_seq (reg_seq ?_)))
        refine sI hS (runs_loadRow rfl hM7 Tryz.underlying50 rfl (by rw [sz28]; rfl)) fun _ hS => ?_
        refine seq_none hS (runs_storeB (cs := [.int .i64 x.id, .int .i64 (9830 + 0 * 85 / 100), .bool true, .bool false, .int .i64 0]) rfl rfl hM5 rfl rfl sz28) (fun v175 w175 a1 hp hS => ?_)
        have hQ175 := hM5
        obtain ⟨hM5, hU175⟩ := hp
        have hB := But.new hB hU175 (fun i e => by rw [e]; exact hLhM5) (Nat.le_refl _)
        have hM1 := hM1.but hU175 (has_ne hM1 hQ175 (by decide))
        have hM3 := hM3.but hU175 (hNhM3hM5)
        have hM7 := hM7.but hU175 ((Ne.symm hNhM5hM7))
        have hE := hEb.kept hB
        refine sI hS (runs_assign rfl) fun _ hS => ?_
        have a0 : ¬ at_ = 0 := by omega
        have e0 : (at_ == 0) = false := by rw [beq_eq_false_iff_ne]; exact a0
        have e2 : (at_ == steps - 1) = false := by rw [beq_eq_false_iff_ne]; exact la
        have hl0 : decide (0 < l.length) = false := by rw [decide_eq_false_iff_not]; omega
        have hfin : runL (kindL tg.data.toList) (at_ == 0) (at_ == steps - 1) (x.id == src) x.has (if x.has = true then x.inn else 0) x.val l = (((9830 + 0 * 85 / 100), true), []) := by rw [hk, e0, e2]; simp [runL, rankL, rankV, -decide_eq_true_eq, hh, hl0]
        rw [hfin]
        exact nil_ok (qx_ret (retRow2 (p := 8) (t := 9) (ty := 50) (by kernel_rfl) hS rfl rfl hM5 Tryz.underlying50 rfl (by rw [sz28]; rfl) ⟨_, rfl, hB, _, rfl, ⟨rfl, .inl ⟨rfl, rfl⟩⟩⟩))
      refine sI hS (runs_eql (r := false) rfl rfl (by rw [beq_eq_false_iff_ne]; omega)) fun _ hS => ?_
      refine nil_ok (wp_cond_false (hS.eval rfl) (wp_skip (qx_seq (?_))))
      have hd47 := ediv_bound (a := (9830 + 0 * 85 / 100)) (b := ((l.length : Nat) : Int)) (M := 1200000000000000) (by omega) (by omega) (by omega) (by omega)
      have hBw := hB.size
      refine reg_guard (fun w' => Below w173.heap.size w173 w') [.inl (.agg #[.int .i64 x.id, .int .i64 (9830 + 0 * 85 / 100), .bool true, .bool false, .int .i64 0]), .inl (.slice A l.length c), .inl (.pointer (some ⟨w5.heap.size, 0 + 1, none⟩)), .inl (.int .i64 (9830 + 0 * 85 / 100)), .inl (.slice A l.length c), .inl (.int .i64 ((l.length : Nat) : Int)), .inl (.int .i64 ((9830 + 0 * 85 / 100) / ((l.length : Nat) : Int))), .inr (fun u w' => w'.ownsRow w.heap.size 61 3 u (sendTo l (allF ((9830 + 0 * 85 / 100) / ((l.length : Nat) : Int)) 0)).length (cellsE (sendTo l (allF ((9830 + 0 * 85 / 100) / ((l.length : Nat) : Int)) 0))))] 8 2 mixed rfl (by kernel_rfl) hS (Below.refl _ _) (fun _ h => h.drew) ?_
      refine hs_is rfl (fun w' hw => runs_loadRow rfl (hM7.below hw hM7.lt) Tryz.underlying50 rfl (by rw [sz28]; rfl)) ?_
      refine hs_is rfl (fun w' hw => runs_move rfl) ?_
      refine hs_is rfl (fun w' hw => runs_fieldK fo28_1 rfl) ?_
      refine hs_is rfl (fun w' hw => runs_load rfl pl2 ((hM7.below hw hM7.lt).at rfl)) ?_
      refine hs_is rfl (fun w' hw => runs_move rfl) ?_
      refine hs_is rfl (fun w' hw => runs_len rfl und22) ?_
      refine hs_is rfl (fun w' hw => runs_call (args := [.int .i64 (9830 + 0 * 85 / 100), .int .i64 ((l.length : Nat) : Int)]) goes74 rfl (floor_any (9830 + 0 * 85 / 100) ((l.length : Nat) : Int) (by omega) (by omega) (by omega) (by omega) w')) ?_
      refine hs_pr rfl (fun _ _ _ h hb => owns_kept h hb) (fun w' hw hq => (runs_call (args := [.slice A l.length c, .int .i64 ((9830 + 0 * 85 / 100) / ((l.length : Nat) : Int)), .int .i64 0]) goes73 rfl (rall_any l hsm _ ((9830 + 0 * 85 / 100) / ((l.length : Nat) : Int)) 0 w' (hE.kept hw) (by omega) (by omega) hlw)).mono (by rintro u w5 ⟨hb, h3⟩; exact ⟨owns_mono h3 (Nat.le_trans hBw hw.size), hw.trans (hb.mono hw.size), hb⟩)) (fun sr => ?_)
      refine (fun a177 w177 hS hB177 hq => ?_)
      have hSent := (hq (7, _) List.mem_cons_self)
      clear hq
      have hB := hB.trans (hB177.mono hB.size)
      have hM1 := hM1.below hB177 hM1.lt
      have hM3 := hM3.below hB177 hM3.lt
      have hM5 := hM5.below hB177 hM5.lt
      have hM7 := hM7.below hB177 hM7.lt
      have hE := hEb.kept hB
      refine tail_none 8 (by kernel_rfl) rfl hS (runs_storeB (cs := [.int .i64 x.id, .int .i64 (9830 + 0 * 85 / 100), .bool true, .bool false, .int .i64 0]) rfl rfl hM5 rfl rfl sz28) (fun v179 w179 a179 hp hS => ⟨trivial, ?_⟩)
      have hQ179 := hM5
      obtain ⟨hM5, hU179⟩ := hp
      have hB := But.new hB hU179 (fun i e => by rw [e]; exact hLhM5) (Nat.le_refl _)
      have hM1 := hM1.but hU179 (has_ne hM1 hQ179 (by decide))
      have hM3 := hM3.but hU179 (hNhM3hM5)
      have hM7 := hM7.but hU179 ((Ne.symm hNhM5hM7))
      have hE := hEb.kept hB
      have hSent := owns_but hSent hU179 (fun i old ho e => by subst e; exact has_ne ho hQ179 (by decide) rfl)
      refine tail_op 9 (by kernel_rfl) rfl hS (by decide) (runs_assign rfl) (fun v181 w181 a181 hp hS => ⟨trivial, ?_⟩)
      obtain ⟨rfl, rfl⟩ := hp
      refine wpAnyH_done (by kernel_rfl) ?_ _
      have a0 : ¬ at_ = 0 := by omega
      have e0 : (at_ == 0) = false := by rw [beq_eq_false_iff_ne]; exact a0
      have e2 : (at_ == steps - 1) = false := by rw [beq_eq_false_iff_ne]; exact la
      have hl0 : decide (0 < l.length) = true := by rw [decide_eq_true_eq]; omega
      have hfin : runL (kindL tg.data.toList) (at_ == 0) (at_ == steps - 1) (x.id == src) x.has (if x.has = true then x.inn else 0) x.val l = (((9830 + 0 * 85 / 100), true), sendTo l (allF ((9830 + 0 * 85 / 100) / ((l.length : Nat) : Int)) 0)) := by rw [hk, e0, e2]; simp [runL, rankL, rankV, allF_0, -decide_eq_true_eq, hh, hl0]
      rw [hfin]
      exact qx_ret (retRow2 (p := 8) (t := 9) (ty := 50) (by kernel_rfl) hS rfl rfl hM5 Tryz.underlying50 rfl (by rw [sz28]; rfl) ⟨_, rfl, hB, _, rfl, hSent⟩)
    refine sI hS (gtrF rfl rfl (by omega)) fun _ hS => ?_
    refine nil_ok (wp_cond_false (hS.eval rfl) (wp_skip (qx_seq (qx_seq (reg_seq ?_)))))
    refine sI hS (runs_move rfl) fun _ hS => ?_
    refine sI hS (runs_fieldK fo26_2 rfl) fun _ hS => ?_
    refine sI hS (runs_load rfl pl3 (hM1.at rfl)) fun _ hS => ?_
    refine sI hS (runs_sub rfl rfl (wrap64 (by omega) (by omega))) fun _ hS => ?_
    by_cases la : at_ = steps - 1
    · skip
      refine sI hS (runs_eql (r := true) rfl rfl (by simp [la])) fun _ hS => ?_
      refine nil_ok (wp_cond_true (hS.eval rfl) (qx_seq (reg_seq ?_)))
      refine sI hS (runs_loadRow rfl hM7 Tryz.underlying50 rfl (by rw [sz28]; rfl)) fun _ hS => ?_
      refine seq_none hS (runs_storeB (cs := [.int .i64 x.id, .int .i64 x.val, .bool false, .bool false, .int .i64 0]) rfl rfl hM5 rfl rfl sz28) (fun v182 w182 a1 hp hS => ?_)
      obtain ⟨hM5, hU182⟩ := hp
      have hB := But.new hB hU182 (fun i e => by rw [e]; exact hLhM5) (Nat.le_refl _)
      have hM3 := hM3.but hU182 (hNhM3hM5)
      have hM7 := hM7.but hU182 ((Ne.symm hNhM5hM7))
      have hE := hEb.kept hB
      refine sI hS (runs_assign rfl) fun _ hS => ?_
      have a0 : at_ = 0 := by omega
      have e0 : (at_ == 0) = true := by rw [beq_iff_eq]; exact a0
      have e2 : (at_ == steps - 1) = true := by rw [beq_iff_eq]; exact la
      have hfin : runL (kindL tg.data.toList) (at_ == 0) (at_ == steps - 1) (x.id == src) x.has (if x.has = true then x.inn else 0) x.val l = ((x.val, false), []) := by rw [hk, e0, e2]; simp [runL, rankL, rankV, -decide_eq_true_eq]
      rw [hfin]
      exact nil_ok (qx_ret (retRow2 (p := 8) (t := 9) (ty := 50) (by kernel_rfl) hS rfl rfl hM5 Tryz.underlying50 rfl (by rw [sz28]; rfl) ⟨_, rfl, hB, _, rfl, ⟨rfl, .inl ⟨rfl, rfl⟩⟩⟩))
    refine sI hS (runs_eql (r := false) rfl rfl (by simp [la])) fun _ hS => ?_
    refine nil_ok (wp_cond_false (hS.eval rfl) (wp_skip (qx_seq (reg_seq ?_))))
    refine sI hS (runs_fieldK fo28_2 rfl) fun _ hS => ?_
    refine seq_none hS (runs_storeC rfl rfl rfl s1_4 hM7 rfl) (fun v184 w184 a1 hp hS => ?_)
    obtain ⟨hM7, hU184⟩ := hp
    have hB := But.new hB hU184 (fun i e => by rw [e]; exact hLhM7) (Nat.le_refl _)
    have hM3 := hM3.but hU184 (hNhM3hM7)
    have hM5 := hM5.but hU184 (hNhM5hM7)
    have hE := hEb.kept hB
    refine nil_ok (qx_seq (qx_seq (reg_seq ?_)))
    refine sI hS (runs_move rfl) fun _ hS => ?_
    refine sI hS (runs_len rfl und22) fun _ hS => ?_
    by_cases l0 : l.length = 0
    · skip
      refine sI hS (runs_eql (r := true) rfl rfl (by simp [l0])) fun _ hS => ?_
      refine nil_ok (wp_cond_true (hS.eval rfl) (qx_seq (reg_seq ?_)))
      refine sI hS (runs_loadRow rfl hM7 Tryz.underlying50 rfl (by rw [sz28]; rfl)) fun _ hS => ?_
      refine seq_none hS (runs_storeB (cs := [.int .i64 x.id, .int .i64 x.val, .bool true, .bool false, .int .i64 0]) rfl rfl hM5 rfl rfl sz28) (fun v186 w186 a1 hp hS => ?_)
      obtain ⟨hM5, hU186⟩ := hp
      have hB := But.new hB hU186 (fun i e => by rw [e]; exact hLhM5) (Nat.le_refl _)
      have hM3 := hM3.but hU186 (hNhM3hM5)
      have hM7 := hM7.but hU186 ((Ne.symm hNhM5hM7))
      have hE := hEb.kept hB
      refine sI hS (runs_assign rfl) fun _ hS => ?_
      have a0 : at_ = 0 := by omega
      have e0 : (at_ == 0) = true := by rw [beq_iff_eq]; exact a0
      have e2 : (at_ == steps - 1) = false := by rw [beq_eq_false_iff_ne]; exact la
      have hl0 : decide (0 < l.length) = false := by rw [decide_eq_false_iff_not]; omega
      have hfin : runL (kindL tg.data.toList) (at_ == 0) (at_ == steps - 1) (x.id == src) x.has (if x.has = true then x.inn else 0) x.val l = ((x.val, true), []) := by rw [hk, e0, e2]; simp [runL, rankL, rankV, -decide_eq_true_eq, hl0]
      rw [hfin]
      exact nil_ok (qx_ret (retRow2 (p := 8) (t := 9) (ty := 50) (by kernel_rfl) hS rfl rfl hM5 Tryz.underlying50 rfl (by rw [sz28]; rfl) ⟨_, rfl, hB, _, rfl, ⟨rfl, .inl ⟨rfl, rfl⟩⟩⟩))
    refine sI hS (runs_eql (r := false) rfl rfl (by rw [beq_eq_false_iff_ne]; omega)) fun _ hS => ?_
    refine nil_ok (wp_cond_false (hS.eval rfl) (wp_skip (qx_seq (?_))))
    have hd47 := ediv_bound (a := x.val) (b := ((l.length : Nat) : Int)) (M := 1200000000000000) (by omega) (by omega) (by omega) (by omega)
    have hBw := hB.size
    refine reg_guard (fun w' => Below w184.heap.size w184 w') [.inl (.agg #[.int .i64 x.id, .int .i64 x.val, .bool true, .bool false, .int .i64 0]), .inl (.slice A l.length c), .inl (.pointer (some ⟨w5.heap.size, 0 + 1, none⟩)), .inl (.int .i64 x.val), .inl (.slice A l.length c), .inl (.int .i64 ((l.length : Nat) : Int)), .inl (.int .i64 (x.val / ((l.length : Nat) : Int))), .inr (fun u w' => w'.ownsRow w.heap.size 61 3 u (sendTo l (allF (x.val / ((l.length : Nat) : Int)) 0)).length (cellsE (sendTo l (allF (x.val / ((l.length : Nat) : Int)) 0))))] 8 2 mixed rfl (by kernel_rfl) hS (Below.refl _ _) (fun _ h => h.drew) ?_
    refine hs_is rfl (fun w' hw => runs_loadRow rfl (hM7.below hw hM7.lt) Tryz.underlying50 rfl (by rw [sz28]; rfl)) ?_
    refine hs_is rfl (fun w' hw => runs_move rfl) ?_
    refine hs_is rfl (fun w' hw => runs_fieldK fo28_1 rfl) ?_
    refine hs_is rfl (fun w' hw => runs_load rfl pl2 ((hM7.below hw hM7.lt).at rfl)) ?_
    refine hs_is rfl (fun w' hw => runs_move rfl) ?_
    refine hs_is rfl (fun w' hw => runs_len rfl und22) ?_
    refine hs_is rfl (fun w' hw => runs_call (args := [.int .i64 x.val, .int .i64 ((l.length : Nat) : Int)]) goes74 rfl (floor_any x.val ((l.length : Nat) : Int) (by omega) (by omega) (by omega) (by omega) w')) ?_
    refine hs_pr rfl (fun _ _ _ h hb => owns_kept h hb) (fun w' hw hq => (runs_call (args := [.slice A l.length c, .int .i64 (x.val / ((l.length : Nat) : Int)), .int .i64 0]) goes73 rfl (rall_any l hsm _ (x.val / ((l.length : Nat) : Int)) 0 w' (hE.kept hw) (by omega) (by omega) hlw)).mono (by rintro u w5 ⟨hb, h3⟩; exact ⟨owns_mono h3 (Nat.le_trans hBw hw.size), hw.trans (hb.mono hw.size), hb⟩)) (fun sr => ?_)
    refine (fun a188 w188 hS hB188 hq => ?_)
    have hSent := (hq (7, _) List.mem_cons_self)
    clear hq
    have hB := hB.trans (hB188.mono hB.size)
    have hM3 := hM3.below hB188 hM3.lt
    have hM5 := hM5.below hB188 hM5.lt
    have hM7 := hM7.below hB188 hM7.lt
    have hE := hEb.kept hB
    refine tail_none 8 (by kernel_rfl) rfl hS (runs_storeB (cs := [.int .i64 x.id, .int .i64 x.val, .bool true, .bool false, .int .i64 0]) rfl rfl hM5 rfl rfl sz28) (fun v190 w190 a190 hp hS => ⟨trivial, ?_⟩)
    have hQ190 := hM5
    obtain ⟨hM5, hU190⟩ := hp
    have hB := But.new hB hU190 (fun i e => by rw [e]; exact hLhM5) (Nat.le_refl _)
    have hM3 := hM3.but hU190 (hNhM3hM5)
    have hM7 := hM7.but hU190 ((Ne.symm hNhM5hM7))
    have hE := hEb.kept hB
    have hSent := owns_but hSent hU190 (fun i old ho e => by subst e; exact has_ne ho hQ190 (by decide) rfl)
    refine tail_op 9 (by kernel_rfl) rfl hS (by decide) (runs_assign rfl) (fun v192 w192 a192 hp hS => ⟨trivial, ?_⟩)
    obtain ⟨rfl, rfl⟩ := hp
    refine wpAnyH_done (by kernel_rfl) ?_ _
    have a0 : at_ = 0 := by omega
    have e0 : (at_ == 0) = true := by rw [beq_iff_eq]; exact a0
    have e2 : (at_ == steps - 1) = false := by rw [beq_eq_false_iff_ne]; exact la
    have hl0 : decide (0 < l.length) = true := by rw [decide_eq_true_eq]; omega
    have hfin : runL (kindL tg.data.toList) (at_ == 0) (at_ == steps - 1) (x.id == src) x.has (if x.has = true then x.inn else 0) x.val l = ((x.val, true), sendTo l (allF (x.val / ((l.length : Nat) : Int)) 0)) := by rw [hk, e0, e2]; simp [runL, rankL, rankV, allF_0, -decide_eq_true_eq, hl0]
    rw [hfin]
    exact qx_ret (retRow2 (p := 8) (t := 9) (ty := 50) (by kernel_rfl) hS rfl rfl hM5 Tryz.underlying50 rfl (by rw [sz28]; rfl) ⟨_, rfl, hB, _, rfl, hSent⟩)
  refine reg_seq ?_
  refine sI hS (eqS1 rfl rfl hk) fun _ hS => ?_
  refine sI hS (runs_assign rfl) fun _ hS => ?_
  refine nil_ok (wp_cond_false (hS.eval rfl) (reg_seq ?_))
  refine sI hS (eqS2 rfl rfl hk) fun _ hS => ?_
  refine sI hS (runs_assign rfl) fun _ hS => ?_
  refine nil_ok (wp_cond_false (hS.eval rfl) (qx_seq (qx_seq (reg_seq ?_))))
  refine sI hS (eqS3 rfl rfl hk) fun _ hS => ?_
  refine sI hS (runs_assign rfl) fun _ hS => ?_
  refine nil_ok (wp_cond_false (hS.eval rfl) (reg_seq ?_))
  refine sI hS (eqS4 rfl rfl hk) fun _ hS => ?_
  refine sI hS (runs_assign rfl) fun _ hS => ?_
  refine nil_ok (wp_cond_false (hS.eval rfl) (qx_seq (reg_seq ?_)))
  refine sI hS (eqS5 rfl rfl hk) fun _ hS => ?_
  refine sI hS (runs_assign rfl) fun _ hS => ?_
  refine nil_ok (wp_cond_false (hS.eval rfl) (qx_seq (reg_seq ?_)))
  refine sI hS (eqS7 rfl rfl hk) fun _ hS => ?_
  refine sI hS (runs_assign rfl) fun _ hS => ?_
  refine nil_ok (wp_cond_true (hS.eval rfl) (qx_seq (qx_seq (reg_seq ?_))))
  refine sI hS (runs_move rfl) fun _ hS => ?_
  by_cases a0 : at_ = 0
  · skip
    refine sI hS (runs_eql (r := true) rfl rfl (by simp [a0])) fun _ hS => ?_
    have hBw := hB.size
    refine nil_ok (wp_cond_true (hS.eval rfl) (qx_seq (reg_guard (fun w' => Below w9.heap.size w9 w') [.inl (.agg #[.int .i64 x.id, .int .i64 x.val, .bool false, .bool false, .int .i64 0]), .inl (.slice A l.length c), .inr (fun u w' => w'.ownsRow w.heap.size 61 3 u (sendTo l (allF 1 0)).length (cellsE (sendTo l (allF 1 0))))] 3 2 mixed rfl (by kernel_rfl) hS (Below.refl _ _) (fun _ h => h.drew) ?_)))
    refine hs_is rfl (fun w' hw => runs_loadRow rfl (hM7.below hw hM7.lt) Tryz.underlying50 rfl (by rw [sz28]; rfl)) ?_
    refine hs_is rfl (fun w' hw => runs_move rfl) ?_
    refine hs_pr rfl (fun _ _ _ h hb => owns_kept h hb) (fun w' hw hq => (runs_call (args := [.slice A l.length c, .int .i64 1, .int .i64 0]) goes73 rfl (rall_any l hsm _ 1 0 w' (hE.kept hw) (by omega) (by omega) hlw)).mono (by rintro u w5 ⟨hb, h3⟩; exact ⟨owns_mono h3 (Nat.le_trans hBw hw.size), hw.trans (hb.mono hw.size), hb⟩)) (fun sr => ?_)
    refine (fun a193 w193 hS hB193 hq => ?_)
    have hSent := (hq (2, _) List.mem_cons_self)
    clear hq
    have hB := hB.trans (hB193.mono hB.size)
    have hM3 := hM3.below hB193 hM3.lt
    have hM5 := hM5.below hB193 hM5.lt
    have hM7 := hM7.below hB193 hM7.lt
    refine tail_none 3 (by kernel_rfl) rfl hS (runs_storeB (cs := [.int .i64 x.id, .int .i64 x.val, .bool false, .bool false, .int .i64 0]) rfl rfl hM5 rfl rfl sz28) (fun v195 w195 a195 hp hS => ⟨trivial, ?_⟩)
    have hQ195 := hM5
    obtain ⟨hM5, hU195⟩ := hp
    have hB := But.new hB hU195 (fun i e => by rw [e]; exact hLhM5) (Nat.le_refl _)
    have hM3 := hM3.but hU195 (hNhM3hM5)
    have hM7 := hM7.but hU195 ((Ne.symm hNhM5hM7))
    have hSent := owns_but hSent hU195 (fun i old ho e => by subst e; exact has_ne ho hQ195 (by decide) rfl)
    refine tail_op 4 (by kernel_rfl) rfl hS (by decide) (runs_assign rfl) (fun v197 w197 a197 hp hS => ⟨trivial, ?_⟩)
    obtain ⟨rfl, rfl⟩ := hp
    refine wpAnyH_done (by kernel_rfl) ?_ _
    have e0 : (at_ == 0) = true := by rw [beq_iff_eq]; exact a0
    have hfin : runL (kindL tg.data.toList) (at_ == 0) (at_ == steps - 1) (x.id == src) x.has (if x.has = true then x.inn else 0) x.val l = ((x.val, false), sendTo l (allF 1 0)) := by rw [hk, e0]; simp [runL, walkL, allF_0, -decide_eq_true_eq]
    rw [hfin]
    exact qx_ret (retRow2 (p := 8) (t := 9) (ty := 50) (by kernel_rfl) hS rfl rfl hM5 Tryz.underlying50 rfl (by rw [sz28]; rfl) ⟨_, rfl, hB, _, rfl, hSent⟩)
  refine sI hS (runs_eql (r := false) rfl rfl (by simp [a0])) fun _ hS => ?_
  refine nil_ok (wp_cond_false (hS.eval rfl) (wp_skip (qx_seq (qx_seq (reg_seq ?_)))))
  refine sI hS (runs_fieldK fo28_3 rfl) fun _ hS => ?_
  refine sI hS (runs_load rfl pl4 ((hM3.at rfl).trans (by rw [Bool.eq_false_iff.2 hh]))) fun _ hS => ?_
  refine sI hS (runs_not (b := false) rfl) fun _ hS => ?_
  refine nil_ok (wp_cond_true (hS.eval rfl) (qx_seq (reg_seq ?_)))
  refine sI hS (runs_loadRow rfl hM7 Tryz.underlying50 rfl (by rw [sz28]; rfl)) fun _ hS => ?_
  refine seq_none hS (runs_storeB (cs := [.int .i64 x.id, .int .i64 x.val, .bool false, .bool false, .int .i64 0]) rfl rfl hM5 rfl rfl sz28) (fun v198 w198 a1 hp hS => ?_)
  obtain ⟨hM5, hU198⟩ := hp
  have hB := But.new hB hU198 (fun i e => by rw [e]; exact hLhM5) (Nat.le_refl _)
  refine sI hS (runs_assign rfl) fun _ hS => ?_
  have e0 : (at_ == 0) = false := by rw [beq_eq_false_iff_ne]; exact a0
  have hfin : runL (kindL tg.data.toList) (at_ == 0) (at_ == steps - 1) (x.id == src) x.has (if x.has = true then x.inn else 0) x.val l = ((x.val, false), []) := by rw [hk, e0]; simp [runL, walkL, -decide_eq_true_eq, hh]
  rw [hfin]
  exact nil_ok (qx_ret (retRow2 (p := 8) (t := 9) (ty := 50) (by kernel_rfl) hS rfl rfl hM5 Tryz.underlying50 rfl (by rw [sz28]; rfl) ⟨_, rfl, hB, _, rfl, ⟨rfl, .inl ⟨rfl, rfl⟩⟩⟩))
end Go.Proofs.YtapcpmalgdhakaaGreat
/- The document's Step. Conditions: none of our own. -/
namespace Go.Proofs.YtapcpmalgdhakaaGreat
open Go.RowKit
set_option maxRecDepth 100000

theorem OwnOr.kf {B B' : Nat} {F : List Value} {w w' : World} {v : Value} {acc : List E} (h : OwnOr B w v acc) (k : KF B' 50 F w w') : OwnOr B w' v acc := by
  rcases h with h | h
  · exact .inl h
  · exact .inr (k.owns h (by decide))
theorem rplain_is {l : List E} {v : Value} {tg : ByteArray} {src steps at_ : Int} {x : Vx} {RR : (Int × Bool) × List E} {RL : List E} (h : runL (kindL tg.data.toList) (at_ == 0) (at_ == steps - 1) (x.id == src) x.has (if x.has = true then x.inn else 0) x.val l = RR) (h2 : RR.2 = RL) (hsm : l.length ≤ 600) (w : World) (hE : Edges w v l) (hkn : kindL tg.data.toList ≠ 0) (hgv : great x.val = false) (hgi : great x.inn = false) (hlw : ∀ e ∈ l, 0 ≤ e.2.2 ∧ e.2.2 ≤ 1048576) (hs1 : 1 ≤ steps) (hs2 : steps ≤ 64) (hat : 0 ≤ at_) :
    Ans 53 [jv tg src steps, .int .i64 at_, vv x, v] w (fun u w' => Below w.heap.size w w' ∧ ∃ sv, u = .tuple #[vv ⟨x.id, RR.1.1, RR.1.2, false, 0⟩, sv] ∧ w'.ownsRow w.heap.size 61 3 sv RL.length (cellsE RL)) := by
  have := rplain_any l hsm v tg src steps at_ x w hE hkn hgv hgi hlw hs1 hs2 hat
  rw [h, h2] at this
  exact this
set_option maxHeartbeats 1000000 in
theorem rstep_any (n : Int) (es : List E) (v : Value) (tg : ByteArray) (src steps at_ : Int) (x : Vx) (w : World) (hE : Edges w v es) :
    Ans 29 [gv n v, jv tg src steps, .int .i64 at_, vv x] w (fun u w' => Below w.heap.size w w' ∧ ∃ sv, u = .tuple #[vv (stepL n es (kindL tg.data.toList) src steps at_ x).1, sv, .int .i64 (stepL n es (kindL tg.data.toList) src steps at_ x).2.2] ∧ w'.ownsRow w.heap.size 61 3 sv (stepL n es (kindL tg.data.toList) src steps at_ x).2.1.length (cellsE (stepL n es (kindL tg.data.toList) src steps at_ x).2.1)) := by
  obtain ⟨A, c, rfl, h1, h2, hA⟩ := hE
  have hE : Edges w (.slice A es.length c) es := ⟨A, c, rfl, h1, h2, hA⟩
  refine calls_qx (args := [gv n (.slice A es.length c), .agg (jc tg src steps).toArray, .int .i64 at_, .agg (vc x).toArray]) 93 Tryz.func29 rfl (by kernel_rfl) (by simp) (fun a hS => ?_)
  have hB := Below.refl w.heap.size w
  have hEb := hE
  refine qx_seq (reg_seq ?_)
  refine seq_op hS (by decide) (runs_boxB (cs := [.int .i64 n, .slice A es.length c]) rfl rfl) (fun v1 w1 a1 hp hS => ?_)
  obtain ⟨rfl, hM1, hB1⟩ := hp
  have hB := hB.trans (hB1.mono hB.size)
  have hE := hEb.kept hB
  refine seq_op hS (by decide) (runs_boxB (cs := jc tg src steps) rfl rfl) (fun v3 w3 a1 hp hS => ?_)
  obtain ⟨rfl, hM3, hB3⟩ := hp
  have hB := hB.trans (hB3.mono hB.size)
  have hM1 := hM1.below hB3 hM1.lt
  have hE := hEb.kept hB
  refine seq_op hS (by decide) (runs_boxB (cs := vc x) rfl rfl) (fun v5 w5 a1 hp hS => ?_)
  obtain ⟨rfl, hM5, hB5⟩ := hp
  have hB := hB.trans (hB5.mono hB.size)
  have hM1 := hM1.below hB5 hM1.lt
  have hM3 := hM3.below hB5 hM3.lt
  have hE := hEb.kept hB
  refine seq_op hS (by decide) (runs_allocB (cs := [.int .i64 0, .int .i64 0, .bool false, .bool false, .int .i64 0]) zo28 rfl) (fun v7 w7 a1 hp hS => ?_)
  obtain ⟨rfl, hM7, hB7⟩ := hp
  have hLhM7 : w.heap.size ≤ w5.heap.size := hB.size
  have hNhM5hM7 : w3.heap.size ≠ w5.heap.size := by have := hM5.lt; omega
  have hB := hB.trans (hB7.mono hB.size)
  have hM1 := hM1.below hB7 hM1.lt
  have hM3 := hM3.below hB7 hM3.lt
  have hM5 := hM5.below hB7 hM5.lt
  have hE := hEb.kept hB
  refine sI hS (runs_assign rfl) fun _ hS => ?_
  refine sI hS (runs_assign rfl) fun _ hS => ?_
  refine nil_ok (qx_seq (qx_seq (reg_seq ?_)))
  refine sI hS (runs_loadRow rfl hM1 Tryz.underlying24 rfl (by rw [sz24]; rfl)) fun _ hS => ?_
  refine sI hS (runs_loadRow rfl hM3 Tryz.underlying26 rfl (by rw [sz26]; rfl)) fun _ hS => ?_
  refine seq_op hS (by decide) (runs_call (args := [gv n (.slice A es.length c), .agg (jc tg src steps).toArray]) goes19 rfl (right_any n es _ tg src steps w7 hE)) (fun v9 w9 a1 hp hS => ?_)
  obtain ⟨rfl, hB9⟩ := hp
  have hB := hB.trans (hB9.mono hB.size)
  have hM1 := hM1.below hB9 hM1.lt
  have hM3 := hM3.below hB9 hM3.lt
  have hM5 := hM5.below hB9 hM5.lt
  have hM7 := hM7.below hB9 hM7.lt
  have hE := hEb.kept hB
  by_cases r1 : jobB n es (kindL tg.data.toList) src steps = true
  · skip
    rw [r1] at hS
    refine sI hS (runs_not (b := true) rfl) fun _ hS => ?_
    refine sI hS (runs_move rfl) fun _ hS => ?_
    refine sY hS (runs_fieldK fo28_0 rfl) fun _ hS => ?_
    refine sY hS (runs_load rfl pl3 (hM5.at rfl)) fun _ hS => ?_
    by_cases r2 : x.id < 0
    · skip
      refine sY hS (lssT rfl rfl (by omega)) fun _ hS => ?_
      refine sI hS (runs_pick rfl rfl) fun _ hS => ?_
      refine sI hS (runs_move rfl) fun _ hS => ?_
      refine sN hS fun _ hS => ?_
      refine sN hS fun _ hS => ?_
      refine sN hS fun _ hS => ?_
      refine sN hS fun _ hS => ?_
      refine sN hS fun _ hS => ?_
      refine sI hS (runs_pick rfl rfl) fun _ hS => ?_
      refine sI hS (runs_move rfl) fun _ hS => ?_
      refine sN hS fun _ hS => ?_
      refine sN hS fun _ hS => ?_
      refine sI hS (runs_pick rfl rfl) fun _ hS => ?_
      refine sI hS (runs_move rfl) fun _ hS => ?_
      refine sN hS fun _ hS => ?_
      refine sN hS fun _ hS => ?_
      refine sN hS fun _ hS => ?_
      refine sN hS fun _ hS => ?_
      refine sI hS (runs_pick rfl rfl) fun _ hS => ?_
      refine nil_ok (wp_cond_true (hS.eval rfl) (qx_seq (reg_seq ?_)))
      refine sI hS (runs_buildK (pv := []) (cells := #[.int .i64 0, .int .i64 0, .bool false, .bool false, .int .i64 0]) rfl (by kernel_rfl)) fun _ hS => ?_
      refine seq_none hS (runs_storeB (cs := [.int .i64 0, .int .i64 0, .bool false, .bool false, .int .i64 0]) rfl rfl hM7 rfl rfl sz28) (fun v11 w11 a1 hp hS => ?_)
      have hQ11 := hM7
      obtain ⟨hM7, hU11⟩ := hp
      have hB := But.new hB hU11 (fun i e => by rw [e]; exact hLhM7) (Nat.le_refl _)
      have hM1 := hM1.but hU11 (has_ne hM1 hQ11 (by decide))
      have hM3 := hM3.but hU11 (has_ne hM3 hQ11 (by decide))
      have hM5 := hM5.but hU11 (hNhM5hM7)
      have hE := hEb.kept hB
      refine sI hS (runs_assign rfl) fun _ hS => ?_
      refine sI hS (runs_assign rfl) fun _ hS => ?_
      have hm : mayB n es (kindL tg.data.toList) src steps at_ x = false := by rw [Bool.eq_false_iff]; intro h; rw [may_iff] at h; first | exact r1 h.1 | omega
      have hfin : stepL n es (kindL tg.data.toList) src steps at_ x = (noVx, [], 70) := by unfold stepL; rw [if_pos hm]
      exact nil_ok (qx_ret (retRow3 (p := 8) (t := 9) (r := 10) (ty := 50) (by kernel_rfl) hS rfl rfl rfl hM7 Tryz.underlying50 rfl (by rw [sz28]; rfl) ⟨_, rfl, hB, by rw [hfin]; exact ⟨_, rfl, ⟨rfl, .inl ⟨rfl, rfl⟩⟩⟩⟩))
    refine sY hS (lssF rfl rfl (by omega)) fun _ hS => ?_
    refine sI hS (runs_pick rfl rfl) fun _ hS => ?_
    refine sI hS (runs_move rfl) fun _ hS => ?_
    refine sY hS (runs_fieldK fo28_0 rfl) fun _ hS => ?_
    refine sY hS (runs_load rfl pl3 (hM5.at rfl)) fun _ hS => ?_
    refine sY hS (runs_fieldK fo24_0 rfl) fun _ hS => ?_
    refine sY hS (runs_load rfl pl3 (hM1.at rfl)) fun _ hS => ?_
    by_cases r3 : x.id ≥ n
    · skip
      refine sY hS (geqT rfl rfl (by omega)) fun _ hS => ?_
      refine sI hS (runs_pick rfl rfl) fun _ hS => ?_
      refine sI hS (runs_move rfl) fun _ hS => ?_
      refine sN hS fun _ hS => ?_
      refine sN hS fun _ hS => ?_
      refine sI hS (runs_pick rfl rfl) fun _ hS => ?_
      refine sI hS (runs_move rfl) fun _ hS => ?_
      refine sN hS fun _ hS => ?_
      refine sN hS fun _ hS => ?_
      refine sN hS fun _ hS => ?_
      refine sN hS fun _ hS => ?_
      refine sI hS (runs_pick rfl rfl) fun _ hS => ?_
      refine nil_ok (wp_cond_true (hS.eval rfl) (qx_seq (reg_seq ?_)))
      refine sI hS (runs_buildK (pv := []) (cells := #[.int .i64 0, .int .i64 0, .bool false, .bool false, .int .i64 0]) rfl (by kernel_rfl)) fun _ hS => ?_
      refine seq_none hS (runs_storeB (cs := [.int .i64 0, .int .i64 0, .bool false, .bool false, .int .i64 0]) rfl rfl hM7 rfl rfl sz28) (fun v13 w13 a1 hp hS => ?_)
      have hQ13 := hM7
      obtain ⟨hM7, hU13⟩ := hp
      have hB := But.new hB hU13 (fun i e => by rw [e]; exact hLhM7) (Nat.le_refl _)
      have hM1 := hM1.but hU13 (has_ne hM1 hQ13 (by decide))
      have hM3 := hM3.but hU13 (has_ne hM3 hQ13 (by decide))
      have hM5 := hM5.but hU13 (hNhM5hM7)
      have hE := hEb.kept hB
      refine sI hS (runs_assign rfl) fun _ hS => ?_
      refine sI hS (runs_assign rfl) fun _ hS => ?_
      have hm : mayB n es (kindL tg.data.toList) src steps at_ x = false := by rw [Bool.eq_false_iff]; intro h; rw [may_iff] at h; first | exact r1 h.1 | omega
      have hfin : stepL n es (kindL tg.data.toList) src steps at_ x = (noVx, [], 70) := by unfold stepL; rw [if_pos hm]
      exact nil_ok (qx_ret (retRow3 (p := 8) (t := 9) (r := 10) (ty := 50) (by kernel_rfl) hS rfl rfl rfl hM7 Tryz.underlying50 rfl (by rw [sz28]; rfl) ⟨_, rfl, hB, by rw [hfin]; exact ⟨_, rfl, ⟨rfl, .inl ⟨rfl, rfl⟩⟩⟩⟩))
    refine sY hS (geqF rfl rfl (by omega)) fun _ hS => ?_
    refine sI hS (runs_pick rfl rfl) fun _ hS => ?_
    refine sI hS (runs_move rfl) fun _ hS => ?_
    refine sY hS (runs_move rfl) fun _ hS => ?_
    by_cases r4 : at_ < 0
    · skip
      refine sY hS (lssT rfl rfl (by omega)) fun _ hS => ?_
      refine sI hS (runs_pick rfl rfl) fun _ hS => ?_
      refine sI hS (runs_move rfl) fun _ hS => ?_
      refine sN hS fun _ hS => ?_
      refine sN hS fun _ hS => ?_
      refine sN hS fun _ hS => ?_
      refine sN hS fun _ hS => ?_
      refine sI hS (runs_pick rfl rfl) fun _ hS => ?_
      refine nil_ok (wp_cond_true (hS.eval rfl) (qx_seq (reg_seq ?_)))
      refine sI hS (runs_buildK (pv := []) (cells := #[.int .i64 0, .int .i64 0, .bool false, .bool false, .int .i64 0]) rfl (by kernel_rfl)) fun _ hS => ?_
      refine seq_none hS (runs_storeB (cs := [.int .i64 0, .int .i64 0, .bool false, .bool false, .int .i64 0]) rfl rfl hM7 rfl rfl sz28) (fun v15 w15 a1 hp hS => ?_)
      have hQ15 := hM7
      obtain ⟨hM7, hU15⟩ := hp
      have hB := But.new hB hU15 (fun i e => by rw [e]; exact hLhM7) (Nat.le_refl _)
      have hM1 := hM1.but hU15 (has_ne hM1 hQ15 (by decide))
      have hM3 := hM3.but hU15 (has_ne hM3 hQ15 (by decide))
      have hM5 := hM5.but hU15 (hNhM5hM7)
      have hE := hEb.kept hB
      refine sI hS (runs_assign rfl) fun _ hS => ?_
      refine sI hS (runs_assign rfl) fun _ hS => ?_
      have hm : mayB n es (kindL tg.data.toList) src steps at_ x = false := by rw [Bool.eq_false_iff]; intro h; rw [may_iff] at h; first | exact r1 h.1 | omega
      have hfin : stepL n es (kindL tg.data.toList) src steps at_ x = (noVx, [], 70) := by unfold stepL; rw [if_pos hm]
      exact nil_ok (qx_ret (retRow3 (p := 8) (t := 9) (r := 10) (ty := 50) (by kernel_rfl) hS rfl rfl rfl hM7 Tryz.underlying50 rfl (by rw [sz28]; rfl) ⟨_, rfl, hB, by rw [hfin]; exact ⟨_, rfl, ⟨rfl, .inl ⟨rfl, rfl⟩⟩⟩⟩))
    refine sY hS (lssF rfl rfl (by omega)) fun _ hS => ?_
    refine sI hS (runs_pick rfl rfl) fun _ hS => ?_
    refine sI hS (runs_move rfl) fun _ hS => ?_
    refine sY hS (runs_move rfl) fun _ hS => ?_
    refine sY hS (runs_fieldK fo26_2 rfl) fun _ hS => ?_
    refine sY hS (runs_load rfl pl3 (hM3.at rfl)) fun _ hS => ?_
    by_cases r5 : at_ ≥ steps
    · skip
      refine sY hS (geqT rfl rfl (by omega)) fun _ hS => ?_
      refine sI hS (runs_pick rfl rfl) fun _ hS => ?_
      refine nil_ok (wp_cond_true (hS.eval rfl) (qx_seq (reg_seq ?_)))
      refine sI hS (runs_buildK (pv := []) (cells := #[.int .i64 0, .int .i64 0, .bool false, .bool false, .int .i64 0]) rfl (by kernel_rfl)) fun _ hS => ?_
      refine seq_none hS (runs_storeB (cs := [.int .i64 0, .int .i64 0, .bool false, .bool false, .int .i64 0]) rfl rfl hM7 rfl rfl sz28) (fun v17 w17 a1 hp hS => ?_)
      have hQ17 := hM7
      obtain ⟨hM7, hU17⟩ := hp
      have hB := But.new hB hU17 (fun i e => by rw [e]; exact hLhM7) (Nat.le_refl _)
      have hM1 := hM1.but hU17 (has_ne hM1 hQ17 (by decide))
      have hM3 := hM3.but hU17 (has_ne hM3 hQ17 (by decide))
      have hM5 := hM5.but hU17 (hNhM5hM7)
      have hE := hEb.kept hB
      refine sI hS (runs_assign rfl) fun _ hS => ?_
      refine sI hS (runs_assign rfl) fun _ hS => ?_
      have hm : mayB n es (kindL tg.data.toList) src steps at_ x = false := by rw [Bool.eq_false_iff]; intro h; rw [may_iff] at h; first | exact r1 h.1 | omega
      have hfin : stepL n es (kindL tg.data.toList) src steps at_ x = (noVx, [], 70) := by unfold stepL; rw [if_pos hm]
      exact nil_ok (qx_ret (retRow3 (p := 8) (t := 9) (r := 10) (ty := 50) (by kernel_rfl) hS rfl rfl rfl hM7 Tryz.underlying50 rfl (by rw [sz28]; rfl) ⟨_, rfl, hB, by rw [hfin]; exact ⟨_, rfl, ⟨rfl, .inl ⟨rfl, rfl⟩⟩⟩⟩))
    refine sY hS (geqF rfl rfl (by omega)) fun _ hS => ?_
    refine sI hS (runs_pick rfl rfl) fun _ hS => ?_
    refine nil_ok (wp_cond_false (hS.eval rfl) (wp_skip (qx_seq (qx_seq (reg_seq ?_)))))
    refine sI hS (runs_fieldK fo28_1 rfl) fun _ hS => ?_
    refine sI hS (runs_load rfl pl2 (hM5.at rfl)) fun _ hS => ?_
    by_cases g1 : great x.val = true
    · skip
      refine sI hS (runs_call (args := [.int .i64 x.val]) goes52 rfl (rgreat_is w9 g1)) fun _ hS => ?_
      refine sI hS (runs_move rfl) fun _ hS => ?_
      refine sN hS fun _ hS => ?_
      refine sN hS fun _ hS => ?_
      refine sN hS fun _ hS => ?_
      refine sI hS (runs_pick rfl rfl) fun _ hS => ?_
      refine nil_ok (wp_cond_true (hS.eval rfl) (qx_seq (reg_seq ?_)))
      refine sI hS (runs_buildK (pv := []) (cells := #[.int .i64 0, .int .i64 0, .bool false, .bool false, .int .i64 0]) rfl (by kernel_rfl)) fun _ hS => ?_
      refine seq_none hS (runs_storeB (cs := [.int .i64 0, .int .i64 0, .bool false, .bool false, .int .i64 0]) rfl rfl hM7 rfl rfl sz28) (fun v19 w19 a1 hp hS => ?_)
      have hQ19 := hM7
      obtain ⟨hM7, hU19⟩ := hp
      have hB := But.new hB hU19 (fun i e => by rw [e]; exact hLhM7) (Nat.le_refl _)
      have hM1 := hM1.but hU19 (has_ne hM1 hQ19 (by decide))
      have hM3 := hM3.but hU19 (has_ne hM3 hQ19 (by decide))
      have hM5 := hM5.but hU19 (hNhM5hM7)
      have hE := hEb.kept hB
      refine sI hS (runs_assign rfl) fun _ hS => ?_
      refine sI hS (runs_assign rfl) fun _ hS => ?_
      have hm : mayB n es (kindL tg.data.toList) src steps at_ x = true := may_iff.2 ⟨r1, by omega, by omega, by omega, by omega⟩
      have hfin : stepL n es (kindL tg.data.toList) src steps at_ x = (noVx, [], 71) := by unfold stepL; rw [if_neg (by rw [hm]; simp)]; simp [g1]
      exact nil_ok (qx_ret (retRow3 (p := 8) (t := 9) (r := 10) (ty := 50) (by kernel_rfl) hS rfl rfl rfl hM7 Tryz.underlying50 rfl (by rw [sz28]; rfl) ⟨_, rfl, hB, by rw [hfin]; exact ⟨_, rfl, ⟨rfl, .inl ⟨rfl, rfl⟩⟩⟩⟩))
    refine sI hS (runs_call (args := [.int .i64 x.val]) goes52 rfl (rgreat_is w9 (Bool.eq_false_iff.2 g1))) fun _ hS => ?_
    refine sI hS (runs_move rfl) fun _ hS => ?_
    refine sY hS (runs_fieldK fo28_4 rfl) fun _ hS => ?_
    refine sY hS (runs_load rfl pl2 (hM5.at rfl)) fun _ hS => ?_
    by_cases g2 : great x.inn = true
    · skip
      refine sY hS (runs_call (args := [.int .i64 x.inn]) goes52 rfl (rgreat_is w9 g2)) fun _ hS => ?_
      refine sI hS (runs_pick rfl rfl) fun _ hS => ?_
      refine nil_ok (wp_cond_true (hS.eval rfl) (qx_seq (reg_seq ?_)))
      refine sI hS (runs_buildK (pv := []) (cells := #[.int .i64 0, .int .i64 0, .bool false, .bool false, .int .i64 0]) rfl (by kernel_rfl)) fun _ hS => ?_
      refine seq_none hS (runs_storeB (cs := [.int .i64 0, .int .i64 0, .bool false, .bool false, .int .i64 0]) rfl rfl hM7 rfl rfl sz28) (fun v21 w21 a1 hp hS => ?_)
      have hQ21 := hM7
      obtain ⟨hM7, hU21⟩ := hp
      have hB := But.new hB hU21 (fun i e => by rw [e]; exact hLhM7) (Nat.le_refl _)
      have hM1 := hM1.but hU21 (has_ne hM1 hQ21 (by decide))
      have hM3 := hM3.but hU21 (has_ne hM3 hQ21 (by decide))
      have hM5 := hM5.but hU21 (hNhM5hM7)
      have hE := hEb.kept hB
      refine sI hS (runs_assign rfl) fun _ hS => ?_
      refine sI hS (runs_assign rfl) fun _ hS => ?_
      have hm : mayB n es (kindL tg.data.toList) src steps at_ x = true := may_iff.2 ⟨r1, by omega, by omega, by omega, by omega⟩
      have hfin : stepL n es (kindL tg.data.toList) src steps at_ x = (noVx, [], 71) := by unfold stepL; rw [if_neg (by rw [hm]; simp)]; simp [g1, g2]
      exact nil_ok (qx_ret (retRow3 (p := 8) (t := 9) (r := 10) (ty := 50) (by kernel_rfl) hS rfl rfl rfl hM7 Tryz.underlying50 rfl (by rw [sz28]; rfl) ⟨_, rfl, hB, by rw [hfin]; exact ⟨_, rfl, ⟨rfl, .inl ⟨rfl, rfl⟩⟩⟩⟩))
    refine sY hS (runs_call (args := [.int .i64 x.inn]) goes52 rfl (rgreat_is w9 (Bool.eq_false_iff.2 g2))) fun _ hS => ?_
    refine sI hS (runs_pick rfl rfl) fun _ hS => ?_
    refine nil_ok (wp_cond_false (hS.eval rfl) (wp_skip (qx_seq (qx_seq (reg_seq ?_)))))
    refine sI hS (runs_fieldK fo28_2 rfl) fun _ hS => ?_
    by_cases q1 : x.act = true
    · skip
      refine sI hS (runs_load rfl pl4 ((hM5.at rfl).trans (by rw [q1]))) fun _ hS => ?_
      refine sI hS (runs_not (b := true) rfl) fun _ hS => ?_
      refine sI hS (runs_move rfl) fun _ hS => ?_
      refine sN hS fun _ hS => ?_
      refine sN hS fun _ hS => ?_
      refine sN hS fun _ hS => ?_
      refine sI hS (runs_pick rfl rfl) fun _ hS => ?_
      refine nil_ok (wp_cond_false (hS.eval rfl) (wp_skip (qx_seq (?_))))
      have hW0 := hB.size
      obtain ⟨hc0, hk0, hs0, hs1, hs2, hs3⟩ := job_iff.1 r1
      obtain ⟨RR, hRR⟩ : ∃ RR, (turnL n es (kindL tg.data.toList) src steps at_ x) = RR := ⟨_, rfl⟩
      obtain ⟨RL, hRL⟩ : ∃ RL, RR.2 = RL := ⟨_, rfl⟩
      have lthM5 := hM5.lt
      have lthM7 := hM7.lt
      refine reg_v (KF (w9.heap.size) 50 (vc (⟨x.id, RR.1.1, RR.1.2, false, 0⟩ : Vx))) (fun w' => KF (w9.heap.size) 50 (vc (⟨x.id, RR.1.1, RR.1.2, false, 0⟩ : Vx)) w9 w') [.inl (.agg (jc tg src steps).toArray), .inl (.int .i64 at_), .inl (.agg (vc x).toArray), .inl (gv n (.slice A es.length c)), .inl (.pointer (some ⟨w3.heap.size, 0 + 0, none⟩)), .inl (.int .i64 x.id), .inr (fun _ => fun v w' => ∃ Bo, OwnOr Bo w' v (outL n es x.id)), .inr (fun _ => fun v w' => ∃ sv, v = .tuple #[vv (⟨x.id, RR.1.1, RR.1.2, false, 0⟩ : Vx), sv] ∧ w'.ownsRow w9.heap.size 61 3 sv (RL).length (cellsE (RL))), .inr (fun _ => fun v w' => ∃ sv, v = .tuple #[vv (⟨x.id, RR.1.1, RR.1.2, false, 0⟩ : Vx), sv] ∧ w'.ownsRow w9.heap.size 61 3 sv (RL).length (cellsE (RL))), .inl (.agg (vc (⟨x.id, RR.1.1, RR.1.2, false, 0⟩ : Vx)).toArray), .inr (fun _ => fun v w' => w'.ownsRow w9.heap.size 61 3 v (RL).length (cellsE (RL))), .inr (fun _ => fun v w' => ∃ g, v = .pointer (some ⟨g, 0, none⟩) ∧ w9.heap.size ≤ g ∧ ∃ cs : List Value, cs.length = 5 ∧ Has w' g 50 cs), .inr (fun vs _ => fun w' => ∃ g, vs 11 = .pointer (some ⟨g, 0, none⟩) ∧ w9.heap.size ≤ g ∧ Has w' g 50 (vc (⟨x.id, RR.1.1, RR.1.2, false, 0⟩ : Vx))), .inr (fun _ => fun v w' => w'.ownsRow w9.heap.size 61 3 v (RL).length (cellsE (RL)))] 14 0 ⟨trivial, trivial, trivial, trivial, trivial, trivial, fun _ _ _ => rfl, fun _ _ _ => rfl, fun _ _ _ => rfl, trivial, fun _ _ _ => rfl, fun _ _ _ => rfl, fun vs vs' h => by simp only [h 11 (by kernel_rfl)], fun _ _ _ => rfl, trivial⟩ mixed rfl (by kernel_rfl) hS (KF.refl _ _ _ _) (fun _ h => h.drew) ?_
      refine fun vs => ?_
      refine vs_is rfl (fun w' hw => runs_loadRow rfl (hw.other _ _ _ (by decide) hM3) Tryz.underlying26 rfl (by rw [sz26]; rfl)) ?_
      refine vs_is rfl (fun w' hw => runs_move rfl) ?_
      refine vs_is rfl (fun w' hw => runs_loadRow rfl (hM5.below hw.below (hM5.lt)) Tryz.underlying50 rfl (by rw [sz28]; rfl)) ?_
      refine vs_is rfl (fun w' hw => runs_loadRow rfl (hw.other _ _ _ (by decide) hM1) Tryz.underlying24 rfl (by rw [sz24]; rfl)) ?_
      refine vs_is rfl (fun w' hw => runs_fieldK fo28_0 rfl) ?_
      refine vs_is rfl (fun w' hw => runs_load rfl pl3 ((hM5.below hw.below (hM5.lt)).at rfl)) ?_
      refine vs_pr rfl (fun _ _ _ h hk => by obtain ⟨Bo, ho⟩ := h; exact ⟨Bo, ho.kf hk⟩) (fun w' hw hq => (runs_call (args := [gv n (.slice A es.length c), .int .i64 x.id]) goes54 rfl (rout2_any n x.id es _ w' (hE.kept hw.below) hc0)).mono (by rintro v w5 ⟨hb, ho⟩; exact ⟨ho, hw.more (Nat.le_refl _) hb, KF.of hb hw.below.size⟩)) (fun vo evo => ?_)
      refine vs_pr rfl (fun _ _ _ h hk => by obtain ⟨sv, h1, h2⟩ := h; exact ⟨sv, h1, hk.owns h2 (by decide)⟩) (fun w' hw hq => (by obtain ⟨Bo, ho⟩ := hq (6, _) List.mem_cons_self (by kernel_rfl); exact (runs_call (args := [.agg (jc tg src steps).toArray, .int .i64 at_, .agg (vc x).toArray, vo]) goes53 rfl (rplain_is hRR hRL (by have := outL_length hc0 x.id; omega) w' ho.edges hk0 (Bool.eq_false_iff.2 g1) (Bool.eq_false_iff.2 g2) (fun e he => outL_ok hc0 he) hs2 hs3 (by omega))).mono (by rintro v w5 ⟨hb, sv, h1, h2⟩; exact ⟨⟨sv, h1, owns_mono h2 hw.below.size⟩, hw.more (Nat.le_refl _) hb, KF.of hb hw.below.size⟩))) (fun vc1 evc1 => ?_)
      refine vs_pr rfl (fun _ _ _ h hk => by obtain ⟨sv, h1, h2⟩ := h; exact ⟨sv, h1, hk.owns h2 (by decide)⟩) (fun w' hw hq => (by obtain ⟨sv, rfl, h2⟩ := hq (7, _) List.mem_cons_self (by kernel_rfl); exact (runs_move rfl).mono (by rintro v w5 ⟨rfl, rfl⟩; exact ⟨⟨sv, rfl, h2⟩, hw, KF.refl _ _ _ _⟩))) (fun vc2 evc2 => ?_)
      refine vs_val rfl (fun w' hw hq => (by obtain ⟨sv, rfl, _⟩ := hq (8, _) List.mem_cons_self (by kernel_rfl); exact (runs_extract rfl rfl).mono (by rintro v w5 ⟨rfl, rfl⟩; exact ⟨rfl, hw, KF.refl _ _ _ _⟩))) ?_
      refine vs_pr rfl (fun _ _ _ h hk => hk.owns h (by decide)) (fun w' hw hq => (by obtain ⟨sv, rfl, h2⟩ := hq (8, _) List.mem_cons_self (by kernel_rfl); exact (runs_extract rfl rfl).mono (by rintro v w5 ⟨rfl, rfl⟩; exact ⟨h2, hw, KF.refl _ _ _ _⟩))) (fun sl esl => ?_)
      refine vs_pr rfl (fun _ _ _ h hk => by obtain ⟨g, h1, h2, cs, h3, h4⟩ := h; obtain ⟨cs', h5, h6⟩ := hk.len _ _ h4; exact ⟨g, h1, h2, cs', h5.trans h3, h6⟩) (fun w' hw hq => (runs_allocB (cs := [.int .i64 0, .int .i64 0, .bool false, .bool false, .int .i64 0]) zo28 rfl).mono (by rintro v w5 ⟨rfl, h2, h3⟩; exact ⟨⟨_, rfl, hw.below.size, _, rfl, h2⟩, hw.more (Nat.le_refl _) h3, KF.of h3 hw.below.size⟩)) (fun va eva => ?_)
      refine vs_none rfl (fun w1 w2 h hk => by obtain ⟨g, h1, h2, h3⟩ := h; exact ⟨g, h1, h2, hk.fin _ h3⟩) (fun w' hw hq => (by obtain ⟨g, rfl, hBg, cs, hcs, hg⟩ := hq (11, _) List.mem_cons_self (by kernel_rfl); exact (runs_storeB (cs := vc (⟨x.id, RR.1.1, RR.1.2, false, 0⟩ : Vx)) rfl rfl hg (hcs.trans rfl) rfl sz28).mono (by rintro v w2 ⟨h1, h2⟩; have hk := KF.store (F := vc (⟨x.id, RR.1.1, RR.1.2, false, 0⟩ : Vx)) hg hBg (hcs.trans rfl) h1 h2; exact ⟨⟨g, eva, hBg, h1⟩, hw.trans hk, hk⟩))) (fun _ _ => ?_)
      refine vs_pr rfl (fun _ _ _ h hk => hk.owns h (by decide)) (fun w' hw hq => (by have h2 := hq (10, _) (List.mem_cons_of_mem _ (List.mem_cons_of_mem _ List.mem_cons_self)) (by kernel_rfl); exact (runs_assign rfl).mono (by rintro v w5 ⟨rfl, rfl⟩; exact ⟨h2, hw, KF.refl _ _ _ _⟩))) (fun sm esm => ?_)
      refine (fun a23 w23 hS hK23 hq => ?_)
      obtain ⟨gs, hgs, hgBs, hYs⟩ := (hq (12, _) (List.mem_cons_of_mem _ List.mem_cons_self))
      rw [eva] at hgs
      subst hgs
      have hOwn := (hq (13, _) List.mem_cons_self)
      clear hq
      have hB := hB.trans (hK23.below.mono (hB.size))
      have hM1 := hK23.other _ _ _ (by decide) hM1
      have hM3 := hK23.other _ _ _ (by decide) hM3
      have hM5 := hM5.below hK23.below (hM5.lt)
      have hM7 := hM7.below hK23.below (hM7.lt)
      have hE := hEb.kept hB
      have hNYshM7 : gs ≠ w5.heap.size := by omega
      obtain ⟨A2, c2, hsm, hc21, hc22, _⟩ := edges_ownE hOwn rfl
      unfold maxLen at hc22
      subst hsm
      refine wpAnyH_done (by kernel_rfl) ?_ _
      refine qx_seq (reg_seq ?_)
      refine sI hS (runs_fieldK fo28_1 rfl) fun _ hS => ?_
      refine sI hS (runs_load rfl pl2 (hYs.at rfl)) fun _ hS => ?_
      refine sI hS (runs_call (args := [.int .i64 RR.1.1]) goes52 rfl (rgreat_any RR.1.1 w23)) fun _ hS => ?_
      refine sI hS (runs_assign rfl) fun _ hS => ?_
      refine nil_ok (qx_seq (qx_seq (reg_seq ?_)))
      refine sI hS (runs_assign rfl) fun _ hS => ?_
      refine nil_ok (?_)
      have hBo1 := hB
      refine qx_for (fun mm a w' => ∃ (i : Nat) (t : Bool), i ≤ RL.length ∧ mm = RL.length - i ∧ Below w23.heap.size w23 w' ∧ t = (great RR.1.1 || (RL.take i).any (fun m => great m.2.2)) ∧ Sees 93 [(14, .int .i64 (i : Int)), (13, .bool t), (12, .slice A2 RL.length c2), (11, .pointer (some ⟨gs, 0, none⟩)), (10, .int .i64 0), (9, .slice none 0 0), (8, .pointer (some ⟨w5.heap.size, 0, none⟩))] a) RL.length ⟨0, great RR.1.1, by omega, by omega, Below.refl _ _, by simp, hS.only _ ⟨rfl, rfl, rfl, rfl, rfl, rfl, rfl, trivial⟩⟩ ?_
      clear hS
      rintro mm a wl1 ⟨i, t, hi1, rfl, hBl1, ht, hS⟩
      have hM1 := hM1.below hBl1 hM1.lt
      have hM3 := hM3.below hBl1 hM3.lt
      have hM5 := hM5.below hBl1 hM5.lt
      have hM7 := hM7.below hBl1 hM7.lt
      have hYs := hYs.below hBl1 hYs.lt
      have hE := hE.kept hBl1
      have hOwn := owns_kept hOwn hBl1
      have hB := Below.refl wl1.heap.size wl1
      refine reg_seq ?_
      refine sI hS (runs_move rfl) fun _ hS => ?_
      refine sI hS (runs_move rfl) fun _ hS => ?_
      refine sI hS (runs_len rfl und32) fun _ hS => ?_
      by_cases hlt1 : i < RL.length
      · skip
        refine sI hS (lssT rfl rfl (by omega)) fun _ hS => ?_
        refine nil_ok ⟨_, hS.eval rfl, fun h => by simp at h, fun _ => ?_⟩
        obtain ⟨m, hmi⟩ : ∃ m, RL[i]? = some m := ⟨RL[i], by simp [hlt1]⟩
        obtain ⟨b, o, hAe, hbw, hr⟩ := edges_row (edges_ownE hOwn rfl) (by omega)
        have hre := edges_at hr hmi
        refine qx_seq (qx_block (?_))
        cases t with
        | false =>
          refine reg_seq ?_
          refine sI hS (runs_move rfl) fun _ hS => ?_
          refine sI hS (runs_move rfl) fun _ hS => ?_
          refine sY hS (runs_move rfl) fun _ hS => ?_
          refine sY hS (runs_move rfl) fun _ hS => ?_
          refine sY hS (runs_indexAddrG (j := i) (by rw [← hAe]; rfl) rfl und32 sz48 rfl hlt1) fun _ hS => ?_
          refine sY hS (runs_fieldK fo48_2 rfl) fun _ hS => ?_
          refine sY hS (runs_load rfl pl2 (hre 2 _ rfl)) fun _ hS => ?_
          by_cases gm : great m.2.2 = true
          · skip
            refine sY hS (runs_call (args := [.int .i64 m.2.2]) goes52 rfl (rgreat_is wl1 gm)) fun _ hS => ?_
            refine sI hS (runs_pick rfl rfl) fun _ hS => ?_
            refine sI hS (runs_assign rfl) fun _ hS => ?_
            refine nil_ok (reg_seq ?_)
            refine sI hS (runs_move rfl) fun _ hS => ?_
            refine sI hS (runs_add (r := ((i + 1 : Nat) : Int)) rfl rfl (by simp [IntKind.wrap, IntKind.bits, IntKind.signed]; omega)) fun _ hS => ?_
            refine sI hS (runs_assign rfl) fun _ hS => ?_
            exact nil_ok ⟨_, by omega, i + 1, true, by omega, rfl, hBl1.trans (hB.mono hBl1.size), by rw [any_take _ hmi, ← Bool.or_assoc, ← ht]; simp [gm], hS.only _ ⟨rfl, rfl, rfl, rfl, rfl, rfl, rfl, trivial⟩⟩
          refine sY hS (runs_call (args := [.int .i64 m.2.2]) goes52 rfl (rgreat_is wl1 (Bool.eq_false_iff.2 gm))) fun _ hS => ?_
          refine sI hS (runs_pick rfl rfl) fun _ hS => ?_
          refine sI hS (runs_assign rfl) fun _ hS => ?_
          refine nil_ok (reg_seq ?_)
          refine sI hS (runs_move rfl) fun _ hS => ?_
          refine sI hS (runs_add (r := ((i + 1 : Nat) : Int)) rfl rfl (by simp [IntKind.wrap, IntKind.bits, IntKind.signed]; omega)) fun _ hS => ?_
          refine sI hS (runs_assign rfl) fun _ hS => ?_
          exact nil_ok ⟨_, by omega, i + 1, false, by omega, rfl, hBl1.trans (hB.mono hBl1.size), by rw [any_take _ hmi, ← Bool.or_assoc, ← ht]; simp [gm], hS.only _ ⟨rfl, rfl, rfl, rfl, rfl, rfl, rfl, trivial⟩⟩
        | true =>
          refine reg_seq ?_
          refine sI hS (runs_move rfl) fun _ hS => ?_
          refine sI hS (runs_move rfl) fun _ hS => ?_
          refine sN hS fun _ hS => ?_
          refine sN hS fun _ hS => ?_
          refine sN hS fun _ hS => ?_
          refine sN hS fun _ hS => ?_
          refine sN hS fun _ hS => ?_
          refine sN hS fun _ hS => ?_
          refine sI hS (runs_pick rfl rfl) fun _ hS => ?_
          refine sI hS (runs_assign rfl) fun _ hS => ?_
          refine nil_ok (reg_seq ?_)
          refine sI hS (runs_move rfl) fun _ hS => ?_
          refine sI hS (runs_add (r := ((i + 1 : Nat) : Int)) rfl rfl (by simp [IntKind.wrap, IntKind.bits, IntKind.signed]; omega)) fun _ hS => ?_
          refine sI hS (runs_assign rfl) fun _ hS => ?_
          exact nil_ok ⟨_, by omega, i + 1, true, by omega, rfl, hBl1.trans (hB.mono hBl1.size), by rw [any_take _ hmi, ← Bool.or_assoc, ← ht]; simp, hS.only _ ⟨rfl, rfl, rfl, rfl, rfl, rfl, rfl, trivial⟩⟩
      refine sI hS (lssF rfl rfl (by omega)) fun _ hS => ?_
      obtain rfl : i = RL.length := by omega
      refine nil_ok ⟨_, hS.eval rfl, fun _ => ?_, fun h => by simp at h⟩
      have hB := hBo1.trans ((hBl1.trans (hB.mono hBl1.size)).mono hBo1.size)
      rw [List.take_length] at ht
      refine qx_seq (qx_seq (reg_seq ?_))
      by_cases gt : t = true
      · skip
        rw [gt] at hS
        refine sI hS (runs_move rfl) fun _ hS => ?_
        refine nil_ok (wp_cond_true (hS.eval rfl) (qx_seq (reg_seq ?_)))
        refine sI hS (runs_buildK (pv := []) (cells := #[.int .i64 0, .int .i64 0, .bool false, .bool false, .int .i64 0]) rfl (by kernel_rfl)) fun _ hS => ?_
        refine seq_none hS (runs_storeB (cs := [.int .i64 0, .int .i64 0, .bool false, .bool false, .int .i64 0]) rfl rfl hM7 rfl rfl sz28) (fun v25 w25 a1 hp hS => ?_)
        have hQ25 := hM7
        obtain ⟨hM7, hU25⟩ := hp
        have hB := But.new hB hU25 (fun i e => by rw [e]; exact hLhM7) (Nat.le_refl _)
        have hM1 := hM1.but hU25 (has_ne hM1 hQ25 (by decide))
        have hM3 := hM3.but hU25 (has_ne hM3 hQ25 (by decide))
        have hM5 := hM5.but hU25 (hNhM5hM7)
        have hYs := hYs.but hU25 (hNYshM7)
        have hE := hEb.kept hB
        have hOwn := owns_but hOwn hU25 (fun i old ho e => by subst e; exact has_ne ho hQ25 (by decide) rfl)
        refine sI hS (runs_assign rfl) fun _ hS => ?_
        refine sI hS (runs_assign rfl) fun _ hS => ?_
        have hm : mayB n es (kindL tg.data.toList) src steps at_ x = true := may_iff.2 ⟨r1, by omega, by omega, by omega, by omega⟩
        have htt : (great RR.1.1 || RL.any (fun m => great m.2.2)) = true := by rw [← ht]; exact gt
        have hfin : stepL n es (kindL tg.data.toList) src steps at_ x = (noVx, [], 71) := by unfold stepL; rw [if_neg (by rw [hm]; simp)]; rw [if_neg (by simp [g1, g2]), if_neg (by simp [q1])]; dsimp only; rw [hRR, hRL, htt]; rfl
        exact nil_ok (qx_ret (retRow3 (p := 8) (t := 9) (r := 10) (ty := 50) (by kernel_rfl) hS rfl rfl rfl hM7 Tryz.underlying50 rfl (by rw [sz28]; rfl) ⟨_, rfl, hB, by rw [hfin]; exact ⟨_, rfl, ⟨rfl, .inl ⟨rfl, rfl⟩⟩⟩⟩))
      · skip
        rw [Bool.eq_false_iff.2 gt] at hS
        refine sI hS (runs_move rfl) fun _ hS => ?_
        refine nil_ok (wp_cond_false (hS.eval rfl) (wp_skip (qx_seq (reg_seq ?_))))
        refine sI hS (runs_loadRow rfl hYs Tryz.underlying50 rfl (by rw [sz28]; rfl)) fun _ hS => ?_
        refine sI hS (runs_move rfl) fun _ hS => ?_
        refine seq_none hS (runs_storeB (cs := vc (⟨x.id, RR.1.1, RR.1.2, false, 0⟩ : Vx)) rfl rfl hM7 rfl rfl sz28) (fun v27 w27 a1 hp hS => ?_)
        have hQ27 := hM7
        obtain ⟨hM7, hU27⟩ := hp
        have hB := But.new hB hU27 (fun i e => by rw [e]; exact hLhM7) (Nat.le_refl _)
        have hM1 := hM1.but hU27 (has_ne hM1 hQ27 (by decide))
        have hM3 := hM3.but hU27 (has_ne hM3 hQ27 (by decide))
        have hM5 := hM5.but hU27 (hNhM5hM7)
        have hYs := hYs.but hU27 (hNYshM7)
        have hE := hEb.kept hB
        have hOwn := owns_but hOwn hU27 (fun i old ho e => by subst e; exact has_ne ho hQ27 (by decide) rfl)
        refine sI hS (runs_assign rfl) fun _ hS => ?_
        refine sI hS (runs_assign rfl) fun _ hS => ?_
        have hm : mayB n es (kindL tg.data.toList) src steps at_ x = true := may_iff.2 ⟨r1, by omega, by omega, by omega, by omega⟩
        have htt : (great RR.1.1 || RL.any (fun m => great m.2.2)) = false := by rw [← ht]; exact Bool.eq_false_iff.2 gt
        have hfin : stepL n es (kindL tg.data.toList) src steps at_ x = ((⟨x.id, RR.1.1, RR.1.2, false, 0⟩ : Vx), RL, 0) := by unfold stepL; rw [if_neg (by rw [hm]; simp)]; rw [if_neg (by simp [g1, g2]), if_neg (by simp [q1])]; dsimp only; rw [hRR, hRL, htt]; rfl
        exact nil_ok (qx_ret (retRow3 (p := 8) (t := 9) (r := 10) (ty := 50) (by kernel_rfl) hS rfl rfl rfl hM7 Tryz.underlying50 rfl (by rw [sz28]; rfl) ⟨_, rfl, hB, by rw [hfin]; exact ⟨_, rfl, owns_mono hOwn hW0⟩⟩))
    refine sI hS (runs_load rfl pl4 ((hM5.at rfl).trans (by rw [Bool.eq_false_iff.2 q1]))) fun _ hS => ?_
    refine sI hS (runs_not (b := false) rfl) fun _ hS => ?_
    refine sI hS (runs_move rfl) fun _ hS => ?_
    refine sY hS (runs_fieldK fo28_3 rfl) fun _ hS => ?_
    by_cases q2 : x.has = true
    · skip
      refine sY hS (runs_load rfl pl4 ((hM5.at rfl).trans (by rw [q2]))) fun _ hS => ?_
      refine sY hS (runs_not (b := true) rfl) fun _ hS => ?_
      refine sI hS (runs_pick rfl rfl) fun _ hS => ?_
      refine nil_ok (wp_cond_false (hS.eval rfl) (wp_skip (qx_seq (?_))))
      have hW0 := hB.size
      obtain ⟨hc0, hk0, hs0, hs1, hs2, hs3⟩ := job_iff.1 r1
      obtain ⟨RR, hRR⟩ : ∃ RR, (turnL n es (kindL tg.data.toList) src steps at_ x) = RR := ⟨_, rfl⟩
      obtain ⟨RL, hRL⟩ : ∃ RL, RR.2 = RL := ⟨_, rfl⟩
      have lthM5 := hM5.lt
      have lthM7 := hM7.lt
      refine reg_v (KF (w9.heap.size) 50 (vc (⟨x.id, RR.1.1, RR.1.2, false, 0⟩ : Vx))) (fun w' => KF (w9.heap.size) 50 (vc (⟨x.id, RR.1.1, RR.1.2, false, 0⟩ : Vx)) w9 w') [.inl (.agg (jc tg src steps).toArray), .inl (.int .i64 at_), .inl (.agg (vc x).toArray), .inl (gv n (.slice A es.length c)), .inl (.pointer (some ⟨w3.heap.size, 0 + 0, none⟩)), .inl (.int .i64 x.id), .inr (fun _ => fun v w' => ∃ Bo, OwnOr Bo w' v (outL n es x.id)), .inr (fun _ => fun v w' => ∃ sv, v = .tuple #[vv (⟨x.id, RR.1.1, RR.1.2, false, 0⟩ : Vx), sv] ∧ w'.ownsRow w9.heap.size 61 3 sv (RL).length (cellsE (RL))), .inr (fun _ => fun v w' => ∃ sv, v = .tuple #[vv (⟨x.id, RR.1.1, RR.1.2, false, 0⟩ : Vx), sv] ∧ w'.ownsRow w9.heap.size 61 3 sv (RL).length (cellsE (RL))), .inl (.agg (vc (⟨x.id, RR.1.1, RR.1.2, false, 0⟩ : Vx)).toArray), .inr (fun _ => fun v w' => w'.ownsRow w9.heap.size 61 3 v (RL).length (cellsE (RL))), .inr (fun _ => fun v w' => ∃ g, v = .pointer (some ⟨g, 0, none⟩) ∧ w9.heap.size ≤ g ∧ ∃ cs : List Value, cs.length = 5 ∧ Has w' g 50 cs), .inr (fun vs _ => fun w' => ∃ g, vs 11 = .pointer (some ⟨g, 0, none⟩) ∧ w9.heap.size ≤ g ∧ Has w' g 50 (vc (⟨x.id, RR.1.1, RR.1.2, false, 0⟩ : Vx))), .inr (fun _ => fun v w' => w'.ownsRow w9.heap.size 61 3 v (RL).length (cellsE (RL)))] 14 0 ⟨trivial, trivial, trivial, trivial, trivial, trivial, fun _ _ _ => rfl, fun _ _ _ => rfl, fun _ _ _ => rfl, trivial, fun _ _ _ => rfl, fun _ _ _ => rfl, fun vs vs' h => by simp only [h 11 (by kernel_rfl)], fun _ _ _ => rfl, trivial⟩ mixed rfl (by kernel_rfl) hS (KF.refl _ _ _ _) (fun _ h => h.drew) ?_
      refine fun vs => ?_
      refine vs_is rfl (fun w' hw => runs_loadRow rfl (hw.other _ _ _ (by decide) hM3) Tryz.underlying26 rfl (by rw [sz26]; rfl)) ?_
      refine vs_is rfl (fun w' hw => runs_move rfl) ?_
      refine vs_is rfl (fun w' hw => runs_loadRow rfl (hM5.below hw.below (hM5.lt)) Tryz.underlying50 rfl (by rw [sz28]; rfl)) ?_
      refine vs_is rfl (fun w' hw => runs_loadRow rfl (hw.other _ _ _ (by decide) hM1) Tryz.underlying24 rfl (by rw [sz24]; rfl)) ?_
      refine vs_is rfl (fun w' hw => runs_fieldK fo28_0 rfl) ?_
      refine vs_is rfl (fun w' hw => runs_load rfl pl3 ((hM5.below hw.below (hM5.lt)).at rfl)) ?_
      refine vs_pr rfl (fun _ _ _ h hk => by obtain ⟨Bo, ho⟩ := h; exact ⟨Bo, ho.kf hk⟩) (fun w' hw hq => (runs_call (args := [gv n (.slice A es.length c), .int .i64 x.id]) goes54 rfl (rout2_any n x.id es _ w' (hE.kept hw.below) hc0)).mono (by rintro v w5 ⟨hb, ho⟩; exact ⟨ho, hw.more (Nat.le_refl _) hb, KF.of hb hw.below.size⟩)) (fun vo evo => ?_)
      refine vs_pr rfl (fun _ _ _ h hk => by obtain ⟨sv, h1, h2⟩ := h; exact ⟨sv, h1, hk.owns h2 (by decide)⟩) (fun w' hw hq => (by obtain ⟨Bo, ho⟩ := hq (6, _) List.mem_cons_self (by kernel_rfl); exact (runs_call (args := [.agg (jc tg src steps).toArray, .int .i64 at_, .agg (vc x).toArray, vo]) goes53 rfl (rplain_is hRR hRL (by have := outL_length hc0 x.id; omega) w' ho.edges hk0 (Bool.eq_false_iff.2 g1) (Bool.eq_false_iff.2 g2) (fun e he => outL_ok hc0 he) hs2 hs3 (by omega))).mono (by rintro v w5 ⟨hb, sv, h1, h2⟩; exact ⟨⟨sv, h1, owns_mono h2 hw.below.size⟩, hw.more (Nat.le_refl _) hb, KF.of hb hw.below.size⟩))) (fun vc1 evc1 => ?_)
      refine vs_pr rfl (fun _ _ _ h hk => by obtain ⟨sv, h1, h2⟩ := h; exact ⟨sv, h1, hk.owns h2 (by decide)⟩) (fun w' hw hq => (by obtain ⟨sv, rfl, h2⟩ := hq (7, _) List.mem_cons_self (by kernel_rfl); exact (runs_move rfl).mono (by rintro v w5 ⟨rfl, rfl⟩; exact ⟨⟨sv, rfl, h2⟩, hw, KF.refl _ _ _ _⟩))) (fun vc2 evc2 => ?_)
      refine vs_val rfl (fun w' hw hq => (by obtain ⟨sv, rfl, _⟩ := hq (8, _) List.mem_cons_self (by kernel_rfl); exact (runs_extract rfl rfl).mono (by rintro v w5 ⟨rfl, rfl⟩; exact ⟨rfl, hw, KF.refl _ _ _ _⟩))) ?_
      refine vs_pr rfl (fun _ _ _ h hk => hk.owns h (by decide)) (fun w' hw hq => (by obtain ⟨sv, rfl, h2⟩ := hq (8, _) List.mem_cons_self (by kernel_rfl); exact (runs_extract rfl rfl).mono (by rintro v w5 ⟨rfl, rfl⟩; exact ⟨h2, hw, KF.refl _ _ _ _⟩))) (fun sl esl => ?_)
      refine vs_pr rfl (fun _ _ _ h hk => by obtain ⟨g, h1, h2, cs, h3, h4⟩ := h; obtain ⟨cs', h5, h6⟩ := hk.len _ _ h4; exact ⟨g, h1, h2, cs', h5.trans h3, h6⟩) (fun w' hw hq => (runs_allocB (cs := [.int .i64 0, .int .i64 0, .bool false, .bool false, .int .i64 0]) zo28 rfl).mono (by rintro v w5 ⟨rfl, h2, h3⟩; exact ⟨⟨_, rfl, hw.below.size, _, rfl, h2⟩, hw.more (Nat.le_refl _) h3, KF.of h3 hw.below.size⟩)) (fun va eva => ?_)
      refine vs_none rfl (fun w1 w2 h hk => by obtain ⟨g, h1, h2, h3⟩ := h; exact ⟨g, h1, h2, hk.fin _ h3⟩) (fun w' hw hq => (by obtain ⟨g, rfl, hBg, cs, hcs, hg⟩ := hq (11, _) List.mem_cons_self (by kernel_rfl); exact (runs_storeB (cs := vc (⟨x.id, RR.1.1, RR.1.2, false, 0⟩ : Vx)) rfl rfl hg (hcs.trans rfl) rfl sz28).mono (by rintro v w2 ⟨h1, h2⟩; have hk := KF.store (F := vc (⟨x.id, RR.1.1, RR.1.2, false, 0⟩ : Vx)) hg hBg (hcs.trans rfl) h1 h2; exact ⟨⟨g, eva, hBg, h1⟩, hw.trans hk, hk⟩))) (fun _ _ => ?_)
      refine vs_pr rfl (fun _ _ _ h hk => hk.owns h (by decide)) (fun w' hw hq => (by have h2 := hq (10, _) (List.mem_cons_of_mem _ (List.mem_cons_of_mem _ List.mem_cons_self)) (by kernel_rfl); exact (runs_assign rfl).mono (by rintro v w5 ⟨rfl, rfl⟩; exact ⟨h2, hw, KF.refl _ _ _ _⟩))) (fun sm esm => ?_)
      refine (fun a29 w29 hS hK29 hq => ?_)
      obtain ⟨gs, hgs, hgBs, hYs⟩ := (hq (12, _) (List.mem_cons_of_mem _ List.mem_cons_self))
      rw [eva] at hgs
      subst hgs
      have hOwn := (hq (13, _) List.mem_cons_self)
      clear hq
      have hB := hB.trans (hK29.below.mono (hB.size))
      have hM5 := hM5.below hK29.below (hM5.lt)
      have hM7 := hM7.below hK29.below (hM7.lt)
      have hNYshM7 : gs ≠ w5.heap.size := by omega
      obtain ⟨A2, c2, hsm, hc21, hc22, _⟩ := edges_ownE hOwn rfl
      unfold maxLen at hc22
      subst hsm
      refine wpAnyH_done (by kernel_rfl) ?_ _
      refine qx_seq (reg_seq ?_)
      refine sI hS (runs_fieldK fo28_1 rfl) fun _ hS => ?_
      refine sI hS (runs_load rfl pl2 (hYs.at rfl)) fun _ hS => ?_
      refine sI hS (runs_call (args := [.int .i64 RR.1.1]) goes52 rfl (rgreat_any RR.1.1 w29)) fun _ hS => ?_
      refine sI hS (runs_assign rfl) fun _ hS => ?_
      refine nil_ok (qx_seq (qx_seq (reg_seq ?_)))
      refine sI hS (runs_assign rfl) fun _ hS => ?_
      refine nil_ok (?_)
      have hBo1 := hB
      refine qx_for (fun mm a w' => ∃ (i : Nat) (t : Bool), i ≤ RL.length ∧ mm = RL.length - i ∧ Below w29.heap.size w29 w' ∧ t = (great RR.1.1 || (RL.take i).any (fun m => great m.2.2)) ∧ Sees 93 [(14, .int .i64 (i : Int)), (13, .bool t), (12, .slice A2 RL.length c2), (11, .pointer (some ⟨gs, 0, none⟩)), (10, .int .i64 0), (9, .slice none 0 0), (8, .pointer (some ⟨w5.heap.size, 0, none⟩))] a) RL.length ⟨0, great RR.1.1, by omega, by omega, Below.refl _ _, by simp, hS.only _ ⟨rfl, rfl, rfl, rfl, rfl, rfl, rfl, trivial⟩⟩ ?_
      clear hS
      rintro mm a wl1 ⟨i, t, hi1, rfl, hBl1, ht, hS⟩
      have hM5 := hM5.below hBl1 hM5.lt
      have hM7 := hM7.below hBl1 hM7.lt
      have hYs := hYs.below hBl1 hYs.lt
      have hOwn := owns_kept hOwn hBl1
      have hB := Below.refl wl1.heap.size wl1
      refine reg_seq ?_
      refine sI hS (runs_move rfl) fun _ hS => ?_
      refine sI hS (runs_move rfl) fun _ hS => ?_
      refine sI hS (runs_len rfl und32) fun _ hS => ?_
      by_cases hlt1 : i < RL.length
      · skip
        refine sI hS (lssT rfl rfl (by omega)) fun _ hS => ?_
        refine nil_ok ⟨_, hS.eval rfl, fun h => by simp at h, fun _ => ?_⟩
        obtain ⟨m, hmi⟩ : ∃ m, RL[i]? = some m := ⟨RL[i], by simp [hlt1]⟩
        obtain ⟨b, o, hAe, hbw, hr⟩ := edges_row (edges_ownE hOwn rfl) (by omega)
        have hre := edges_at hr hmi
        refine qx_seq (qx_block (?_))
        cases t with
        | false =>
          refine reg_seq ?_
          refine sI hS (runs_move rfl) fun _ hS => ?_
          refine sI hS (runs_move rfl) fun _ hS => ?_
          refine sY hS (runs_move rfl) fun _ hS => ?_
          refine sY hS (runs_move rfl) fun _ hS => ?_
          refine sY hS (runs_indexAddrG (j := i) (by rw [← hAe]; rfl) rfl und32 sz48 rfl hlt1) fun _ hS => ?_
          refine sY hS (runs_fieldK fo48_2 rfl) fun _ hS => ?_
          refine sY hS (runs_load rfl pl2 (hre 2 _ rfl)) fun _ hS => ?_
          by_cases gm : great m.2.2 = true
          · skip
            refine sY hS (runs_call (args := [.int .i64 m.2.2]) goes52 rfl (rgreat_is wl1 gm)) fun _ hS => ?_
            refine sI hS (runs_pick rfl rfl) fun _ hS => ?_
            refine sI hS (runs_assign rfl) fun _ hS => ?_
            refine nil_ok (reg_seq ?_)
            refine sI hS (runs_move rfl) fun _ hS => ?_
            refine sI hS (runs_add (r := ((i + 1 : Nat) : Int)) rfl rfl (by simp [IntKind.wrap, IntKind.bits, IntKind.signed]; omega)) fun _ hS => ?_
            refine sI hS (runs_assign rfl) fun _ hS => ?_
            exact nil_ok ⟨_, by omega, i + 1, true, by omega, rfl, hBl1.trans (hB.mono hBl1.size), by rw [any_take _ hmi, ← Bool.or_assoc, ← ht]; simp [gm], hS.only _ ⟨rfl, rfl, rfl, rfl, rfl, rfl, rfl, trivial⟩⟩
          refine sY hS (runs_call (args := [.int .i64 m.2.2]) goes52 rfl (rgreat_is wl1 (Bool.eq_false_iff.2 gm))) fun _ hS => ?_
          refine sI hS (runs_pick rfl rfl) fun _ hS => ?_
          refine sI hS (runs_assign rfl) fun _ hS => ?_
          refine nil_ok (reg_seq ?_)
          refine sI hS (runs_move rfl) fun _ hS => ?_
          refine sI hS (runs_add (r := ((i + 1 : Nat) : Int)) rfl rfl (by simp [IntKind.wrap, IntKind.bits, IntKind.signed]; omega)) fun _ hS => ?_
          refine sI hS (runs_assign rfl) fun _ hS => ?_
          exact nil_ok ⟨_, by omega, i + 1, false, by omega, rfl, hBl1.trans (hB.mono hBl1.size), by rw [any_take _ hmi, ← Bool.or_assoc, ← ht]; simp [gm], hS.only _ ⟨rfl, rfl, rfl, rfl, rfl, rfl, rfl, trivial⟩⟩
        | true =>
          refine reg_seq ?_
          refine sI hS (runs_move rfl) fun _ hS => ?_
          refine sI hS (runs_move rfl) fun _ hS => ?_
          refine sN hS fun _ hS => ?_
          refine sN hS fun _ hS => ?_
          refine sN hS fun _ hS => ?_
          refine sN hS fun _ hS => ?_
          refine sN hS fun _ hS => ?_
          refine sN hS fun _ hS => ?_
          refine sI hS (runs_pick rfl rfl) fun _ hS => ?_
          refine sI hS (runs_assign rfl) fun _ hS => ?_
          refine nil_ok (reg_seq ?_)
          refine sI hS (runs_move rfl) fun _ hS => ?_
          refine sI hS (runs_add (r := ((i + 1 : Nat) : Int)) rfl rfl (by simp [IntKind.wrap, IntKind.bits, IntKind.signed]; omega)) fun _ hS => ?_
          refine sI hS (runs_assign rfl) fun _ hS => ?_
          exact nil_ok ⟨_, by omega, i + 1, true, by omega, rfl, hBl1.trans (hB.mono hBl1.size), by rw [any_take _ hmi, ← Bool.or_assoc, ← ht]; simp, hS.only _ ⟨rfl, rfl, rfl, rfl, rfl, rfl, rfl, trivial⟩⟩
      refine sI hS (lssF rfl rfl (by omega)) fun _ hS => ?_
      obtain rfl : i = RL.length := by omega
      refine nil_ok ⟨_, hS.eval rfl, fun _ => ?_, fun h => by simp at h⟩
      have hB := hBo1.trans ((hBl1.trans (hB.mono hBl1.size)).mono hBo1.size)
      rw [List.take_length] at ht
      refine qx_seq (qx_seq (reg_seq ?_))
      by_cases gt : t = true
      · skip
        rw [gt] at hS
        refine sI hS (runs_move rfl) fun _ hS => ?_
        refine nil_ok (wp_cond_true (hS.eval rfl) (qx_seq (reg_seq ?_)))
        refine sI hS (runs_buildK (pv := []) (cells := #[.int .i64 0, .int .i64 0, .bool false, .bool false, .int .i64 0]) rfl (by kernel_rfl)) fun _ hS => ?_
        refine seq_none hS (runs_storeB (cs := [.int .i64 0, .int .i64 0, .bool false, .bool false, .int .i64 0]) rfl rfl hM7 rfl rfl sz28) (fun v31 w31 a1 hp hS => ?_)
        have hQ31 := hM7
        obtain ⟨hM7, hU31⟩ := hp
        have hB := But.new hB hU31 (fun i e => by rw [e]; exact hLhM7) (Nat.le_refl _)
        have hM5 := hM5.but hU31 (hNhM5hM7)
        have hYs := hYs.but hU31 (hNYshM7)
        have hOwn := owns_but hOwn hU31 (fun i old ho e => by subst e; exact has_ne ho hQ31 (by decide) rfl)
        refine sI hS (runs_assign rfl) fun _ hS => ?_
        refine sI hS (runs_assign rfl) fun _ hS => ?_
        have hm : mayB n es (kindL tg.data.toList) src steps at_ x = true := may_iff.2 ⟨r1, by omega, by omega, by omega, by omega⟩
        have htt : (great RR.1.1 || RL.any (fun m => great m.2.2)) = true := by rw [← ht]; exact gt
        have hfin : stepL n es (kindL tg.data.toList) src steps at_ x = (noVx, [], 71) := by unfold stepL; rw [if_neg (by rw [hm]; simp)]; rw [if_neg (by simp [g1, g2]), if_neg (by simp [q1, q2])]; dsimp only; rw [hRR, hRL, htt]; rfl
        exact nil_ok (qx_ret (retRow3 (p := 8) (t := 9) (r := 10) (ty := 50) (by kernel_rfl) hS rfl rfl rfl hM7 Tryz.underlying50 rfl (by rw [sz28]; rfl) ⟨_, rfl, hB, by rw [hfin]; exact ⟨_, rfl, ⟨rfl, .inl ⟨rfl, rfl⟩⟩⟩⟩))
      · skip
        rw [Bool.eq_false_iff.2 gt] at hS
        refine sI hS (runs_move rfl) fun _ hS => ?_
        refine nil_ok (wp_cond_false (hS.eval rfl) (wp_skip (qx_seq (reg_seq ?_))))
        refine sI hS (runs_loadRow rfl hYs Tryz.underlying50 rfl (by rw [sz28]; rfl)) fun _ hS => ?_
        refine sI hS (runs_move rfl) fun _ hS => ?_
        refine seq_none hS (runs_storeB (cs := vc (⟨x.id, RR.1.1, RR.1.2, false, 0⟩ : Vx)) rfl rfl hM7 rfl rfl sz28) (fun v33 w33 a1 hp hS => ?_)
        have hQ33 := hM7
        obtain ⟨hM7, hU33⟩ := hp
        have hB := But.new hB hU33 (fun i e => by rw [e]; exact hLhM7) (Nat.le_refl _)
        have hM5 := hM5.but hU33 (hNhM5hM7)
        have hOwn := owns_but hOwn hU33 (fun i old ho e => by subst e; exact has_ne ho hQ33 (by decide) rfl)
        refine sI hS (runs_assign rfl) fun _ hS => ?_
        refine sI hS (runs_assign rfl) fun _ hS => ?_
        have hm : mayB n es (kindL tg.data.toList) src steps at_ x = true := may_iff.2 ⟨r1, by omega, by omega, by omega, by omega⟩
        have htt : (great RR.1.1 || RL.any (fun m => great m.2.2)) = false := by rw [← ht]; exact Bool.eq_false_iff.2 gt
        have hfin : stepL n es (kindL tg.data.toList) src steps at_ x = ((⟨x.id, RR.1.1, RR.1.2, false, 0⟩ : Vx), RL, 0) := by unfold stepL; rw [if_neg (by rw [hm]; simp)]; rw [if_neg (by simp [g1, g2]), if_neg (by simp [q1, q2])]; dsimp only; rw [hRR, hRL, htt]; rfl
        exact nil_ok (qx_ret (retRow3 (p := 8) (t := 9) (r := 10) (ty := 50) (by kernel_rfl) hS rfl rfl rfl hM7 Tryz.underlying50 rfl (by rw [sz28]; rfl) ⟨_, rfl, hB, by rw [hfin]; exact ⟨_, rfl, owns_mono hOwn hW0⟩⟩))
    refine sY hS (runs_load rfl pl4 ((hM5.at rfl).trans (by rw [Bool.eq_false_iff.2 q2]))) fun _ hS => ?_
    refine sY hS (runs_not (b := false) rfl) fun _ hS => ?_
    refine sI hS (runs_pick rfl rfl) fun _ hS => ?_
    refine nil_ok (wp_cond_true (hS.eval rfl) (qx_seq (reg_seq ?_)))
    refine sI hS (runs_loadRow rfl hM5 Tryz.underlying50 rfl (by rw [sz28]; rfl)) fun _ hS => ?_
    refine seq_none hS (runs_storeB (cs := vc x) rfl rfl hM7 rfl rfl sz28) (fun v35 w35 a1 hp hS => ?_)
    obtain ⟨hM7, hU35⟩ := hp
    have hB := But.new hB hU35 (fun i e => by rw [e]; exact hLhM7) (Nat.le_refl _)
    refine sI hS (runs_assign rfl) fun _ hS => ?_
    refine sI hS (runs_assign rfl) fun _ hS => ?_
    have hm : mayB n es (kindL tg.data.toList) src steps at_ x = true := may_iff.2 ⟨r1, by omega, by omega, by omega, by omega⟩
    have hfin : stepL n es (kindL tg.data.toList) src steps at_ x = (x, [], 0) := by unfold stepL; rw [if_neg (by rw [hm]; simp)]; simp [g1, g2, q1, q2]
    exact nil_ok (qx_ret (retRow3 (p := 8) (t := 9) (r := 10) (ty := 50) (by kernel_rfl) hS rfl rfl rfl hM7 Tryz.underlying50 rfl (by rw [sz28]; rfl) ⟨_, rfl, hB, by rw [hfin]; exact ⟨_, rfl, ⟨rfl, .inl ⟨rfl, rfl⟩⟩⟩⟩))
  · skip
    rw [Bool.eq_false_iff.2 r1] at hS
    refine sI hS (runs_not (b := false) rfl) fun _ hS => ?_
    refine sI hS (runs_move rfl) fun _ hS => ?_
    refine sN hS fun _ hS => ?_
    refine sN hS fun _ hS => ?_
    refine sN hS fun _ hS => ?_
    refine sI hS (runs_pick rfl rfl) fun _ hS => ?_
    refine sI hS (runs_move rfl) fun _ hS => ?_
    refine sN hS fun _ hS => ?_
    refine sN hS fun _ hS => ?_
    refine sN hS fun _ hS => ?_
    refine sN hS fun _ hS => ?_
    refine sN hS fun _ hS => ?_
    refine sI hS (runs_pick rfl rfl) fun _ hS => ?_
    refine sI hS (runs_move rfl) fun _ hS => ?_
    refine sN hS fun _ hS => ?_
    refine sN hS fun _ hS => ?_
    refine sI hS (runs_pick rfl rfl) fun _ hS => ?_
    refine sI hS (runs_move rfl) fun _ hS => ?_
    refine sN hS fun _ hS => ?_
    refine sN hS fun _ hS => ?_
    refine sN hS fun _ hS => ?_
    refine sN hS fun _ hS => ?_
    refine sI hS (runs_pick rfl rfl) fun _ hS => ?_
    refine nil_ok (wp_cond_true (hS.eval rfl) (qx_seq (reg_seq ?_)))
    refine sI hS (runs_buildK (pv := []) (cells := #[.int .i64 0, .int .i64 0, .bool false, .bool false, .int .i64 0]) rfl (by kernel_rfl)) fun _ hS => ?_
    refine seq_none hS (runs_storeB (cs := [.int .i64 0, .int .i64 0, .bool false, .bool false, .int .i64 0]) rfl rfl hM7 rfl rfl sz28) (fun v37 w37 a1 hp hS => ?_)
    obtain ⟨hM7, hU37⟩ := hp
    have hB := But.new hB hU37 (fun i e => by rw [e]; exact hLhM7) (Nat.le_refl _)
    refine sI hS (runs_assign rfl) fun _ hS => ?_
    refine sI hS (runs_assign rfl) fun _ hS => ?_
    have hm : mayB n es (kindL tg.data.toList) src steps at_ x = false := by rw [Bool.eq_false_iff]; intro h; rw [may_iff] at h; first | exact r1 h.1 | omega
    have hfin : stepL n es (kindL tg.data.toList) src steps at_ x = (noVx, [], 70) := by unfold stepL; rw [if_pos hm]
    exact nil_ok (qx_ret (retRow3 (p := 8) (t := 9) (r := 10) (ty := 50) (by kernel_rfl) hS rfl rfl rfl hM7 Tryz.underlying50 rfl (by rw [sz28]; rfl) ⟨_, rfl, hB, by rw [hfin]; exact ⟨_, rfl, ⟨rfl, .inl ⟨rfl, rfl⟩⟩⟩⟩))
end Go.Proofs.YtapcpmalgdhakaaGreat
