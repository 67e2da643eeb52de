/- The document's Right, and what is sent to all. Conditions: none of our own. -/
import Derived.Test.YtfceckdhoaabnaaSStep
import Derived.Test.YtfceckdhoaabnaaRCheck
import Derived.Test.YtfceckdhoaabnaaROut
import Derived.Test.YtfceckdhoaabnaaEngW
import Derived.Test.YtfceckdhoaabnaaSFactsB
namespace Go.Proofs.Ytfceckdhoaabnaa
open Go.RowKit
set_option maxRecDepth 100000

set_option maxHeartbeats 1000000 in
theorem right_any (n : Int) (es : List E) (v : Value) (tg : ByteArray) (src steps : Int) (w : World) (hE : Edges w v es) :
    Ans 11 [gv n v, jv tg src steps] w (fun u w' => u = .bool (jobB n es (kindL tg.data.toList) src steps) ∧ Below w.heap.size w w') := by
  refine calls_qx (args := [gv n (v), .agg (jc tg src steps).toArray]) 35 Try.func11 rfl (by kernel_rfl) (by simp) (fun a hS => ?_)
  have hB := Below.refl w.heap.size w
  have hEb := hE
  refine qx_seq (reg_seq ?_)
  refine seq_op hS (by decide) (runs_boxB (cs := [.int .i64 n, v]) rfl rfl) (fun v1 w1 a1 hp hS => ?_)
  obtain ⟨rfl, hM1, hB1⟩ := hp
  have hB := hB.trans (hB1.mono hB.size)
  have hE := hEb.kept hB
  refine seq_op hS (by decide) (runs_boxB (cs := jc tg src steps) rfl rfl) (fun v3 w3 a1 hp hS => ?_)
  obtain ⟨rfl, hM3, hB3⟩ := hp
  have hB := hB.trans (hB3.mono hB.size)
  have hM1 := hM1.below hB3 hM1.lt
  have hE := hEb.kept hB
  refine seq_is hS (by decide) (runs_assign rfl) (fun a1 hS => ?_)
  refine nil_ok (qx_seq (reg_seq ?_))
  refine seq_is hS (by decide) (runs_loadRow rfl hM1 Try.underlying24 rfl (by rw [sz24]; rfl)) (fun a1 hS => ?_)
  refine seq_op hS (by decide) (runs_call (args := [gv n v]) goes23 rfl (rcheck_any n es v w3 hE)) (fun v5 w5 a1 hp hS => ?_)
  obtain ⟨rfl, hB5⟩ := hp
  have hB := hB.trans (hB5.mono hB.size)
  have hM1 := hM1.below hB5 hM1.lt
  have hM3 := hM3.below hB5 hM3.lt
  by_cases h1 : checkZ n es = 0
  · skip
    refine seq_is hS (by decide) (runs_eql (r := true) rfl rfl (by simpa using h1)) (fun a1 hS => ?_)
    refine seq_is hS (by decide) (runs_move rfl) (fun a1 hS => ?_)
    refine seq_yis hS (by decide) rfl (by decide) rfl (runs_fieldK fo26_0 rfl) (fun a1 hS => ?_)
    refine seq_yis hS (by decide) rfl (by decide) rfl (runs_load rfl pl9 (hM3.at rfl)) (fun a1 hS => ?_)
    by_cases h2 : kindL tg.data.toList ≠ 0
    · skip
      refine seq_yis hS (by decide) rfl (by decide) rfl (runs_call (args := [.string tg]) goes20 rfl (rknown_is _ w5 (b := true) (by simpa using h2))) (fun a1 hS => ?_)
      refine seq_is hS (by decide) (runs_pick rfl rfl) (fun a1 hS => ?_)
      refine seq_is hS (by decide) (runs_move rfl) (fun a1 hS => ?_)
      refine seq_yis hS (by decide) rfl (by decide) rfl (runs_fieldK fo26_1 rfl) (fun a1 hS => ?_)
      refine seq_yis hS (by decide) rfl (by decide) rfl (runs_load rfl pl3 (hM3.at rfl)) (fun a1 hS => ?_)
      by_cases h3 : src ≥ 0
      · skip
        refine seq_yis hS (by decide) rfl (by decide) rfl (runs_geq (r := true) rfl rfl (by rw [decide_eq_true_eq]; omega)) (fun a1 hS => ?_)
        refine seq_is hS (by decide) (runs_pick rfl rfl) (fun a1 hS => ?_)
        refine seq_is hS (by decide) (runs_move rfl) (fun a1 hS => ?_)
        refine seq_yis hS (by decide) rfl (by decide) rfl (runs_fieldK fo26_1 rfl) (fun a1 hS => ?_)
        refine seq_yis hS (by decide) rfl (by decide) rfl (runs_load rfl pl3 (hM3.at rfl)) (fun a1 hS => ?_)
        refine seq_yis hS (by decide) rfl (by decide) rfl (runs_fieldK fo24_0 rfl) (fun a1 hS => ?_)
        refine seq_yis hS (by decide) rfl (by decide) rfl (runs_load rfl pl3 (hM1.at rfl)) (fun a1 hS => ?_)
        by_cases h4 : src < n
        · skip
          refine seq_yis hS (by decide) rfl (by decide) rfl (runs_lss (r := true) rfl rfl (by rw [decide_eq_true_eq]; omega)) (fun a1 hS => ?_)
          refine seq_is hS (by decide) (runs_pick rfl rfl) (fun a1 hS => ?_)
          refine seq_is hS (by decide) (runs_move rfl) (fun a1 hS => ?_)
          refine seq_yis hS (by decide) rfl (by decide) rfl (runs_fieldK fo26_2 rfl) (fun a1 hS => ?_)
          refine seq_yis hS (by decide) rfl (by decide) rfl (runs_load rfl pl3 (hM3.at rfl)) (fun a1 hS => ?_)
          by_cases h5 : steps ≥ 1
          · skip
            refine seq_yis hS (by decide) rfl (by decide) rfl (runs_geq (r := true) rfl rfl (by rw [decide_eq_true_eq]; omega)) (fun a1 hS => ?_)
            refine seq_is hS (by decide) (runs_pick rfl rfl) (fun a1 hS => ?_)
            refine seq_is hS (by decide) (runs_move rfl) (fun a1 hS => ?_)
            refine seq_yis hS (by decide) rfl (by decide) rfl (runs_fieldK fo26_2 rfl) (fun a1 hS => ?_)
            refine seq_yis hS (by decide) rfl (by decide) rfl (runs_load rfl pl3 (hM3.at rfl)) (fun a1 hS => ?_)
            by_cases h6 : steps ≤ 64
            · skip
              refine seq_yis hS (by decide) rfl (by decide) rfl (runs_leq (r := true) rfl rfl (by rw [decide_eq_true_eq]; omega)) (fun a1 hS => ?_)
              refine seq_is hS (by decide) (runs_pick rfl rfl) (fun a1 hS => ?_)
              refine seq_is hS (by decide) (runs_assign rfl) (fun a1 hS => ?_)
              exact nil_ok (qx_ret (ret1 (t := 4) (by kernel_rfl) hS rfl ⟨_, rfl, by first | rw [job_iff.2 (by omega)] | rw [show jobB n es (kindL tg.data.toList) src steps = false from Bool.eq_false_iff.2 (fun h => by have := job_iff.1 h; omega)], hB⟩))
            · skip
              refine seq_yis hS (by decide) rfl (by decide) rfl (runs_leq (r := false) rfl rfl (by rw [decide_eq_false_iff_not]; omega)) (fun a1 hS => ?_)
              refine seq_is hS (by decide) (runs_pick rfl rfl) (fun a1 hS => ?_)
              refine seq_is hS (by decide) (runs_assign rfl) (fun a1 hS => ?_)
              exact nil_ok (qx_ret (ret1 (t := 4) (by kernel_rfl) hS rfl ⟨_, rfl, by first | rw [job_iff.2 (by omega)] | rw [show jobB n es (kindL tg.data.toList) src steps = false from Bool.eq_false_iff.2 (fun h => by have := job_iff.1 h; omega)], hB⟩))
          · skip
            refine seq_yis hS (by decide) rfl (by decide) rfl (runs_geq (r := false) rfl rfl (by rw [decide_eq_false_iff_not]; omega)) (fun a1 hS => ?_)
            refine seq_is hS (by decide) (runs_pick rfl rfl) (fun a1 hS => ?_)
            refine seq_is hS (by decide) (runs_move rfl) (fun a1 hS => ?_)
            refine seq_no hS (by decide) rfl (by decide) rfl rfl (fun a1 hS => ?_)
            refine seq_no hS (by decide) rfl (by decide) rfl rfl (fun a1 hS => ?_)
            refine seq_no hS (by decide) rfl (by decide) rfl rfl (fun a1 hS => ?_)
            refine seq_is hS (by decide) (runs_pick rfl rfl) (fun a1 hS => ?_)
            refine seq_is hS (by decide) (runs_assign rfl) (fun a1 hS => ?_)
            exact nil_ok (qx_ret (ret1 (t := 4) (by kernel_rfl) hS rfl ⟨_, rfl, by first | rw [job_iff.2 (by omega)] | rw [show jobB n es (kindL tg.data.toList) src steps = false from Bool.eq_false_iff.2 (fun h => by have := job_iff.1 h; omega)], hB⟩))
        · skip
          refine seq_yis hS (by decide) rfl (by decide) rfl (runs_lss (r := false) rfl rfl (by rw [decide_eq_false_iff_not]; omega)) (fun a1 hS => ?_)
          refine seq_is hS (by decide) (runs_pick rfl rfl) (fun a1 hS => ?_)
          refine seq_is hS (by decide) (runs_move rfl) (fun a1 hS => ?_)
          refine seq_no hS (by decide) rfl (by decide) rfl rfl (fun a1 hS => ?_)
          refine seq_no hS (by decide) rfl (by decide) rfl rfl (fun a1 hS => ?_)
          refine seq_no hS (by decide) rfl (by decide) rfl rfl (fun a1 hS => ?_)
          refine seq_is hS (by decide) (runs_pick rfl rfl) (fun a1 hS => ?_)
          refine seq_is hS (by decide) (runs_move rfl) (fun a1 hS => ?_)
          refine seq_no hS (by decide) rfl (by decide) rfl rfl (fun a1 hS => ?_)
          refine seq_no hS (by decide) rfl (by decide) rfl rfl (fun a1 hS => ?_)
          refine seq_no hS (by decide) rfl (by decide) rfl rfl (fun a1 hS => ?_)
          refine seq_is hS (by decide) (runs_pick rfl rfl) (fun a1 hS => ?_)
          refine seq_is hS (by decide) (runs_assign rfl) (fun a1 hS => ?_)
          exact nil_ok (qx_ret (ret1 (t := 4) (by kernel_rfl) hS rfl ⟨_, rfl, by first | rw [job_iff.2 (by omega)] | rw [show jobB n es (kindL tg.data.toList) src steps = false from Bool.eq_false_iff.2 (fun h => by have := job_iff.1 h; omega)], hB⟩))
      · skip
        refine seq_yis hS (by decide) rfl (by decide) rfl (runs_geq (r := false) rfl rfl (by rw [decide_eq_false_iff_not]; omega)) (fun a1 hS => ?_)
        refine seq_is hS (by decide) (runs_pick rfl rfl) (fun a1 hS => ?_)
        refine seq_is hS (by decide) (runs_move rfl) (fun a1 hS => ?_)
        refine seq_no hS (by decide) rfl (by decide) rfl rfl (fun a1 hS => ?_)
        refine seq_no hS (by decide) rfl (by decide) rfl rfl (fun a1 hS => ?_)
        refine seq_no hS (by decide) rfl (by decide) rfl rfl (fun a1 hS => ?_)
        refine seq_no hS (by decide) rfl (by decide) rfl rfl (fun a1 hS => ?_)
        refine seq_no hS (by decide) rfl (by decide) rfl rfl (fun a1 hS => ?_)
        refine seq_is hS (by decide) (runs_pick rfl rfl) (fun a1 hS => ?_)
        refine seq_is hS (by decide) (runs_move rfl) (fun a1 hS => ?_)
        refine seq_no hS (by decide) rfl (by decide) rfl rfl (fun a1 hS => ?_)
        refine seq_no hS (by decide) rfl (by decide) rfl rfl (fun a1 hS => ?_)
        refine seq_no hS (by decide) rfl (by decide) rfl rfl (fun a1 hS => ?_)
        refine seq_is hS (by decide) (runs_pick rfl rfl) (fun a1 hS => ?_)
        refine seq_is hS (by decide) (runs_move rfl) (fun a1 hS => ?_)
        refine seq_no hS (by decide) rfl (by decide) rfl rfl (fun a1 hS => ?_)
        refine seq_no hS (by decide) rfl (by decide) rfl rfl (fun a1 hS => ?_)
        refine seq_no hS (by decide) rfl (by decide) rfl rfl (fun a1 hS => ?_)
        refine seq_is hS (by decide) (runs_pick rfl rfl) (fun a1 hS => ?_)
        refine seq_is hS (by decide) (runs_assign rfl) (fun a1 hS => ?_)
        exact nil_ok (qx_ret (ret1 (t := 4) (by kernel_rfl) hS rfl ⟨_, rfl, by first | rw [job_iff.2 (by omega)] | rw [show jobB n es (kindL tg.data.toList) src steps = false from Bool.eq_false_iff.2 (fun h => by have := job_iff.1 h; omega)], hB⟩))
    · skip
      refine seq_yis hS (by decide) rfl (by decide) rfl (runs_call (args := [.string tg]) goes20 rfl (rknown_is _ w5 (b := false) (by simpa using h2))) (fun a1 hS => ?_)
      refine seq_is hS (by decide) (runs_pick rfl rfl) (fun a1 hS => ?_)
      refine seq_is hS (by decide) (runs_move rfl) (fun a1 hS => ?_)
      refine seq_no hS (by decide) rfl (by decide) rfl rfl (fun a1 hS => ?_)
      refine seq_no hS (by decide) rfl (by decide) rfl rfl (fun a1 hS => ?_)
      refine seq_no hS (by decide) rfl (by decide) rfl rfl (fun a1 hS => ?_)
      refine seq_is hS (by decide) (runs_pick rfl rfl) (fun a1 hS => ?_)
      refine seq_is hS (by decide) (runs_move rfl) (fun a1 hS => ?_)
      refine seq_no hS (by decide) rfl (by decide) rfl rfl (fun a1 hS => ?_)
      refine seq_no hS (by decide) rfl (by decide) rfl rfl (fun a1 hS => ?_)
      refine seq_no hS (by decide) rfl (by decide) rfl rfl (fun a1 hS => ?_)
      refine seq_no hS (by decide) rfl (by decide) rfl rfl (fun a1 hS => ?_)
      refine seq_no hS (by decide) rfl (by decide) rfl rfl (fun a1 hS => ?_)
      refine seq_is hS (by decide) (runs_pick rfl rfl) (fun a1 hS => ?_)
      refine seq_is hS (by decide) (runs_move rfl) (fun a1 hS => ?_)
      refine seq_no hS (by decide) rfl (by decide) rfl rfl (fun a1 hS => ?_)
      refine seq_no hS (by decide) rfl (by decide) rfl rfl (fun a1 hS => ?_)
      refine seq_no hS (by decide) rfl (by decide) rfl rfl (fun a1 hS => ?_)
      refine seq_is hS (by decide) (runs_pick rfl rfl) (fun a1 hS => ?_)
      refine seq_is hS (by decide) (runs_move rfl) (fun a1 hS => ?_)
      refine seq_no hS (by decide) rfl (by decide) rfl rfl (fun a1 hS => ?_)
      refine seq_no hS (by decide) rfl (by decide) rfl rfl (fun a1 hS => ?_)
      refine seq_no hS (by decide) rfl (by decide) rfl rfl (fun a1 hS => ?_)
      refine seq_is hS (by decide) (runs_pick rfl rfl) (fun a1 hS => ?_)
      refine seq_is hS (by decide) (runs_assign rfl) (fun a1 hS => ?_)
      exact nil_ok (qx_ret (ret1 (t := 4) (by kernel_rfl) hS rfl ⟨_, rfl, by first | rw [job_iff.2 (by omega)] | rw [show jobB n es (kindL tg.data.toList) src steps = false from Bool.eq_false_iff.2 (fun h => by have := job_iff.1 h; omega)], hB⟩))
  · skip
    refine seq_is hS (by decide) (runs_eql (r := false) rfl rfl (by simpa using h1)) (fun a1 hS => ?_)
    refine seq_is hS (by decide) (runs_move rfl) (fun a1 hS => ?_)
    refine seq_no hS (by decide) rfl (by decide) rfl rfl (fun a1 hS => ?_)
    refine seq_no hS (by decide) rfl (by decide) rfl rfl (fun a1 hS => ?_)
    refine seq_no hS (by decide) rfl (by decide) rfl rfl (fun a1 hS => ?_)
    refine seq_is hS (by decide) (runs_pick rfl rfl) (fun a1 hS => ?_)
    refine seq_is hS (by decide) (runs_move rfl) (fun a1 hS => ?_)
    refine seq_no hS (by decide) rfl (by decide) rfl rfl (fun a1 hS => ?_)
    refine seq_no hS (by decide) rfl (by decide) rfl rfl (fun a1 hS => ?_)
    refine seq_no hS (by decide) rfl (by decide) rfl rfl (fun a1 hS => ?_)
    refine seq_is hS (by decide) (runs_pick rfl rfl) (fun a1 hS => ?_)
    refine seq_is hS (by decide) (runs_move rfl) (fun a1 hS => ?_)
    refine seq_no hS (by decide) rfl (by decide) rfl rfl (fun a1 hS => ?_)
    refine seq_no hS (by decide) rfl (by decide) rfl rfl (fun a1 hS => ?_)
    refine seq_no hS (by decide) rfl (by decide) rfl rfl (fun a1 hS => ?_)
    refine seq_no hS (by decide) rfl (by decide) rfl rfl (fun a1 hS => ?_)
    refine seq_no hS (by decide) rfl (by decide) rfl rfl (fun a1 hS => ?_)
    refine seq_is hS (by decide) (runs_pick rfl rfl) (fun a1 hS => ?_)
    refine seq_is hS (by decide) (runs_move rfl) (fun a1 hS => ?_)
    refine seq_no hS (by decide) rfl (by decide) rfl rfl (fun a1 hS => ?_)
    refine seq_no hS (by decide) rfl (by decide) rfl rfl (fun a1 hS => ?_)
    refine seq_no hS (by decide) rfl (by decide) rfl rfl (fun a1 hS => ?_)
    refine seq_is hS (by decide) (runs_pick rfl rfl) (fun a1 hS => ?_)
    refine seq_is hS (by decide) (runs_move rfl) (fun a1 hS => ?_)
    refine seq_no hS (by decide) rfl (by decide) rfl rfl (fun a1 hS => ?_)
    refine seq_no hS (by decide) rfl (by decide) rfl rfl (fun a1 hS => ?_)
    refine seq_no hS (by decide) rfl (by decide) rfl rfl (fun a1 hS => ?_)
    refine seq_is hS (by decide) (runs_pick rfl rfl) (fun a1 hS => ?_)
    refine seq_is hS (by decide) (runs_assign rfl) (fun a1 hS => ?_)
    exact nil_ok (qx_ret (ret1 (t := 4) (by kernel_rfl) hS rfl ⟨_, rfl, by first | rw [job_iff.2 (by omega)] | rw [show jobB n es (kindL tg.data.toList) src steps = false from Bool.eq_false_iff.2 (fun h => by have := job_iff.1 h; omega)], hB⟩))
theorem owns_emptyM {w : World} {g B : Nat} (h : w.heap[g]? = some (.cells #[] 48 (0, 0))) (hB : B ≤ g) : w.ownsRow B 48 3 (.slice (some ⟨g, 0, none⟩) 0 0) 0 [] :=
  ⟨rfl, .inr ⟨g, 0, #[], rfl, hB, h, Nat.le_refl _, by unfold maxLen; omega, rfl, rfl⟩⟩
theorem none_ownM {L : List (Nat × Value)} {w : World} {ty : TypeId} {B : Nat} (hB : B ≤ w.heap.size) : Runs Try.prog (.buildSlice 32 0 #[]) ty L w (fun v w' => w'.ownsRow B 48 3 v 0 [] ∧ Below w.heap.size w w') := by
  obtain ⟨i48, hi48, hz48, hs48, hb48⟩ := info_parts inf48
  exact (runs_buildNone und32 hi48).mono (by rintro v w3 ⟨rfl, rfl⟩; exact ⟨owns_emptyM (heap_alloc_new _ _) hB, (Below.refl _ _).alloc (Nat.le_refl _) _⟩)
def allF (val count : Int) (x : Int) : Int := if count = 1 then val + 1 else if count = 2 then val + x else val
set_option maxHeartbeats 1000000 in
theorem rall_any (l : List E) (hsm : l.length ≤ 600) (v : Value) (val count : Int) (w : World) (hE : Edges w v l) (hv1 : -2000000000000000 ≤ val) (hv2 : val ≤ 2000000000000000) (hlw : ∀ e ∈ l, 0 ≤ e.2.2 ∧ e.2.2 ≤ 1048576) :
    Ans 39 [v, .int .i64 val, .int .i64 count] w (fun u w' => Below w.heap.size w w' ∧ w'.ownsRow w.heap.size 48 3 u (sendTo l (allF val count)).length (cellsE (sendTo l (allF val count)))) := by
  obtain ⟨A, c, rfl, h1, h2, hA⟩ := hE
  have hE : Edges w (.slice A l.length c) l := ⟨A, c, rfl, h1, h2, hA⟩
  refine calls_qx (args := [.slice A l.length c, .int .i64 val, .int .i64 count]) 51 Try.func39 rfl (by kernel_rfl) (by simp) (fun a hS => ?_)
  have hB := Below.refl w.heap.size w
  have hEb := hE
  refine qx_seq (reg_seq ?_)
  refine seq_is hS (by decide) (runs_assign rfl) (fun a1 hS => ?_)
  refine nil_ok (qx_seq (reg_seq ?_))
  refine seq_op hS (by decide) (none_ownM (B := w.heap.size) (Nat.le_refl _)) (fun v1 w1 a1 hp hS => ?_)
  obtain ⟨hown, hB1⟩ := hp
  have hB := hB.trans (hB1.mono hB.size)
  have hE := hEb.kept hB
  refine seq_is hS (by decide) (runs_assign rfl) (fun a1 hS => ?_)
  refine nil_ok (qx_seq (qx_seq (reg_seq ?_)))
  refine seq_is hS (by decide) (runs_assign rfl) (fun a1 hS => ?_)
  refine nil_ok (?_)
  refine qx_for (fun mm a w' => ∃ (i : Nat) (sv : Value), i ≤ l.length ∧ mm = l.length - i ∧ Below w.heap.size w w' ∧ w'.ownsRow w.heap.size 48 3 sv (sendTo (l.take i) (allF val count)).length (cellsE (sendTo (l.take i) (allF val count))) ∧ Sees 51 [(8, .int .i64 (i : Int)), (7, sv), (2, .int .i64 count), (1, .int .i64 val), (0, .slice A l.length c)] a) l.length ⟨0, _, by omega, by omega, hB, hown, hS.only _ ⟨rfl, rfl, rfl, rfl, rfl, trivial⟩⟩ ?_
  clear hS hown
  rintro mm a wl1 ⟨i, sv, hi, rfl, hBb, hown, hS⟩
  have hE := hEb.kept hBb
  have hB := Below.refl wl1.heap.size wl1
  refine reg_seq ?_
  refine seq_is hS (by decide) (runs_move rfl) (fun a1 hS => ?_)
  refine seq_is hS (by decide) (runs_move rfl) (fun a1 hS => ?_)
  refine seq_is hS (by decide) (runs_len rfl und22) (fun a1 hS => ?_)
  by_cases hlt1 : i < l.length
  · skip
    refine seq_is hS (by decide) (runs_lss (r := true) rfl rfl (by rw [decide_eq_true_eq]; omega)) (fun a1 hS => ?_)
    refine nil_ok ⟨_, hS.eval rfl, fun h => by simp at h, fun _ => ?_⟩
    obtain ⟨e, hei⟩ : ∃ e, l[i]? = some e := ⟨l[i], by simp [hlt1]⟩
    obtain ⟨b, o, hAe, hbw, hr⟩ := edges_row hE (by omega)
    have hre := edges_at hr hei
    have hmem := List.mem_of_getElem? hei
    have hwe := hlw e hmem
    have hownb := hown
    refine qx_seq (qx_block (qx_seq (reg_guard (fun w' => Below wl1.heap.size wl1 w') [.inl (.slice A l.length c), .inl (.int .i64 (i : Int)), .inl (.pointer (some ⟨b, o + i * 3, none⟩)), .inl (.pointer (some ⟨b, o + i * 3 + 0, none⟩)), .inl (.int .i64 e.1), .inl (.slice A l.length c), .inl (.int .i64 (i : Int)), .inl (.pointer (some ⟨b, o + i * 3, none⟩)), .inl (.pointer (some ⟨b, o + i * 3 + 1, none⟩)), .inl (.int .i64 e.2.1), .inl (.int .i64 val), .inl (.agg #[.int .i64 e.1, .int .i64 e.2.1, .int .i64 val]), .inr (fun v w' => ∃ g, v = .pointer (some ⟨g, 0, none⟩) ∧ wl1.heap.size ≤ g ∧ Has w' g 48 [.int .i64 0, .int .i64 0, .int .i64 0])] 13 1 mixed rfl (by kernel_rfl) hS (Below.refl _ _) (fun _ h => h.drew) ?_)))
    refine hs_is rfl (fun w' hw => runs_move rfl) ?_
    refine hs_is rfl (fun w' hw => runs_move rfl) ?_
    refine hs_is rfl (fun w' hw => runs_indexAddrG (j := i) (by rw [← hAe]; rfl) rfl und22 siz45 rfl hlt1) ?_
    refine hs_is rfl (fun w' hw => runs_fieldK fo46_0 rfl) ?_
    refine hs_is rfl (fun w' hw => runs_load rfl pl3 (range_below hre hw hbw 0 _ rfl)) ?_
    refine hs_is rfl (fun w' hw => runs_move rfl) ?_
    refine hs_is rfl (fun w' hw => runs_move rfl) ?_
    refine hs_is rfl (fun w' hw => runs_indexAddrG (j := i) (by rw [← hAe]; rfl) rfl und22 siz45 rfl hlt1) ?_
    refine hs_is rfl (fun w' hw => runs_fieldK fo46_1 rfl) ?_
    refine hs_is rfl (fun w' hw => runs_load rfl pl3 (range_below hre hw hbw 1 _ rfl)) ?_
    refine hs_is rfl (fun w' hw => runs_move rfl) ?_
    refine hs_is rfl (fun w' hw => runs_buildK (pv := [(0, .int .i64 e.1), (1, .int .i64 e.2.1), (2, .int .i64 val)]) (cells := #[.int .i64 e.1, .int .i64 e.2.1, .int .i64 val]) rfl (by kernel_rfl)) ?_
    refine hs_pr rfl (fun _ _ _ h hb => by obtain ⟨g, h1, h2, h3⟩ := h; exact ⟨g, h1, h2, h3.below hb h3.lt⟩) (fun w' hw hq => (runs_allocB (cs := [.int .i64 0, .int .i64 0, .int .i64 0]) zo48 rfl).mono (by rintro v w5 ⟨rfl, h2, h3⟩; exact ⟨⟨_, rfl, hw.size, h2⟩, hw.trans (h3.mono hw.size), h3⟩)) (fun v54 => ?_)
    refine (fun a3 w3 hS hB3 hq => ?_)
    obtain ⟨gm, rfl, hLhM, hM⟩ := (hq (12, _) List.mem_cons_self)
    clear hq
    have hB := hB.trans (hB3.mono hB.size)
    refine tail_none 13 (by kernel_rfl) rfl hS (runs_storeB (cs := [.int .i64 e.1, .int .i64 e.2.1, .int .i64 val]) rfl rfl hM rfl rfl sz48) (fun v5 w5 a5 hp hS => ⟨trivial, ?_⟩)
    obtain ⟨hM, hU5⟩ := hp
    have hB := But.new hB hU5 (fun i e => by rw [e]; exact hLhM) (Nat.le_refl _)
    refine wpAnyH_done (by kernel_rfl) ?_ _
    refine qx_seq (qx_seq (reg_seq ?_))
    refine seq_is hS (by decide) (runs_move rfl) (fun a1 hS => ?_)
    by_cases c1 : count = 1
    · skip
      refine seq_is hS (by decide) (runs_eql (r := true) rfl rfl (by simp [c1])) (fun a1 hS => ?_)
      refine nil_ok (wp_cond_true (hS.eval rfl) (reg_seq ?_))
      refine seq_is hS (by decide) (runs_fieldK fo48_2 rfl) (fun a1 hS => ?_)
      refine seq_is hS (by decide) (runs_load rfl pl2 (hM.at rfl)) (fun a1 hS => ?_)
      refine seq_is hS (by decide) (runs_add rfl rfl (wrap64 (by omega) (by omega))) (fun a1 hS => ?_)
      refine seq_is hS (by decide) (runs_fieldK fo48_2 rfl) (fun a1 hS => ?_)
      refine seq_none hS (runs_storeC rfl rfl rfl s1_2 hM rfl) (fun v7 w7 a1 hp hS => ?_)
      obtain ⟨hM, hU7⟩ := hp
      have hB := But.new hB hU7 (fun i e => by rw [e]; exact hLhM) (Nat.le_refl _)
      refine nil_ok (qx_seq (qx_seq (reg_seq ?_)))
      refine seq_is hS (by decide) (runs_move rfl) (fun a1 hS => ?_)
      by_cases c2 : count = 2
      · skip
        refine seq_is hS (by decide) (runs_eql (r := true) rfl rfl (by simp [c2])) (fun a1 hS => ?_)
        refine nil_ok (wp_cond_true (hS.eval rfl) (reg_guard (fun w' => Below w7.heap.size w7 w') [.inl (.pointer (some ⟨gm, 0 + 2, none⟩)), .inl (.int .i64 (val + 1)), .inl (.slice A l.length c), .inl (.int .i64 (i : Int)), .inl (.pointer (some ⟨b, o + i * 3, none⟩)), .inl (.pointer (some ⟨b, o + i * 3 + 2, none⟩)), .inl (.int .i64 e.2.2), .inl (.int .i64 ( (val + 1) + e.2.2))] 8 2 mixed rfl (by kernel_rfl) hS (Below.refl _ _) (fun _ h => h.drew) ?_))
        refine hs_is rfl (fun w' hw => runs_fieldK fo48_2 rfl) ?_
        refine hs_is rfl (fun w' hw => runs_load rfl pl2 ((hM.below hw hM.lt).at rfl)) ?_
        refine hs_is rfl (fun w' hw => runs_move rfl) ?_
        refine hs_is rfl (fun w' hw => runs_move rfl) ?_
        refine hs_is rfl (fun w' hw => runs_indexAddrG (j := i) (by rw [← hAe]; rfl) rfl und22 siz45 rfl hlt1) ?_
        refine hs_is rfl (fun w' hw => runs_fieldK fo46_2 rfl) ?_
        refine hs_is rfl (fun w' hw => runs_load rfl pl2 (range_below (range_below hre hB hbw) hw (Nat.lt_of_lt_of_le hbw hB.size) 2 _ rfl)) ?_
        refine hs_is rfl (fun w' hw => runs_add rfl rfl (wrap64 (by omega) (by omega))) ?_
        refine (fun a9 w9 hS hB9 hq => ?_)
        clear hq
        have hB := hB.trans (hB9.mono hB.size)
        have hM := hM.below hB9 hM.lt
        refine tail_op 8 (by kernel_rfl) rfl hS (by decide) (runs_fieldK fo48_2 rfl) (fun v11 w11 a11 hp hS => ⟨trivial, ?_⟩)
        obtain ⟨rfl, rfl⟩ := hp
        refine tail_none 9 (by kernel_rfl) rfl hS (runs_storeC rfl rfl rfl s1_2 hM rfl) (fun v12 w12 a12 hp hS => ⟨trivial, ?_⟩)
        obtain ⟨hM, hU12⟩ := hp
        have hB := But.new hB hU12 (fun i e => by rw [e]; exact hLhM) (Nat.le_refl _)
        refine wpAnyH_done (by kernel_rfl) ?_ _
        refine reg_seq ?_
        refine seq_is hS (by decide) (runs_move rfl) (fun a1 hS => ?_)
        refine seq_is hS (by decide) (runs_loadRow rfl hM Try.underlying48 rfl (by rw [sz48]; rfl)) (fun a1 hS => ?_)
        refine seq_op hS (by decide) (runs_oneM (e := (e.1, e.2.1,  ( (val + 1) + e.2.2))) rfl) (fun v14 w14 a1 hp hS => ?_)
        obtain ⟨g2, rfl, hX, hB14⟩ := hp
        have hB := hB.trans (hB14.mono hB.size)
        have hM := hM.below hB14 hM.lt
        have hown5 := owns_kept hownb hB
        refine seq_op hS (by decide) (push_ownM (acc := sendTo (l.take i) (allF val count)) (e := (e.1, e.2.1,  ( (val + 1) + e.2.2))) rfl hown5 rfl hX (by rw [sendTo_length, List.length_take]; omega) (Nat.le_trans hBb.size hB.size)) (fun v16 w16 a1 hp hS => ?_)
        obtain ⟨_, hown3, _, hB16⟩ := hp
        refine seq_is hS (by decide) (runs_assign rfl) (fun a1 hS => ?_)
        refine nil_ok (reg_seq ?_)
        refine seq_is hS (by decide) (runs_move rfl) (fun a1 hS => ?_)
        refine seq_is hS (by decide) (runs_add (r := ((i + 1 : Nat) : Int)) rfl rfl (by simp [IntKind.wrap, IntKind.bits, IntKind.signed]; omega)) (fun a1 hS => ?_)
        refine seq_is hS (by decide) (runs_assign rfl) (fun a1 hS => ?_)
        exact absurd c2 (by omega)
      · skip
        refine seq_is hS (by decide) (runs_eql (r := false) rfl rfl (by simp [c2])) (fun a1 hS => ?_)
        refine nil_ok (wp_cond_false (hS.eval rfl) (wp_skip (reg_seq ?_)))
        refine seq_is hS (by decide) (runs_move rfl) (fun a1 hS => ?_)
        refine seq_is hS (by decide) (runs_loadRow rfl hM Try.underlying48 rfl (by rw [sz48]; rfl)) (fun a1 hS => ?_)
        refine seq_op hS (by decide) (runs_oneM (e := (e.1, e.2.1,  (val + 1))) rfl) (fun v17 w17 a1 hp hS => ?_)
        obtain ⟨g2, rfl, hX, hB17⟩ := hp
        have hB := hB.trans (hB17.mono hB.size)
        have hM := hM.below hB17 hM.lt
        have hown5 := owns_kept hownb hB
        refine seq_op hS (by decide) (push_ownM (acc := sendTo (l.take i) (allF val count)) (e := (e.1, e.2.1,  (val + 1))) rfl hown5 rfl hX (by rw [sendTo_length, List.length_take]; omega) (Nat.le_trans hBb.size hB.size)) (fun v19 w19 a1 hp hS => ?_)
        obtain ⟨_, hown3, _, hB19⟩ := hp
        refine seq_is hS (by decide) (runs_assign rfl) (fun a1 hS => ?_)
        refine nil_ok (reg_seq ?_)
        refine seq_is hS (by decide) (runs_move rfl) (fun a1 hS => ?_)
        refine seq_is hS (by decide) (runs_add (r := ((i + 1 : Nat) : Int)) rfl rfl (by simp [IntKind.wrap, IntKind.bits, IntKind.signed]; omega)) (fun a1 hS => ?_)
        refine seq_is hS (by decide) (runs_assign rfl) (fun a1 hS => ?_)
        have hval :  (val + 1) = allF val count e.2.2 := by unfold allF; rw [if_pos c1]
        exact nil_ok ⟨_, by omega, i + 1, _, by omega, rfl, hBb.trans ((hB.mono hBb.size).trans hB19), by rw [sendTo_snoc hei, List.length_append, ← hval]; exact hown3, hS.only _ ⟨rfl, rfl, rfl, rfl, rfl, trivial⟩⟩
    · skip
      refine seq_is hS (by decide) (runs_eql (r := false) rfl rfl (by simp [c1])) (fun a1 hS => ?_)
      refine nil_ok (wp_cond_false (hS.eval rfl) (wp_skip (qx_seq (qx_seq (reg_seq ?_)))))
      refine seq_is hS (by decide) (runs_move rfl) (fun a1 hS => ?_)
      by_cases c2 : count = 2
      · skip
        refine seq_is hS (by decide) (runs_eql (r := true) rfl rfl (by simp [c2])) (fun a1 hS => ?_)
        refine nil_ok (wp_cond_true (hS.eval rfl) (reg_guard (fun w' => Below w5.heap.size w5 w') [.inl (.pointer (some ⟨gm, 0 + 2, none⟩)), .inl (.int .i64 val), .inl (.slice A l.length c), .inl (.int .i64 (i : Int)), .inl (.pointer (some ⟨b, o + i * 3, none⟩)), .inl (.pointer (some ⟨b, o + i * 3 + 2, none⟩)), .inl (.int .i64 e.2.2), .inl (.int .i64 ( val + e.2.2))] 8 2 mixed rfl (by kernel_rfl) hS (Below.refl _ _) (fun _ h => h.drew) ?_))
        refine hs_is rfl (fun w' hw => runs_fieldK fo48_2 rfl) ?_
        refine hs_is rfl (fun w' hw => runs_load rfl pl2 ((hM.below hw hM.lt).at rfl)) ?_
        refine hs_is rfl (fun w' hw => runs_move rfl) ?_
        refine hs_is rfl (fun w' hw => runs_move rfl) ?_
        refine hs_is rfl (fun w' hw => runs_indexAddrG (j := i) (by rw [← hAe]; rfl) rfl und22 siz45 rfl hlt1) ?_
        refine hs_is rfl (fun w' hw => runs_fieldK fo46_2 rfl) ?_
        refine hs_is rfl (fun w' hw => runs_load rfl pl2 (range_below (range_below hre hB hbw) hw (Nat.lt_of_lt_of_le hbw hB.size) 2 _ rfl)) ?_
        refine hs_is rfl (fun w' hw => runs_add rfl rfl (wrap64 (by omega) (by omega))) ?_
        refine (fun a20 w20 hS hB20 hq => ?_)
        clear hq
        have hB := hB.trans (hB20.mono hB.size)
        have hM := hM.below hB20 hM.lt
        refine tail_op 8 (by kernel_rfl) rfl hS (by decide) (runs_fieldK fo48_2 rfl) (fun v22 w22 a22 hp hS => ⟨trivial, ?_⟩)
        obtain ⟨rfl, rfl⟩ := hp
        refine tail_none 9 (by kernel_rfl) rfl hS (runs_storeC rfl rfl rfl s1_2 hM rfl) (fun v23 w23 a23 hp hS => ⟨trivial, ?_⟩)
        obtain ⟨hM, hU23⟩ := hp
        have hB := But.new hB hU23 (fun i e => by rw [e]; exact hLhM) (Nat.le_refl _)
        refine wpAnyH_done (by kernel_rfl) ?_ _
        refine reg_seq ?_
        refine seq_is hS (by decide) (runs_move rfl) (fun a1 hS => ?_)
        refine seq_is hS (by decide) (runs_loadRow rfl hM Try.underlying48 rfl (by rw [sz48]; rfl)) (fun a1 hS => ?_)
        refine seq_op hS (by decide) (runs_oneM (e := (e.1, e.2.1,  ( val + e.2.2))) rfl) (fun v25 w25 a1 hp hS => ?_)
        obtain ⟨g2, rfl, hX, hB25⟩ := hp
        have hB := hB.trans (hB25.mono hB.size)
        have hM := hM.below hB25 hM.lt
        have hown5 := owns_kept hownb hB
        refine seq_op hS (by decide) (push_ownM (acc := sendTo (l.take i) (allF val count)) (e := (e.1, e.2.1,  ( val + e.2.2))) rfl hown5 rfl hX (by rw [sendTo_length, List.length_take]; omega) (Nat.le_trans hBb.size hB.size)) (fun v27 w27 a1 hp hS => ?_)
        obtain ⟨_, hown3, _, hB27⟩ := hp
        refine seq_is hS (by decide) (runs_assign rfl) (fun a1 hS => ?_)
        refine nil_ok (reg_seq ?_)
        refine seq_is hS (by decide) (runs_move rfl) (fun a1 hS => ?_)
        refine seq_is hS (by decide) (runs_add (r := ((i + 1 : Nat) : Int)) rfl rfl (by simp [IntKind.wrap, IntKind.bits, IntKind.signed]; omega)) (fun a1 hS => ?_)
        refine seq_is hS (by decide) (runs_assign rfl) (fun a1 hS => ?_)
        have hval :  ( val + e.2.2) = allF val count e.2.2 := by unfold allF; rw [if_neg c1, if_pos c2]
        exact nil_ok ⟨_, by omega, i + 1, _, by omega, rfl, hBb.trans ((hB.mono hBb.size).trans hB27), by rw [sendTo_snoc hei, List.length_append, ← hval]; exact hown3, hS.only _ ⟨rfl, rfl, rfl, rfl, rfl, trivial⟩⟩
      · skip
        refine seq_is hS (by decide) (runs_eql (r := false) rfl rfl (by simp [c2])) (fun a1 hS => ?_)
        refine nil_ok (wp_cond_false (hS.eval rfl) (wp_skip (reg_seq ?_)))
        refine seq_is hS (by decide) (runs_move rfl) (fun a1 hS => ?_)
        refine seq_is hS (by decide) (runs_loadRow rfl hM Try.underlying48 rfl (by rw [sz48]; rfl)) (fun a1 hS => ?_)
        refine seq_op hS (by decide) (runs_oneM (e := (e.1, e.2.1,  val)) rfl) (fun v28 w28 a1 hp hS => ?_)
        obtain ⟨g2, rfl, hX, hB28⟩ := hp
        have hB := hB.trans (hB28.mono hB.size)
        have hown5 := owns_kept hownb hB
        refine seq_op hS (by decide) (push_ownM (acc := sendTo (l.take i) (allF val count)) (e := (e.1, e.2.1,  val)) rfl hown5 rfl hX (by rw [sendTo_length, List.length_take]; omega) (Nat.le_trans hBb.size hB.size)) (fun v30 w30 a1 hp hS => ?_)
        obtain ⟨_, hown3, _, hB30⟩ := hp
        refine seq_is hS (by decide) (runs_assign rfl) (fun a1 hS => ?_)
        refine nil_ok (reg_seq ?_)
        refine seq_is hS (by decide) (runs_move rfl) (fun a1 hS => ?_)
        refine seq_is hS (by decide) (runs_add (r := ((i + 1 : Nat) : Int)) rfl rfl (by simp [IntKind.wrap, IntKind.bits, IntKind.signed]; omega)) (fun a1 hS => ?_)
        refine seq_is hS (by decide) (runs_assign rfl) (fun a1 hS => ?_)
        have hval :  val = allF val count e.2.2 := by unfold allF; rw [if_neg c1, if_neg c2]
        exact nil_ok ⟨_, by omega, i + 1, _, by omega, rfl, hBb.trans ((hB.mono hBb.size).trans hB30), by rw [sendTo_snoc hei, List.length_append, ← hval]; exact hown3, hS.only _ ⟨rfl, rfl, rfl, rfl, rfl, trivial⟩⟩
  · skip
    refine seq_is hS (by decide) (runs_lss (r := false) rfl rfl (by rw [decide_eq_false_iff_not]; omega)) (fun a1 hS => ?_)
    obtain rfl : i = l.length := by omega
    refine nil_ok ⟨_, hS.eval rfl, fun _ => ?_, fun h => by simp at h⟩
    rw [List.take_length] at hown
    refine qx_seq (reg_seq ?_)
    refine seq_is hS (by decide) (runs_move rfl) (fun a1 hS => ?_)
    refine seq_is hS (by decide) (runs_assign rfl) (fun a1 hS => ?_)
    exact nil_ok (qx_ret (ret1 (t := 6) (by kernel_rfl) hS rfl ⟨_, rfl, hBb, hown⟩))
end Go.Proofs.Ytfceckdhoaabnaa
