/- Layer 12: numbers bound by closures (the program's bound and may). No condition. -/
import Derived.Test.YtooeahpkhocaeaaDoorJ26
import Derived.Test.YtooeahpkhocaeaaDoorJ13
import Derived.Test.YtooeahpkhocaeaaDoorJ12
namespace Go.Proofs.YtooeahpkhocaeaaDoor
open Go.RowKit
set_option maxRecDepth 100000

theorem goes18 : Goes Tryd.prog 18 := goes_of Tryd.func18 (by kernel_rfl) rfl
theorem goes34 : Goes Tryd.prog 34 := goes_of Tryd.func34 (by kernel_rfl) rfl
theorem goes43 : Goes Tryd.prog 43 := goes_of Tryd.func43 (by kernel_rfl) rfl
theorem pl5048 : (match Tryd.prog.underlying 48 with | some (.struct _) => true | some (.array _ _) => true | none => true | _ => false) = false := by kernel_rfl
/-- Whether a number is from lo to hi; whether a commitment may have these three. -/
def inB (lo hi n : Nat) : Bool := decide (lo ≤ n) && decide (n ≤ hi)
def mayC (a b n : Nat) : Bool := inB 0 63 a && (inB 0 63 b && inB 1 64 n)
set_option maxHeartbeats 1000000 in
theorem bound1_any (lo hi n : Nat) (g1 g2 : Nat) (r : Bool) (hr : inB lo hi n = r) (w : World) (hLo : Has w g1 48 [.int .u64 ((lo : Nat) : Int)]) (hHi : Has w g2 48 [.int .u64 ((hi : Nat) : Int)]) : Ans 43 [.int .u64 ((n : Nat) : Int), .pointer (some ⟨g1, 0, none⟩), .pointer (some ⟨g2, 0, none⟩)] w (Is (.bool r) w) := by
  refine calls_qx (args := [.int .u64 ((n : Nat) : Int), .pointer (some ⟨g1, 0, none⟩), .pointer (some ⟨g2, 0, none⟩)]) 13 Tryd.func43 rfl (by kernel_rfl) (by simp) (fun a hS => ?_)
  refine qx_seq (reg_seq ?_)
  refine sI hS (runs_assign rfl) fun _ hS => ?_
  refine nil_ok (qx_seq (reg_seq ?_))
  refine sI hS (runs_load rfl pl5048 (hLo.at rfl)) fun _ hS => ?_
  refine sI hS (runs_move rfl) fun _ hS => ?_
  by_cases h1 : lo ≤ n
  · skip
    refine sI hS (runs_leq (r := true) rfl rfl (by simp; omega)) fun _ hS => ?_
    refine sI hS (runs_move rfl) fun _ hS => ?_
    refine sY hS (runs_move rfl) fun _ hS => ?_
    refine sY hS (runs_load rfl pl5048 (hHi.at rfl)) fun _ hS => ?_
    by_cases h2 : n ≤ hi
    · skip
      refine sY hS (runs_leq (r := true) rfl rfl (by simp; omega)) fun _ hS => ?_
      refine sI hS (runs_pick rfl rfl) fun _ hS => ?_
      refine sI hS (runs_assign rfl) fun _ hS => ?_
      exact nil_ok (qx_ret (ret1 (t := 4) (by kernel_rfl) hS rfl ⟨_, rfl, by rw [← hr]; simp [inB, h1, h2], rfl⟩))
    refine sY hS (runs_leq (r := false) rfl rfl (by simp; omega)) fun _ hS => ?_
    refine sI hS (runs_pick rfl rfl) fun _ hS => ?_
    refine sI hS (runs_assign rfl) fun _ hS => ?_
    exact nil_ok (qx_ret (ret1 (t := 4) (by kernel_rfl) hS rfl ⟨_, rfl, by rw [← hr]; simp [inB, h1, h2], rfl⟩))
  refine sI hS (runs_leq (r := false) rfl rfl (by simp; omega)) fun _ hS => ?_
  refine sI hS (runs_move rfl) fun _ hS => ?_
  refine sN hS fun _ hS => ?_
  refine sN hS fun _ hS => ?_
  refine sN hS fun _ hS => ?_
  refine sI hS (runs_pick rfl rfl) fun _ hS => ?_
  refine sI hS (runs_assign rfl) fun _ hS => ?_
  exact nil_ok (qx_ret (ret1 (t := 4) (by kernel_rfl) hS rfl ⟨_, rfl, by rw [← hr]; simp [inB, h1], rfl⟩))
set_option maxHeartbeats 1000000 in
theorem bound_any (lo hi : Nat) (w : World) : Ans 34 [.int .u64 ((lo : Nat) : Int), .int .u64 ((hi : Nat) : Int)] w (fun u w' => ∃ g1 g2, u = .func (.func 43) #[] #[.pointer (some ⟨g1, 0, none⟩), .pointer (some ⟨g2, 0, none⟩)] ∧ Has w' g1 48 [.int .u64 ((lo : Nat) : Int)] ∧ Has w' g2 48 [.int .u64 ((hi : Nat) : Int)] ∧ Below w.heap.size w w') := by
  refine calls_qx (args := [.int .u64 ((lo : Nat) : Int), .int .u64 ((hi : Nat) : Int)]) 6 Tryd.func34 rfl (by kernel_rfl) (by simp) (fun a hS => ?_)
  have hB := Below.refl w.heap.size w
  refine qx_seq (reg_seq ?_)
  refine seq_op hS (by decide) (runs_boxB (cs := [.int .u64 ((lo : Nat) : Int)]) rfl rfl) (fun v1 w1 a1 hp hS => ?_)
  obtain ⟨rfl, hM1, hB1⟩ := hp
  have hB := hB.trans (hB1.mono hB.size)
  refine seq_op hS (by decide) (runs_boxB (cs := [.int .u64 ((hi : Nat) : Int)]) rfl rfl) (fun v3 w3 a1 hp hS => ?_)
  obtain ⟨rfl, hM3, hB3⟩ := hp
  have hB := hB.trans (hB3.mono hB.size)
  have hM1 := hM1.below hB3 hM1.lt
  refine sI hS (runs_assign rfl) fun _ hS => ?_
  refine nil_ok (qx_seq (reg_seq ?_))
  refine sI hS (runs_makeFunc (cs := [.pointer (some ⟨w.heap.size, 0, none⟩), .pointer (some ⟨w1.heap.size, 0, none⟩)]) rfl) fun _ hS => ?_
  refine sI hS (runs_assign rfl) fun _ hS => ?_
  exact nil_ok (qx_ret (ret1 (t := 4) (by kernel_rfl) hS rfl ⟨_, rfl, _, _, rfl, hM1, hM3, hB⟩))
set_option maxHeartbeats 1000000 in
theorem may_any (na nb nn : Nat) (w : World) : Ans 18 [.int .u64 ((na : Nat) : Int), .int .u64 ((nb : Nat) : Int), .int .u64 ((nn : Nat) : Int)] w (fun u w' => u = .bool (mayC na nb nn) ∧ Below w.heap.size w w') := by
  refine calls_qx (args := [.int .u64 ((na : Nat) : Int), .int .u64 ((nb : Nat) : Int), .int .u64 ((nn : Nat) : Int)]) 26 Tryd.func18 rfl (by kernel_rfl) (by simp) (fun a hS => ?_)
  have hB := Below.refl w.heap.size w
  refine qx_seq (reg_seq ?_)
  refine sI hS (runs_assign rfl) fun _ hS => ?_
  refine nil_ok (qx_seq (reg_seq ?_))
  refine seq_op hS (by decide) (runs_call (args := [.int .u64 ((0 : Nat) : Int), .int .u64 ((63 : Nat) : Int)]) goes34 rfl (bound_any 0 63 w)) (fun v1 w1 a1 hp hS => ?_)
  obtain ⟨x1, y1, rfl, hx1, hy1, hB1⟩ := hp
  have hB := hB.trans (hB1.mono hB.size)
  refine sI hS (runs_assign rfl) fun _ hS => ?_
  refine nil_ok (qx_seq (reg_seq ?_))
  refine seq_op hS (by decide) (runs_call (args := [.int .u64 ((0 : Nat) : Int), .int .u64 ((63 : Nat) : Int)]) goes34 rfl (bound_any 0 63 w1)) (fun v3 w3 a1 hp hS => ?_)
  obtain ⟨x2, y2, rfl, hx2, hy2, hB3⟩ := hp
  have hB := hB.trans (hB3.mono hB.size)
  have hx1 := hx1.below hB3 hx1.lt
  have hy1 := hy1.below hB3 hy1.lt
  refine sI hS (runs_assign rfl) fun _ hS => ?_
  refine nil_ok (qx_seq (reg_seq ?_))
  refine seq_op hS (by decide) (runs_call (args := [.int .u64 ((1 : Nat) : Int), .int .u64 ((64 : Nat) : Int)]) goes34 rfl (bound_any 1 64 w3)) (fun v5 w5 a1 hp hS => ?_)
  obtain ⟨x3, y3, rfl, hx3, hy3, hB5⟩ := hp
  have hB := hB.trans (hB5.mono hB.size)
  have hx1 := hx1.below hB5 hx1.lt
  have hy1 := hy1.below hB5 hy1.lt
  have hx2 := hx2.below hB5 hx2.lt
  have hy2 := hy2.below hB5 hy2.lt
  refine sI hS (runs_assign rfl) fun _ hS => ?_
  refine nil_ok (qx_seq (reg_seq ?_))
  refine sI hS (runs_move rfl) fun _ hS => ?_
  refine sI hS (runs_move rfl) fun _ hS => ?_
  by_cases h1 : inB 0 63 na = true
  · skip
    refine sI hS (runs_callv (args := [.int .u64 ((na : Nat) : Int)]) (caps := [.pointer (some ⟨x1, 0, none⟩), .pointer (some ⟨y1, 0, none⟩)]) goes43 rfl rfl (bound1_any 0 63 na _ _ true (h1) w5 hx1 hy1)) fun _ hS => ?_
    refine sI hS (runs_move rfl) fun _ hS => ?_
    refine sY hS (runs_move rfl) fun _ hS => ?_
    refine sY hS (runs_move rfl) fun _ hS => ?_
    by_cases h2 : inB 0 63 nb = true
    · skip
      refine sY hS (runs_callv (args := [.int .u64 ((nb : Nat) : Int)]) (caps := [.pointer (some ⟨x2, 0, none⟩), .pointer (some ⟨y2, 0, none⟩)]) goes43 rfl rfl (bound1_any 0 63 nb _ _ true (h2) w5 hx2 hy2)) fun _ hS => ?_
      refine sI hS (runs_pick rfl rfl) fun _ hS => ?_
      refine sI hS (runs_move rfl) fun _ hS => ?_
      refine sY hS (runs_move rfl) fun _ hS => ?_
      refine sY hS (runs_move rfl) fun _ hS => ?_
      by_cases h3 : inB 1 64 nn = true
      · skip
        refine sY hS (runs_callv (args := [.int .u64 ((nn : Nat) : Int)]) (caps := [.pointer (some ⟨x3, 0, none⟩), .pointer (some ⟨y3, 0, none⟩)]) goes43 rfl rfl (bound1_any 1 64 nn _ _ true (h3) w5 hx3 hy3)) fun _ hS => ?_
        refine sI hS (runs_pick rfl rfl) fun _ hS => ?_
        refine sI hS (runs_assign rfl) fun _ hS => ?_
        exact nil_ok (qx_ret (ret1 (t := 6) (by kernel_rfl) hS rfl ⟨_, rfl, by simp [mayC, h1, h2, h3], hB⟩))
      refine sY hS (runs_callv (args := [.int .u64 ((nn : Nat) : Int)]) (caps := [.pointer (some ⟨x3, 0, none⟩), .pointer (some ⟨y3, 0, none⟩)]) goes43 rfl rfl (bound1_any 1 64 nn _ _ false (Bool.eq_false_iff.2 h3) w5 hx3 hy3)) fun _ hS => ?_
      refine sI hS (runs_pick rfl rfl) fun _ hS => ?_
      refine sI hS (runs_assign rfl) fun _ hS => ?_
      exact nil_ok (qx_ret (ret1 (t := 6) (by kernel_rfl) hS rfl ⟨_, rfl, by simp [mayC, h1, h2, h3], hB⟩))
    refine sY hS (runs_callv (args := [.int .u64 ((nb : Nat) : Int)]) (caps := [.pointer (some ⟨x2, 0, none⟩), .pointer (some ⟨y2, 0, none⟩)]) goes43 rfl rfl (bound1_any 0 63 nb _ _ false (Bool.eq_false_iff.2 h2) w5 hx2 hy2)) fun _ hS => ?_
    refine sI hS (runs_pick rfl rfl) fun _ hS => ?_
    refine sI hS (runs_move rfl) fun _ hS => ?_
    refine sN hS fun _ hS => ?_
    refine sN hS fun _ hS => ?_
    refine sN hS fun _ hS => ?_
    refine sI hS (runs_pick rfl rfl) fun _ hS => ?_
    refine sI hS (runs_assign rfl) fun _ hS => ?_
    exact nil_ok (qx_ret (ret1 (t := 6) (by kernel_rfl) hS rfl ⟨_, rfl, by simp [mayC, h1, h2], hB⟩))
  refine sI hS (runs_callv (args := [.int .u64 ((na : Nat) : Int)]) (caps := [.pointer (some ⟨x1, 0, none⟩), .pointer (some ⟨y1, 0, none⟩)]) goes43 rfl rfl (bound1_any 0 63 na _ _ false (Bool.eq_false_iff.2 h1) w5 hx1 hy1)) fun _ hS => ?_
  refine sI hS (runs_move rfl) fun _ hS => ?_
  refine sN hS fun _ hS => ?_
  refine sN hS fun _ hS => ?_
  refine sN hS fun _ hS => ?_
  refine sI hS (runs_pick rfl rfl) fun _ hS => ?_
  refine sI hS (runs_move rfl) fun _ hS => ?_
  refine sN hS fun _ hS => ?_
  refine sN hS fun _ hS => ?_
  refine sN hS fun _ hS => ?_
  refine sI hS (runs_pick rfl rfl) fun _ hS => ?_
  refine sI hS (runs_assign rfl) fun _ hS => ?_
  exact nil_ok (qx_ret (ret1 (t := 6) (by kernel_rfl) hS rfl ⟨_, rfl, by simp [mayC, h1], hB⟩))
end Go.Proofs.YtooeahpkhocaeaaDoor
