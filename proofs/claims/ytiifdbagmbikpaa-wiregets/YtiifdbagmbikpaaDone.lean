/- The contract of Done; NewIn. Conditions: at most 300000 bytes. -/
import Derived.Test.YtiifdbagmbikpaaFr
namespace Go.Proofs.Ytiifdbagmbikpaa
open Go.RowKit

theorem conv_own {w : World} {v : Value} {l : List Nat} (h : w.ownsRow 0 5 1 v l.length (U8 l)) : Sem.run Try.prog (convert 59 9 v) w = .ok (.string (S l)) w := by
  rcases h.2 with ⟨hv, hn⟩ | ⟨g, cap, cur, hv, _⟩
  · have hl : l = [] := List.length_eq_zero_iff.1 hn
    subst hl hv
    rw [run_convert_bytes_string (P := Try.prog) w 59 9 5 none 0 0 und59 und5 und9]
    rfl
  · subst hv
    have hc := h.cells (g := g) rfl
    have := run_convert_bytes_arg (P := Try.prog) (w := w) 59 5 und59 (by kernel_rfl) g 0 l.length cap (l.map fun n : Nat => (n : Int)) (by simp) (fun i hi => by
      have hr := hc i _ (U8_get hi)
      rw [show (⟨g, 0, none⟩ : Addr).add i = ⟨g, 0 + i, none⟩ from by unfold Addr.add; split <;> simp_all] at hr
      rw [hr]
      simp [hi]) 9 und9
    rw [this]
    simp [strOfNums, S]
theorem done_any (b : Nat) (v : Value) (l : List Nat) (w : World) (h : Out w b v l) :
    Calls Try.prog 16 #[.pointer (some ⟨b, 0, none⟩)] w fun e w' => e = .returned (.string (S l)) ∧ w = w' := by
  have c1 : w.cell? ⟨b, 0, none⟩ = some v := h.1.cell 0
  have hc := conv_own h.2
  clear h
  go_enter Try.func16, Try.ntmps16
  go_wp2
  go_ret
  exact ⟨rfl, rfl⟩
theorem newIn_any (s : ByteArray) (w : World) : Calls Try.prog 17 #[.string s] w fun e w' => e = .returned (.pointer (some ⟨w.heap.size, 0, none⟩)) ∧ w' = w.alloc (.cells #[.string s, .int .i64 0] 68) := by
  go_enter Try.func17, Try.ntmps17
  go_wp2
  go_ret
  exact ⟨rfl, rfl⟩
theorem in_new (w : World) (s : ByteArray) : In (w.alloc (.cells #[.string s, .int .i64 0] 68)) w.heap.size s 0 := Has.new w 68 [.string s, .int .i64 0]
theorem err_any (b : Nat) (s : ByteArray) (x : Nat) (w : World) (h : In w b s x) :
    Calls Try.prog 19 #[.pointer (some ⟨b, 0, none⟩)] w fun e w' => e = .returned (.int .i64 (x : Int)) ∧ w = w' := by
  have c1 : w.cell? ⟨b, 1, none⟩ = some (.int .i64 (x : Int)) := h.cell 1
  clear h
  go_enter Try.func19, Try.ntmps19
  go_wp2
  go_ret
  exact ⟨rfl, rfl⟩
theorem left_any (b : Nat) (s : ByteArray) (x : Nat) (w : World) (h : In w b s x) :
    Calls Try.prog 20 #[.pointer (some ⟨b, 0, none⟩)] w fun e w' => e = .returned (.int .i64 (s.size : Int)) ∧ w = w' := by
  have c1 : w.cell? ⟨b, 0, none⟩ = some (.string s) := h.cell 0
  clear h
  go_enter Try.func20, Try.ntmps20
  go_wp2
  go_ret
  exact ⟨rfl, rfl⟩
/-- What End tells. -/
def endOf (s : ByteArray) (x : Nat) : Nat := if x = 0 ∧ 0 < s.size then 22 else x
theorem end_any (b : Nat) (s : ByteArray) (x : Nat) (w : World) (h : In w b s x) :
    Calls Try.prog 21 #[.pointer (some ⟨b, 0, none⟩)] w fun e w' => e = .returned (.int .i64 (endOf s x : Int)) ∧ w = w' := by
  have c0 : w.cell? ⟨b, 0, none⟩ = some (.string s) := h.cell 0
  have c1 : w.cell? ⟨b, 1, none⟩ = some (.int .i64 (x : Int)) := h.cell 1
  clear h
  by_cases hx : x = 0
  · subst hx
    by_cases hs : 0 < s.size
    · have HE := Lib.hid (show endOf s 0 = 22 by unfold endOf; rw [if_pos ⟨rfl, hs⟩])
      go_enter Try.func21, Try.ntmps21
      go_wp2
      go_ret
      exact ⟨congrArg (fun n : Nat => Ending.returned (.int .i64 (n : Int))) HE.out.symm, rfl⟩
    · have HE := Lib.hid (show endOf s 0 = 0 by unfold endOf; rw [if_neg (by omega)])
      go_enter Try.func21, Try.ntmps21
      go_wp2
      go_ret
      exact ⟨congrArg (fun n : Nat => Ending.returned (.int .i64 (n : Int))) HE.out.symm, rfl⟩
  · have HE := Lib.hid (show endOf s x = x by unfold endOf; rw [if_neg (by omega)])
    have t1 : ((x : Int) == 0) = false := by simp; omega
    go_enter Try.func21, Try.ntmps21
    go_wp2
    go_ret
    exact ⟨congrArg (fun n : Nat => Ending.returned (.int .i64 (n : Int))) HE.out.symm, rfl⟩
end Go.Proofs.Ytiifdbagmbikpaa
