/- The contract of Done. Conditions: at most 300000 bytes. -/
import Derived.Test.YtdemoidmhmdgkaaDoorWFr
namespace Go.Proofs.YtdemoidmhmdgkaaDoor
open Go.RowKit

theorem conv_out {w : World} {v : Value} {l : List Nat} (h : w.ownsRow 0 5 1 v l.length (U8 l)) : Sem.run Tryd.prog (convert 37 9 v) w = .ok (.string (S l)) w := by
  rcases h.2 with ⟨hv, hn⟩ | ⟨g, cap, cur, hv, _⟩
  · have hl : l = [] := List.length_eq_zero_iff.1 hn
    subst hl hv
    rw [run_convert_bytes_string (P := Tryd.prog) w 37 9 5 none 0 0 und59 und5 und9]
    rfl
  · subst hv
    have hc := h.cells (g := g) rfl
    have := run_convert_bytes_arg (P := Tryd.prog) (w := w) 37 5 und59 (by kernel_rfl) g 0 l.length cap (l.map fun n : Nat => (n : Int)) (by simp) (fun i hi => by
      have hr := hc i _ (U8_get hi)
      rw [show (⟨g, 0, none⟩ : Addr).add i = ⟨g, 0 + i, none⟩ from by unfold Addr.add; split <;> simp_all] at hr
      rw [hr]
      simp [hi]) 9 und9
    rw [this]
    simp [strOfNums, S]
theorem done_any (b : Nat) (v : Value) (l : List Nat) (w : World) (h : Out w b v l) :
    Calls Tryd.prog 73 #[.pointer (some ⟨b, 0, none⟩)] w fun e w' => e = .returned (.string (S l)) ∧ w = w' := by
  have c1 : w.cell? ⟨b, 0, none⟩ = some v := h.1.cell 0
  have hc := conv_out h.2
  clear h
  go_enter Tryd.func73, Tryd.ntmps73
  go_wp2
  go_ret
  exact ⟨rfl, rfl⟩
end Go.Proofs.YtdemoidmhmdgkaaDoor
