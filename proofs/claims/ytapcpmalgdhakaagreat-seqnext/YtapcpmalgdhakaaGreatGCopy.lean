/- A copy of a slice of edges; a graph of one's own memory. Conditions: none of our own. -/
import Derived.Test.YtapcpmalgdhakaaGreatGTwice
import Derived.Test.YtapcpmalgdhakaaGreatGBase
namespace Go.Proofs.YtapcpmalgdhakaaGreat
open Go.RowKit
set_option maxRecDepth 100000
section
variable {P : Program} {L : List (Nat × Value)} {w : World} {ty : TypeId}
theorem runs_append0N {t e : TypeId} {s x : Operand} {i : TypeInfo} {z : Value} {bytes g m c sz : Nat} {news : List Value} {ad : Addr} (ht : P.underlying t = some (.slice e)) (hi : P.info? e = some i) (hz : i.zero = some z)
    (hsize : i.size = sz) (hby : i.bytes = bytes) (hzs : z.cells.size = sz) (hsz : 0 < sz) (hs : vals L s = some (.slice (some ⟨g, 0, none⟩) 0 0)) (hx : vals L x = some (.slice (some ad) m c)) (hl : news.length = m * sz) (hnews : ∀ j u, news[j]? = some u → w.cell? (ad.add j) = some u)
    (h63 : m ≤ maxLen) (hbytes : m * bytes ≤ 140737488355328) (hm : 0 < m) :
    Runs P (.call { callee := .builtin .append, args := #[s, x], argTypes := #[t, t] }) ty L w (fun v w' => w'.ownsRow w.heap.size e sz v m news ∧ Below w.heap.size w w') := fun o a K Q ho _ hL hK => by
  have e1 := hL s (by simp [Op.operands, Call.operands]) _ hs
  have e2 := hL x (by simp [Op.operands, Call.operands]) _ hx
  obtain ⟨v', w', hr, h2, h3⟩ := run_append_arg_grows (P := P) w t o.type e i z sz bytes ht hi hz hsize hby hzs hsz ⟨g, 0, none⟩ 0 0 [] (by simp) (fun j u h => by simp at h) ad m c news hl hnews (by omega) (by omega) (by simpa using hbytes)
  unfold Oper.wp execOp
  simp only [ho, resolve, invoke, builtin, Sem.run_bind, Sem.run_pure, Result.andThen_ok, List.map_toArray, List.map_cons, List.map_nil, e1, e2, hr]
  rw [Nat.zero_add, List.nil_append] at h2
  exact hK v' w' ⟨h2, (Below.refl _ _).grown h3 (Nat.le_refl _) (fun k h => by cases h)⟩
end
section
variable {L : List (Nat × Value)} {w : World} {ty : TypeId}
/-- A copy of a slice of edges. -/
theorem copy_edges {s x : Operand} {g : Nat} {v : Value} {es : List E} (hE : Edges w v es) (hn : es.length ≤ 1000) (hs2 : vals L s = some (.slice (some ⟨g, 0, none⟩) 0 0)) (hx : vals L x = some v) :
    Runs Tryz.prog (.call { callee := .builtin .append, args := #[s, x], argTypes := #[22, 22] }) ty L w (fun u w2 => EdgesB w.heap.size w2 u es ∧ Below w.heap.size w w2) := by
  obtain ⟨i45, hi45, hz45, hs45, hb45⟩ := info_parts inf45
  obtain ⟨A, c, rfl, hc1, hc2, hA⟩ := hE
  by_cases h0 : es.length = 0
  · obtain rfl : es = [] := List.eq_nil_of_length_eq_zero h0
    exact (runs_appendNone und22 hi45 hs2 (Nat.le_refl _) (by simp) hx).mono (by
      rintro u w2 ⟨rfl, rfl⟩
      exact ⟨⟨_, 0, rfl, Nat.le_refl _, by unfold maxLen; omega, fun h => absurd h (by simp)⟩, Below.refl _ _⟩)
  · obtain ⟨b, o, rfl, hb, hr⟩ := hA (by omega)
    exact (runs_append0N (m := es.length) und22 hi45 hz45 hs45 hb45 rfl (by omega) hs2 hx (news := cellsE es) (cellsE_length es) (fun j u hu => by rw [add_lit']; exact hr j u hu) (by unfold maxLen; omega) (by omega) (by omega)).mono (by
      rintro u w2 ⟨h3, h4⟩
      exact ⟨edgesB_own h3 rfl, h4⟩)
end
set_option maxHeartbeats 1000000 in
theorem own_any (n : Int) (es : List E) (hsm : es.length ≤ 1000) (v : Value) (w : World) (hE : Edges w v es) : Ans 7 [gv n v] w (fun u w' => Below w.heap.size w w' ∧ ∃ x, u = gv n x ∧ EdgesB w.heap.size w' x es) := by
  have hE0 := hE
  obtain ⟨A, c, rfl, h1, h2, hA⟩ := hE
  obtain ⟨i45, hi45, hz45, hs45, hb45⟩ := info_parts inf45
  refine calls_qx (args := [gv n (.slice A es.length c)]) 10 Tryz.func7 rfl (by kernel_rfl) (by simp) (fun a hS => ?_)
  refine qx_seq (reg_seq ?_)
  refine seq_op hS (by decide) (runs_box rfl) (fun v1 w1 a1 hp1 hS => ?_)
  obtain ⟨rfl, hw1⟩ := hp1
  obtain ⟨hG, hB1⟩ : Has w1 w.heap.size 24 [.int .i64 n, .slice A es.length c] ∧ Below w.heap.size w w1 := by rw [hw1]; exact new_box w 24 [.int .i64 n, .slice A es.length c]
  clear hw1
  have hE := hE0.kept hB1
  refine seq_op hS (by decide) (runs_alloc24) (fun v2 w2 a2 hp2 hS => ?_)
  obtain ⟨rfl, hw2⟩ := hp2
  obtain ⟨hR, hB2⟩ : Has w2 w1.heap.size 24 [.int .i64 0, .slice none 0 0] ∧ Below w1.heap.size w1 w2 := by rw [hw2]; exact new_box w1 24 _
  clear hw2
  have hG := hG.below hB2 hG.lt
  have hE := hE.kept hB2
  have hB := hB1.trans (hB2.mono hB1.size)
  have hgr : w.heap.size ≤ w1.heap.size := hB1.size
  generalize hg0 : w.heap.size = g0 at *
  generalize w1.heap.size = gr at *
  refine nil_ok ?_
  refine qx_seq (reg_guard (fun w3 => Below w2.heap.size w2 w3) [.inl (.pointer (some ⟨g0, 0 + 0, none⟩)), .inl (.int .i64 n), .inr (fun v _ => ∃ g, v = .slice (some ⟨g, 0, none⟩) 0 0), .inl (.pointer (some ⟨g0, 0 + 1, none⟩)), .inl (.slice A es.length c), .inr (fun v w' => EdgesB w2.heap.size w' v es)] 6 2 mixed rfl (by kernel_rfl) hS (Below.refl _ _) (fun _ h => h.drew) ?_)
  refine hs_is rfl (fun w' hw => runs_f24 (by decide) rfl) ?_
  refine hs_is rfl (fun w' hw => runs_loadN rfl (hG.below hw hG.lt)) ?_
  refine hs_pr rfl (fun _ _ _ h _ => h) (fun w' hw hq => (runs_buildNone und22 hi45).mono (by rintro v w3 ⟨rfl, rfl⟩; exact ⟨⟨_, rfl⟩, hw.alloc hw.size _, (Below.refl _ _).alloc (Nat.le_refl _) _⟩)) (fun v2 => ?_)
  refine hs_is rfl (fun w' hw => runs_f24 (by decide) rfl) ?_
  refine hs_is rfl (fun w' hw => runs_loadV rfl (hG.below hw hG.lt)) ?_
  refine hs_pr rfl (fun _ _ _ h hb => h.kept hb) (fun w' hw hq => (by obtain ⟨g, rfl⟩ := hq (2, _) List.mem_cons_self (by kernel_rfl); exact (copy_edges (hE.kept hw) hsm rfl rfl).mono (by rintro u w3 ⟨h1, h2⟩; exact ⟨h1.mono hw.size, hw.trans (h2.mono hw.size), h2⟩))) (fun v5 => ?_)
  refine (fun a5 w5 hS5 hB5 hq => ?_)
  have hE5 := hq (5, _) List.mem_cons_self
  have hE5' := hE5
  obtain ⟨A5, c5, rfl, _, _, _⟩ := hE5'
  have hrl := hR.lt
  have hR := hR.below hB5 hR.lt
  have hB0 := hB.size
  have hB := hB.trans (hB5.mono (by omega))
  refine tail_op 6 (by kernel_rfl) rfl hS5 (by decide) (runs_build24 rfl rfl) (fun v6 w6 a6 hp6 hS6 => ⟨trivial, ?_⟩)
  obtain ⟨rfl, rfl⟩ := hp6
  refine tail_none 7 (by kernel_rfl) rfl hS6 (runs_store24 rfl rfl hR rfl) (fun v7 w7 a7 hp7 hS7 => ⟨trivial, ?_⟩)
  obtain ⟨rfl, hw7⟩ := hp7
  have hR7 : Has w7 gr 24 [.int .i64 n, .slice A5 es.length c5] := by rw [hw7]; exact has_setRow hR
  have hB7 : Below g0 w w7 := by rw [hw7]; exact below_rowB hB hgr _
  have hE7 : EdgesB w2.heap.size w7 (.slice A5 es.length c5) es := by rw [hw7]; exact hE5.setRow hrl _
  refine wpAnyH_done (by kernel_rfl) ?_ _
  exact qx_ret (retG1 (p := 2) (by kernel_rfl) hS7 rfl hR7 ⟨_, rfl, hB7, _, rfl, hE7.mono (by omega)⟩)
end Go.Proofs.YtapcpmalgdhakaaGreat
