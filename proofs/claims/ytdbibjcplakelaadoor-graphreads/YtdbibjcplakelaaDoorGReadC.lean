/- Layer 5: Read; a graph of its own memory; the same edges. Conditions: none of our own. -/
import Derived.Test.YtdbibjcplakelaaDoorGReadB
import Derived.Test.YtdbibjcplakelaaDoorGShowB
namespace Go.Proofs.YtdbibjcplakelaaDoor
open Go.RowKit
set_option maxRecDepth 100000

theorem goes13 : Goes Tryd.prog 13 := goes_of Tryd.func13 (by kernel_rfl) rfl
theorem goes19 : Goes Tryd.prog 19 := goes_of Tryd.func19 (by kernel_rfl) rfl
theorem goes15 : Goes Tryd.prog 15 := goes_of Tryd.func15 (by kernel_rfl) rfl
/-- What Read answers: the graph's number and edges, the line, the error. -/
def ReadIs (s : Bs) (k : Int) (l : List E) (at_ e : Int) : Prop := match rdT s with
  | .inl j => k = 0 ∧ l = [] ∧ at_ = j ∧ e = 52
  | .inr p => at_ = 0 ∧ e = checkZ p.1 p.2 ∧ (checkZ p.1 p.2 = 0 → k = p.1 ∧ l = normL p.1.toNat p.2) ∧ (checkZ p.1 p.2 ≠ 0 → k = 0 ∧ l = [])
set_option maxHeartbeats 1000000 in
theorem read_any (s : ByteArray) (hs : s.size ≤ 1000000) (w : World) (hk : Kept w) : Ans 23 [.string s] w (fun u w' => Below w.heap.size w w' ∧ ∃ k x l at_ e, u = .tuple #[gv k x, .int .i64 at_, .int .i64 e] ∧ EdgesB w.heap.size w' x l ∧ ReadIs s.data.toList k l at_ e) := by
  refine calls_qx (args := [.string s]) 24 Tryd.func23 rfl (by kernel_rfl) (by simp) (fun a hS => ?_)
  refine qx_seq (reg_seq ?_)
  refine seq_op hS (by decide) (runs_alloc24) (fun v1 w1 a1 hp1 hS => ?_)
  obtain ⟨rfl, hw1⟩ := hp1
  obtain ⟨hR, hB1⟩ : Has w1 w.heap.size 24 [.int .i64 0, .slice none 0 0] ∧ Below w.heap.size w w1 := by rw [hw1]; exact new_box w 24 _
  clear hw1
  have hk1 := hk.on hB1
  have hR0 := hR.lt
  refine seq_is hS (by decide) (runs_assign rfl) (fun a1 hS => ?_)
  refine seq_is hS (by decide) (runs_assign rfl) (fun a1 hS => ?_)
  have hlines := lines_any s hs w1 hk1
  refine nil_ok (qx_seq (reg_seq ?_))
  cases hrd : rdT s.data.toList with
  | inl j =>
    rw [hrd] at hlines
    refine seq_is hS (by decide) (runs_move rfl) (fun a1 hS => ?_)
    refine seq_op hS (by decide) (runs_call (args := [.string s]) goes34 rfl hlines) (fun v2 w2 a2 hp2 hS => ?_)
    obtain ⟨hB2, rfl, hj⟩ := hp2
    have hR := hR.below hB2 hR.lt
    have hB := hB1.trans (hB2.mono hB1.size)
    refine seq_is hS (by decide) (runs_move rfl) (fun a1 hS => ?_)
    refine seq_is hS (by decide) (runs_extract rfl rfl) (fun a1 hS => ?_)
    refine seq_is hS (by decide) (runs_extract rfl rfl) (fun a1 hS => ?_)
    refine seq_op hS (by decide) (runs_alloc24) (fun v3 w3 a3 hp3 hS => ?_)
    obtain ⟨rfl, hw3⟩ := hp3
    refine seq_none hS (runs_store24 rfl rfl (by rw [hw3]; exact Has.new w2 24 [.int .i64 0, .slice none 0 0]) rfl) (fun v4 w4 a4 hp4 hS => ?_)
    obtain ⟨rfl, hw4⟩ := hp4
    obtain ⟨hG, hB4⟩ : Has w4 w2.heap.size 24 [.int .i64 0, .slice none 0 0] ∧ Below w2.heap.size w2 w4 := by rw [hw4, hw3]; exact new_row w2 24 [.int .i64 0, .slice none 0 0] [.int .i64 0, .slice none 0 0]
    clear hw4 hw3
    have hR := hR.below hB4 hR.lt
    have hB4 := hB.trans (hB4.mono hB.size)
    refine seq_is hS (by decide) (runs_assign rfl) (fun a1 hS => ?_)
    refine nil_ok (qx_seq (qx_seq (reg_seq ?_)))
    refine seq_is hS (by decide) (runs_move rfl) (fun a1 hS => ?_)
    refine seq_is hS (by decide) (runs_gtr (r := true) rfl rfl (by rw [decide_eq_true_eq]; omega)) (fun a1 hS => ?_)
    refine nil_ok (wp_cond_true (hS.eval rfl) (qx_seq (reg_seq ?_)))
    refine seq_is hS (by decide) (runs_build24n) (fun a1 hS => ?_)
    refine seq_is hS (by decide) (runs_move rfl) (fun a1 hS => ?_)
    refine seq_none hS (runs_store24 rfl rfl hR rfl) (fun v6 w6 a6 hp6 hS => ?_)
    obtain ⟨rfl, hw6⟩ := hp6
    have hR6 : Has w6 w.heap.size 24 [.int .i64 0, .slice none 0 0] := by rw [hw6]; exact has_setRow hR
    have hB6 : Below w.heap.size w w6 := by rw [hw6]; exact below_rowB hB4 (Nat.le_refl _) _
    refine seq_is hS (by decide) (runs_assign rfl) (fun a1 hS => ?_)
    refine seq_is hS (by decide) (runs_assign rfl) (fun a1 hS => ?_)
    exact nil_ok (qx_ret (retG3 (p := 2) (t := 3) (r := 4) (by kernel_rfl) hS rfl rfl rfl hR6 ⟨_, rfl, hB6, _, _, [], _, _, rfl, edgesB_nil _ _, by rw [ReadIs, hrd]; exact ⟨rfl, rfl, rfl, rfl⟩⟩))
  | inr p =>
    obtain ⟨n, es⟩ := p
    rw [hrd] at hlines
    refine seq_is hS (by decide) (runs_move rfl) (fun a1 hS => ?_)
    refine seq_op hS (by decide) (runs_call (args := [.string s]) goes34 rfl hlines) (fun v2 w2 a2 hp2 hS => ?_)
    obtain ⟨hB2, v, rfl, hE⟩ := hp2
    simp only at hE hS
    obtain ⟨A, c, rfl, _, _, _⟩ := id hE
    have hR := hR.below hB2 hR.lt
    have hB := hB1.trans (hB2.mono hB1.size)
    refine seq_is hS (by decide) (runs_move rfl) (fun a1 hS => ?_)
    refine seq_is hS (by decide) (runs_extract rfl rfl) (fun a1 hS => ?_)
    refine seq_is hS (by decide) (runs_extract rfl rfl) (fun a1 hS => ?_)
    refine seq_op hS (by decide) (runs_alloc24) (fun v3 w3 a3 hp3 hS => ?_)
    obtain ⟨rfl, hw3⟩ := hp3
    refine seq_none hS (runs_store24 rfl rfl (by rw [hw3]; exact Has.new w2 24 [.int .i64 0, .slice none 0 0]) rfl) (fun v4 w4 a4 hp4 hS => ?_)
    obtain ⟨rfl, hw4⟩ := hp4
    obtain ⟨hG, hB4⟩ : Has w4 w2.heap.size 24 [.int .i64 n, .slice A es.length c] ∧ Below w2.heap.size w2 w4 := by rw [hw4, hw3]; exact new_row w2 24 [.int .i64 0, .slice none 0 0] [.int .i64 n, .slice A es.length c]
    clear hw4 hw3
    have hE := hE.kept hB4
    have hR := hR.below hB4 hR.lt
    have hB4 := hB.trans (hB4.mono hB.size)
    refine seq_is hS (by decide) (runs_assign rfl) (fun a1 hS => ?_)
    refine nil_ok (qx_seq (qx_seq (reg_seq ?_)))
    refine seq_is hS (by decide) (runs_move rfl) (fun a1 hS => ?_)
    refine seq_is hS (by decide) (runs_gtr (r := false) rfl rfl (by simp)) (fun a1 hS => ?_)
    refine nil_ok (wp_cond_false (hS.eval rfl) (wp_skip (qx_seq (reg_seq ?_))))
    refine seq_is hS (by decide) (runs_loadG rfl hG) (fun a1 hS => ?_)
    refine seq_op hS (by decide) (runs_call (args := [gv n (.slice A es.length c)]) goes12 rfl (norm_any n es _ w4 hE.edges)) (fun v5 w5 a5 hp5 hS => ?_)
    obtain ⟨hB5, k, x, l, rfl, hl, hyes, hno⟩ := hp5
    obtain ⟨A2, c2, rfl, _, _, _⟩ := id hl
    have hgl := hG.lt
    have hrl := hR.lt
    have hG := hG.below hB5 hG.lt
    have hR := hR.below hB5 hR.lt
    have hBs : w.heap.size ≤ w4.heap.size := hB4.size
    have hB := hB4.trans (hB5.mono hB4.size)
    refine seq_is hS (by decide) (runs_move rfl) (fun a1 hS => ?_)
    refine seq_is hS (by decide) (runs_extract rfl rfl) (fun a1 hS => ?_)
    refine seq_is hS (by decide) (runs_extract rfl rfl) (fun a1 hS => ?_)
    refine seq_none hS (runs_store24 rfl rfl hG rfl) (fun v6 w6 a6 hp6 hS => ?_)
    obtain ⟨rfl, hw6⟩ := hp6
    have hne : w.heap.size ≠ w2.heap.size := by have := hB2.size; have := hR0; omega
    have hG6 : Has w6 w2.heap.size 24 [.int .i64 k, .slice A2 l.length c2] := by rw [hw6]; exact has_setRow hG
    have hR6 : Has w6 w.heap.size 24 [.int .i64 0, .slice none 0 0] := by unfold Has; rw [hw6, setRow_other _ _ _ _ hne]; exact hR
    have hl6 : EdgesB w4.heap.size w6 (.slice A2 l.length c2) l := by rw [hw6]; exact hl.setRow hgl _
    have hB6 : Below w.heap.size w w6 := by rw [hw6]; exact below_rowB hB (by have := hB2.size; have := hB1.size; omega) _
    clear hw6
    refine seq_is hS (by decide) (runs_assign rfl) (fun a1 hS => ?_)
    refine nil_ok (qx_seq (reg_seq ?_))
    refine seq_is hS (by decide) (runs_loadG rfl hG6) (fun a1 hS => ?_)
    refine seq_is hS (by decide) (runs_move rfl) (fun a1 hS => ?_)
    refine seq_none hS (runs_store24 rfl rfl hR6 rfl) (fun v7 w7 a7 hp7 hS => ?_)
    obtain ⟨rfl, hw7⟩ := hp7
    have hR7 : Has w7 w.heap.size 24 [.int .i64 k, .slice A2 l.length c2] := by rw [hw7]; exact has_setRow hR6
    have hl7 : EdgesB w4.heap.size w7 (.slice A2 l.length c2) l := by rw [hw7]; exact hl6.setRow hrl _
    have hB7 : Below w.heap.size w w7 := by rw [hw7]; exact below_rowB hB6 (Nat.le_refl _) _
    refine seq_is hS (by decide) (runs_assign rfl) (fun a1 hS => ?_)
    refine seq_is hS (by decide) (runs_assign rfl) (fun a1 hS => ?_)
    exact nil_ok (qx_ret (retG3 (p := 2) (t := 3) (r := 4) (by kernel_rfl) hS rfl rfl rfl hR7 ⟨_, rfl, hB7, _, _, l, _, _, rfl, hl7.mono hBs, by rw [ReadIs, hrd]; exact ⟨rfl, rfl, hyes, hno⟩⟩))
section
variable {P : Program} {L : List (Nat × Value)} {w : World} {ty : TypeId}
theorem runs_append0N {t e : TypeId} {s x : Operand} {i : TypeInfo} {z : Value} {bytes g m c sz : Nat} {news : List Value} {ad : Addr} (ht : P.underlying t = some (.slice e)) (hi : P.info? e = some i) (hz : i.zero = some z)
    (hsize : i.size = sz) (hby : i.bytes = bytes) (hzs : z.cells.size = sz) (hsz : 0 < sz) (hs : vals L s = some (.slice (some ⟨g, 0, none⟩) 0 0)) (hx : vals L x = some (.slice (some ad) m c)) (hl : news.length = m * sz) (hnews : ∀ j u, news[j]? = some u → w.cell? (ad.add j) = some u)
    (h63 : m ≤ maxLen) (hbytes : m * bytes ≤ 140737488355328) (hm : 0 < m) :
    Runs P (.call { callee := .builtin .append, args := #[s, x], argTypes := #[t, t] }) ty L w (fun v w' => w'.ownsRow w.heap.size e sz v m news ∧ Below w.heap.size w w') := fun o a K Q ho _ hL hK => by
  have e1 := hL s (by simp [Op.operands, Call.operands]) _ hs
  have e2 := hL x (by simp [Op.operands, Call.operands]) _ hx
  obtain ⟨v', w', hr, h2, h3⟩ := run_append_arg_grows (P := P) w t o.type e i z sz bytes ht hi hz hsize hby hzs hsz ⟨g, 0, none⟩ 0 0 [] (by simp) (fun j u h => by simp at h) ad m c news hl hnews (by omega) (by omega) (by simpa using hbytes)
  unfold Oper.wp execOp
  simp only [ho, resolve, invoke, builtin, Sem.run_bind, Sem.run_pure, Result.andThen_ok, List.map_toArray, List.map_cons, List.map_nil, e1, e2, hr]
  rw [Nat.zero_add, List.nil_append] at h2
  exact hK v' w' ⟨h2, (Below.refl _ _).grown h3 (Nat.le_refl _) (fun k h => by cases h)⟩
end
section
variable {L : List (Nat × Value)} {w : World} {ty : TypeId}
/-- A copy of a slice of edges. -/
theorem copy_edges {s x : Operand} {g : Nat} {v : Value} {es : List E} (hE : Edges w v es) (hn : es.length ≤ 1000) (hs2 : vals L s = some (.slice (some ⟨g, 0, none⟩) 0 0)) (hx : vals L x = some v) :
    Runs Tryd.prog (.call { callee := .builtin .append, args := #[s, x], argTypes := #[22, 22] }) ty L w (fun u w2 => EdgesB w.heap.size w2 u es ∧ Below w.heap.size w w2) := by
  obtain ⟨i45, hi45, hz45, hs45, hb45⟩ := info_parts inf45
  obtain ⟨A, c, rfl, hc1, hc2, hA⟩ := hE
  by_cases h0 : es.length = 0
  · obtain rfl : es = [] := List.eq_nil_of_length_eq_zero h0
    exact (runs_appendNone und22 hi45 hs2 (Nat.le_refl _) (by simp) hx).mono (by
      rintro u w2 ⟨rfl, rfl⟩
      exact ⟨⟨_, 0, rfl, Nat.le_refl _, by unfold maxLen; omega, fun h => absurd h (by simp)⟩, Below.refl _ _⟩)
  · obtain ⟨b, o, rfl, hb, hr⟩ := hA (by omega)
    exact (runs_append0N (m := es.length) und22 hi45 hz45 hs45 hb45 rfl (by omega) hs2 hx (news := cellsE es) (cellsE_length es) (fun j u hu => by rw [add_lit']; exact hr j u hu) (by unfold maxLen; omega) (by omega) (by omega)).mono (by
      rintro u w2 ⟨h3, h4⟩
      exact ⟨edgesB_own h3 rfl, h4⟩)
end
set_option maxHeartbeats 1000000 in
theorem own_any (n : Int) (es : List E) (hsm : es.length ≤ 1000) (v : Value) (w : World) (hE : Edges w v es) : Ans 13 [gv n v] w (fun u w' => Below w.heap.size w w' ∧ ∃ x, u = gv n x ∧ EdgesB w.heap.size w' x es) := by
  have hE0 := hE
  obtain ⟨A, c, rfl, h1, h2, hA⟩ := hE
  obtain ⟨i45, hi45, hz45, hs45, hb45⟩ := info_parts inf45
  refine calls_qx (args := [gv n (.slice A es.length c)]) 10 Tryd.func13 rfl (by kernel_rfl) (by simp) (fun a hS => ?_)
  refine qx_seq (reg_seq ?_)
  refine seq_op hS (by decide) (runs_box rfl) (fun v1 w1 a1 hp1 hS => ?_)
  obtain ⟨rfl, hw1⟩ := hp1
  obtain ⟨hG, hB1⟩ : Has w1 w.heap.size 24 [.int .i64 n, .slice A es.length c] ∧ Below w.heap.size w w1 := by rw [hw1]; exact new_box w 24 [.int .i64 n, .slice A es.length c]
  clear hw1
  have hE := hE0.kept hB1
  refine seq_op hS (by decide) (runs_alloc24) (fun v2 w2 a2 hp2 hS => ?_)
  obtain ⟨rfl, hw2⟩ := hp2
  obtain ⟨hR, hB2⟩ : Has w2 w1.heap.size 24 [.int .i64 0, .slice none 0 0] ∧ Below w1.heap.size w1 w2 := by rw [hw2]; exact new_box w1 24 _
  clear hw2
  have hG := hG.below hB2 hG.lt
  have hE := hE.kept hB2
  have hB := hB1.trans (hB2.mono hB1.size)
  have hgr : w.heap.size ≤ w1.heap.size := hB1.size
  generalize hg0 : w.heap.size = g0 at *
  generalize w1.heap.size = gr at *
  refine nil_ok ?_
  refine qx_seq (reg_guard (fun w3 => Below w2.heap.size w2 w3) [.inl (.pointer (some ⟨g0, 0 + 0, none⟩)), .inl (.int .i64 n), .inr (fun v _ => ∃ g, v = .slice (some ⟨g, 0, none⟩) 0 0), .inl (.pointer (some ⟨g0, 0 + 1, none⟩)), .inl (.slice A es.length c), .inr (fun v w' => EdgesB w2.heap.size w' v es)] 6 2 mixed rfl (by kernel_rfl) hS (Below.refl _ _) (fun _ h => h.drew) ?_)
  refine hs_is rfl (fun w' hw => runs_f24 (by decide) rfl) ?_
  refine hs_is rfl (fun w' hw => runs_loadN rfl (hG.below hw hG.lt)) ?_
  refine hs_pr rfl (fun _ _ _ h _ => h) (fun w' hw hq => (runs_buildNone und22 hi45).mono (by rintro v w3 ⟨rfl, rfl⟩; exact ⟨⟨_, rfl⟩, hw.alloc hw.size _, (Below.refl _ _).alloc (Nat.le_refl _) _⟩)) (fun v2 => ?_)
  refine hs_is rfl (fun w' hw => runs_f24 (by decide) rfl) ?_
  refine hs_is rfl (fun w' hw => runs_loadV rfl (hG.below hw hG.lt)) ?_
  refine hs_pr rfl (fun _ _ _ h hb => h.kept hb) (fun w' hw hq => (by obtain ⟨g, rfl⟩ := hq (2, _) List.mem_cons_self (by kernel_rfl); exact (copy_edges (hE.kept hw) hsm rfl rfl).mono (by rintro u w3 ⟨h1, h2⟩; exact ⟨h1.mono hw.size, hw.trans (h2.mono hw.size), h2⟩))) (fun v5 => ?_)
  refine (fun a5 w5 hS5 hB5 hq => ?_)
  have hE5 := hq (5, _) List.mem_cons_self
  have hE5' := hE5
  obtain ⟨A5, c5, rfl, _, _, _⟩ := hE5'
  have hrl := hR.lt
  have hR := hR.below hB5 hR.lt
  have hB0 := hB.size
  have hB := hB.trans (hB5.mono (by omega))
  refine tail_op 6 (by kernel_rfl) rfl hS5 (by decide) (runs_build24 rfl rfl) (fun v6 w6 a6 hp6 hS6 => ⟨trivial, ?_⟩)
  obtain ⟨rfl, rfl⟩ := hp6
  refine tail_none 7 (by kernel_rfl) rfl hS6 (runs_store24 rfl rfl hR rfl) (fun v7 w7 a7 hp7 hS7 => ⟨trivial, ?_⟩)
  obtain ⟨rfl, hw7⟩ := hp7
  have hR7 : Has w7 gr 24 [.int .i64 n, .slice A5 es.length c5] := by rw [hw7]; exact has_setRow hR
  have hB7 : Below g0 w w7 := by rw [hw7]; exact below_rowB hB hgr _
  have hE7 : EdgesB w2.heap.size w7 (.slice A5 es.length c5) es := by rw [hw7]; exact hE5.setRow hrl _
  refine wpAnyH_done (by kernel_rfl) ?_ _
  exact qx_ret (retG1 (p := 2) (by kernel_rfl) hS7 rfl hR7 ⟨_, rfl, hB7, _, rfl, hE7.mono (by omega)⟩)
set_option maxHeartbeats 1000000 in
theorem row_any (xs ys : List E) (va vb : Value) (w : World) (ha : Edges w va xs) (hb : Edges w vb ys) : Ans 19 [va, vb] w (fun u w' => u = .bool (decide (xs = ys)) ∧ Below w.heap.size w w') := by
  have ha0 := ha
  have hb0 := hb
  obtain ⟨A, c, rfl, _, h2, hA⟩ := ha
  obtain ⟨A', c', rfl, _, _, hA'⟩ := hb
  unfold maxLen at h2
  refine calls_qx (args := [.slice A xs.length c, .slice A' ys.length c']) 26 Tryd.func19 rfl (by kernel_rfl) (by simp) (fun a hS => ?_)
  refine qx_seq (reg_seq ?_)
  refine seq_is hS (by decide) (runs_assign rfl) (fun a1 hS => ?_)
  refine nil_ok (qx_seq (qx_seq (reg_seq ?_)))
  refine seq_is hS (by decide) (runs_move rfl) (fun a1 hS => ?_)
  refine seq_is hS (by decide) (runs_len rfl und22) (fun a1 hS => ?_)
  refine seq_is hS (by decide) (runs_move rfl) (fun a1 hS => ?_)
  refine seq_is hS (by decide) (runs_len rfl und22) (fun a1 hS => ?_)
  by_cases hl : xs.length = ys.length
  · skip
    refine seq_is hS (by decide) (runs_neq (r := false) rfl rfl (by simp; omega)) (fun a1 hS => ?_)
    refine nil_ok (wp_cond_false (hS.eval rfl) (wp_skip (qx_seq (qx_seq (reg_seq ?_)))))
    refine seq_is hS (by decide) (runs_assign rfl) (fun a1 hS => ?_)
    refine nil_ok (qx_for (fun m a w' => ∃ i : Nat, i ≤ xs.length ∧ m = xs.length - i ∧ Below w.heap.size w w' ∧ (∀ j, j < i → xs[j]? = ys[j]?) ∧ Sees 26 [(5, .int .i64 (i : Int)), (0, .slice A xs.length c), (1, .slice A' ys.length c')] a) xs.length ⟨0, by omega, by omega, Below.refl _ _, by omega, hS.only _ ⟨rfl, rfl, rfl, trivial⟩⟩ ?_)
    rintro m a w' ⟨i, hi, rfl, hB, heq, hS⟩
    refine reg_seq ?_
    refine seq_is hS (by decide) (runs_move rfl) (fun a1 hS => ?_)
    refine seq_is hS (by decide) (runs_move rfl) (fun a1 hS => ?_)
    refine seq_is hS (by decide) (runs_len rfl und22) (fun a1 hS => ?_)
    by_cases hlt : i < xs.length
    · skip
      obtain ⟨b, o, rfl, hb, hr⟩ := hA (by omega)
      obtain ⟨b', o', rfl, hb', hr'⟩ := hA' (by omega)
      obtain ⟨x, hx⟩ : ∃ x, xs[i]? = some x := ⟨_, List.getElem?_eq_getElem hlt⟩
      obtain ⟨y, hy⟩ : ∃ y, ys[i]? = some y := ⟨_, List.getElem?_eq_getElem (by omega)⟩
      have hrx := range_below (edges_at hr hx) hB hb
      have hry := range_below (edges_at hr' hy) hB hb'
      have hbw := Nat.lt_of_lt_of_le hb hB.size
      have hbw' := Nat.lt_of_lt_of_le hb' hB.size
      refine seq_is hS (by decide) (runs_lss (r := true) rfl rfl (by rw [decide_eq_true_eq]; omega)) (fun a1 hS => ?_)
      refine nil_ok ⟨_, hS.eval rfl, fun h => by simp at h, fun _ => ?_⟩
      refine qx_seq (qx_block ?_)
      refine qx_seq (reg_guard (fun w2 => Below w'.heap.size w' w2) [.inl (.slice (some ⟨b, o, none⟩) xs.length c), .inl (.int .i64 (i : Int)), .inl (.pointer (some ⟨b, o + i * 3, none⟩)), .inl (.agg (encE x).toArray), .inl (.slice (some ⟨b', o', none⟩) ys.length c'), .inl (.int .i64 (i : Int)), .inl (.pointer (some ⟨b', o' + i * 3, none⟩)), .inl (.agg (encE y).toArray), .inl (.bool (!decide (x = y)))] 9 0 mixed rfl (by kernel_rfl) hS (Below.refl _ _) (fun _ h => h.drew) ?_)
      refine hs_is rfl (fun w' hw => runs_move rfl) ?_
      refine hs_is rfl (fun w' hw => runs_move rfl) ?_
      refine hs_is rfl (fun w' hw => runs_indexAddrG (j := i) rfl rfl und22 siz45 rfl hlt) ?_
      refine hs_is rfl (fun w' hw => runs_loadE rfl (range_below hrx hw hbw)) ?_
      refine hs_is rfl (fun w' hw => runs_move rfl) ?_
      refine hs_is rfl (fun w' hw => runs_move rfl) ?_
      refine hs_is rfl (fun w' hw => runs_indexAddrG (j := i) rfl rfl und22 siz45 rfl (by omega)) ?_
      refine hs_is rfl (fun w' hw => runs_loadE rfl (range_below hry hw hbw')) ?_
      refine hs_is rfl (fun w' hw => runs_neE rfl rfl rfl) ?_
      refine (fun a5 w5 hS5 hB5 _ => ?_)
      refine wpAnyH_done (by kernel_rfl) ?_ _
      have hB := hB.trans (hB5.mono hB.size)
      have hS := hS5
      by_cases hxy : x = y
      · skip
        rw [show (!decide (x = y)) = false by simp [hxy]] at hS
        refine wp_cond_false (hS.eval rfl) (wp_skip ?_)
        refine reg_seq ?_
        refine seq_is hS (by decide) (runs_move rfl) (fun a1 hS => ?_)
        refine seq_is hS (by decide) (runs_add (r := ((i + 1 : Nat) : Int)) rfl rfl (by simp [IntKind.wrap, IntKind.bits, IntKind.signed]; omega)) (fun a1 hS => ?_)
        refine seq_is hS (by decide) (runs_assign rfl) (fun a1 hS => ?_)
        exact nil_ok ⟨_, by omega, i + 1, by omega, rfl, hB, fun j hj => by
          by_cases hji : j = i
          · subst hji; rw [hx, hy, hxy]
          · exact heq j (by omega), hS.only _ ⟨rfl, rfl, rfl, trivial⟩⟩
      · skip
        rw [show (!decide (x = y)) = true by simp [hxy]] at hS
        refine wp_cond_true (hS.eval rfl) (qx_seq (reg_seq ?_))
        refine seq_is hS (by decide) (runs_assign rfl) (fun a1 hS => ?_)
        exact nil_ok (qx_ret (ret1 (t := 4) (by kernel_rfl) hS rfl ⟨_, rfl, by rw [decide_eq_false (fun h => hxy (by rw [h, hy] at hx; exact (Option.some.inj hx).symm))], hB⟩))
    · skip
      refine seq_is hS (by decide) (runs_lss (r := false) rfl rfl (by rw [decide_eq_false_iff_not]; omega)) (fun a1 hS => ?_)
      refine nil_ok ⟨_, hS.eval rfl, fun _ => ?_, fun h => by simp at h⟩
      refine qx_seq (reg_seq ?_)
      refine seq_is hS (by decide) (runs_assign rfl) (fun a1 hS => ?_)
      exact nil_ok (qx_ret (ret1 (t := 4) (by kernel_rfl) hS rfl ⟨_, rfl, by rw [decide_eq_true (List.ext_getElem? (fun j => by
        by_cases hj : j < xs.length
        · exact heq j (by omega)
        · rw [List.getElem?_eq_none (by omega), List.getElem?_eq_none (by omega)]))], hB⟩))
  · skip
    refine seq_is hS (by decide) (runs_neq (r := true) rfl rfl (by simp; omega)) (fun a1 hS => ?_)
    refine nil_ok (wp_cond_true (hS.eval rfl) (qx_seq (reg_seq ?_)))
    refine seq_is hS (by decide) (runs_assign rfl) (fun a1 hS => ?_)
    exact nil_ok (qx_ret (ret1 (t := 4) (by kernel_rfl) hS rfl ⟨_, rfl, by rw [decide_eq_false (fun h => hl (by rw [h]))], Below.refl _ _⟩))
set_option maxHeartbeats 1000000 in
theorem same_any (n m : Int) (xs ys : List E) (va vb : Value) (w : World) (ha : Edges w va xs) (hb : Edges w vb ys) : Ans 15 [gv n va, gv m vb] w (fun u w' => u = .bool (decide (n = m ∧ xs = ys)) ∧ Below w.heap.size w w') := by
  refine calls_qx (args := [gv n va, gv m vb]) 17 Tryd.func15 rfl (by kernel_rfl) (by simp) (fun a hS => ?_)
  refine qx_seq (reg_seq ?_)
  refine seq_op hS (by decide) (runs_box rfl) (fun v1 w1 a1 hp1 hS => ?_)
  obtain ⟨rfl, hw1⟩ := hp1
  obtain ⟨hG, hB1⟩ : Has w1 w.heap.size 24 [.int .i64 n, va] ∧ Below w.heap.size w w1 := by rw [hw1]; exact new_box w 24 [.int .i64 n, va]
  clear hw1
  have ha := ha.kept hB1
  have hb := hb.kept hB1
  refine seq_op hS (by decide) (runs_box rfl) (fun v2 w2 a2 hp1 hS => ?_)
  obtain ⟨rfl, hw1⟩ := hp1
  obtain ⟨hG2, hB2⟩ : Has w2 w1.heap.size 24 [.int .i64 m, vb] ∧ Below w1.heap.size w1 w2 := by rw [hw1]; exact new_box w1 24 [.int .i64 m, vb]
  clear hw1
  have ha := ha.kept hB2
  have hb := hb.kept hB2
  have hG := hG.below hB2 hG.lt
  have hB := hB1.trans (hB2.mono hB1.size)
  refine seq_is hS (by decide) (runs_assign rfl) (fun a1 hS => ?_)
  refine nil_ok (qx_seq (reg_seq ?_))
  refine seq_is hS (by decide) (runs_f24 (by decide) rfl) (fun a1 hS => ?_)
  refine seq_is hS (by decide) (runs_loadN rfl hG) (fun a1 hS => ?_)
  refine seq_is hS (by decide) (runs_f24 (by decide) rfl) (fun a1 hS => ?_)
  refine seq_is hS (by decide) (runs_loadN rfl hG2) (fun a1 hS => ?_)
  by_cases h1 : n = m
  · skip
    refine seq_is hS (by decide) (runs_eql (r := true) rfl rfl (by simp [h1])) (fun a1 hS => ?_)
    refine seq_is hS (by decide) (runs_move rfl) (fun a1 hS => ?_)
    refine seq_yis hS (by decide) rfl (by decide) rfl (runs_f24 (by decide) rfl) (fun a1 hS => ?_)
    refine seq_yis hS (by decide) rfl (by decide) rfl (runs_loadV rfl hG) (fun a1 hS => ?_)
    refine seq_yis hS (by decide) rfl (by decide) rfl (runs_f24 (by decide) rfl) (fun a1 hS => ?_)
    refine seq_yis hS (by decide) rfl (by decide) rfl (runs_loadV rfl hG2) (fun a1 hS => ?_)
    refine seq_yes hS (by decide) rfl (by decide) rfl (runs_call (args := [va, vb]) goes19 rfl (row_any xs ys va vb w2 ha hb)) (fun v3 w3 a3 hp3 hS => ?_)
    obtain ⟨rfl, hB3⟩ := hp3
    have hB := hB.trans (hB3.mono hB.size)
    refine seq_is hS (by decide) (runs_pick rfl rfl) (fun a1 hS => ?_)
    refine seq_is hS (by decide) (runs_assign rfl) (fun a1 hS => ?_)
    exact nil_ok (qx_ret (ret1 (t := 4) (by kernel_rfl) hS rfl ⟨_, rfl, by simp [h1], hB⟩))
  · skip
    refine seq_is hS (by decide) (runs_eql (r := false) rfl rfl (by simp [h1])) (fun a1 hS => ?_)
    refine seq_is hS (by decide) (runs_move rfl) (fun a1 hS => ?_)
    refine seq_no hS (by decide) rfl (by decide) rfl rfl (fun a1 hS => ?_)
    refine seq_no hS (by decide) rfl (by decide) rfl rfl (fun a1 hS => ?_)
    refine seq_no hS (by decide) rfl (by decide) rfl rfl (fun a1 hS => ?_)
    refine seq_no hS (by decide) rfl (by decide) rfl rfl (fun a1 hS => ?_)
    refine seq_no hS (by decide) rfl (by decide) rfl rfl (fun a1 hS => ?_)
    refine seq_is hS (by decide) (runs_pick rfl rfl) (fun a1 hS => ?_)
    refine seq_is hS (by decide) (runs_assign rfl) (fun a1 hS => ?_)
    exact nil_ok (qx_ret (ret1 (t := 4) (by kernel_rfl) hS rfl ⟨_, rfl, by simp [h1], hB⟩))
end Go.Proofs.YtdbibjcplakelaaDoor
