/- append upon a row of the call's own, in place or not, and what stays; a proof that is not so long proves nothing. Conditions: none of our own. -/
import Derived.Test.YtdemoidmhmdgkaaDoorEngK
import Derived.Test.YtdemoidmhmdgkaaDoorTSame
import Derived.ArgAppend
namespace Go.Proofs.YtdemoidmhmdgkaaDoor
open Go.RowKit
set_option maxRecDepth 100000

/-- What a row keeps where cells are written behind its end. -/
theorem owns_behind {w w' : World} {B : Nat} {e : TypeId} {sz g n m cap : Nat} {xs news : List Value} (h : w.ownsRow B e sz (.slice (some ⟨g, 0, none⟩) n cap) n xs) (hsz : 0 < sz) (h' : w'.ownsRow B e sz (.slice (some ⟨g, 0, none⟩) (n + m) cap) (n + m) (xs ++ news)) (hgr : w.grownBy w' (some g))
    {v : Value} {k : Nat} {ys : List Value} (hv : w.ownsRow B e sz v k ys) (hk : k ≤ n ∨ (n = 0 ∧ k = m ∧ ys = news)) : w'.ownsRow B e sz v k ys := by
  refine ⟨hv.1, ?_⟩
  rcases hv.2 with hn | ⟨g2, cap2, cur2, rfl, hb2, hg2, hc2, hm2, hs2, ht2⟩
  · exact .inl hn
  · by_cases hgg : g2 = g
    · subst hgg
      rcases h.2 with ⟨hn, _⟩ | ⟨g1, cap1, cur1, e1, hb1, hg1, hc1, hm1, hs1, ht1⟩
      · cases hn
      simp only [Value.slice.injEq, Option.some.injEq, Addr.mk.injEq, and_true, true_and] at e1
      obtain ⟨rfl, rfl⟩ := e1
      rw [hg1] at hg2
      simp only [Option.some.injEq, Obj.cells.injEq, and_true] at hg2
      subst hg2
      rcases h'.2 with ⟨hn, _⟩ | ⟨g3, cap3, cur3, e3, hb3, hg3, hc3, hm3, hs3, ht3⟩
      · cases hn
      simp only [Value.slice.injEq, Option.some.injEq, Addr.mk.injEq, and_true, true_and] at e3
      obtain ⟨rfl, rfl⟩ := e3
      have hcc : cap2 = cap := Nat.eq_of_mul_eq_mul_right hsz (by omega)
      subst hcc
      refine .inr ⟨g2, cap2, cur3, rfl, hb2, hg3, hc2, hm2, hs3, ?_⟩
      have hkm : k ≤ n + m := by rcases hk with h | ⟨_, h, _⟩ <;> omega
      have e4 : cur3.toList.take (k * sz) = (xs ++ news).take (k * sz) := by
        rw [← ht3, List.take_take, Nat.min_eq_left (Nat.mul_le_mul_right _ hkm)]
      rw [e4]
      rcases hk with hk | ⟨rfl, rfl, rfl⟩
      · rw [List.take_append_of_le_length (by rw [h.1]; exact Nat.mul_le_mul_right _ hk), ← ht1, List.take_take, Nat.min_eq_left (Nat.mul_le_mul_right _ hk)]
        exact ht2
      · have : xs = [] := List.eq_nil_of_length_eq_zero (by rw [h.1]; simp)
        subst this
        rw [List.nil_append, List.take_of_length_le (by rw [hv.1]; exact Nat.le_refl _)]
    · exact .inr ⟨g2, cap2, cur2, rfl, hb2, (hgr.block g2 (Array.getElem?_eq_some_iff.1 hg2).1 (fun e => hgg (Option.some.inj e))).trans hg2, hc2, hm2, hs2, ht2⟩
section
variable {P : Program} {L : List (Nat × Value)} {w : World} {ty : TypeId}
/-- append upon a row of the call's own: the row it comes to, and each row that stays. -/
theorem runs_appendKeep {t e : TypeId} {s x : Operand} {i : TypeInfo} {z : Value} {bytes B g n cap m c sz : Nat} {xs news : List Value} {ad : Addr} (ht : P.underlying t = some (.slice e)) (hi : P.info? e = some i) (hz : i.zero = some z)
    (hsize : i.size = sz) (hby : i.bytes = bytes) (hzs : z.cells.size = sz) (hsz : 0 < sz) (hs : vals L s = some (.slice (some ⟨g, 0, none⟩) n cap)) (hown : w.ownsRow B e sz (.slice (some ⟨g, 0, none⟩) n cap) n xs)
    (hx : vals L x = some (.slice (some ad) m c)) (hl : news.length = m * sz) (hnews : ∀ j u, news[j]? = some u → w.cell? (ad.add j) = some u) (h1 : ∀ u ∈ news, u.oneCell' = true) (h63 : n + m ≤ maxLen) (hbytes : (n + m) * bytes ≤ 140737488355328) (hB : B ≤ w.heap.size) :
    Runs P (.call { callee := .builtin .append, args := #[s, x], argTypes := #[t, t] }) ty L w (fun v w' => (∃ A c', v = .slice (some A) (n + m) c') ∧ w'.ownsRow B e sz v (n + m) (xs ++ news) ∧ Below B w w' ∧ ∀ (v' : Value) (k : Nat) (ys : List Value), w.ownsRow B e sz v' k ys → (k ≤ n ∨ (n = 0 ∧ k = m ∧ ys = news)) → w'.ownsRow B e sz v' k ys) := fun o a K Q ho _ hL hK => by
  have e1 := hL s (by simp [Op.operands, Call.operands]) _ hs
  have e2 := hL x (by simp [Op.operands, Call.operands]) _ hx
  obtain ⟨hbg, hlt⟩ := hown.lt g rfl
  have hex : ∃ v' w', (Builtin.append_ #[t, t] o.type #[.slice (some ⟨g, 0, none⟩) n cap, .slice (some ad) m c]).run P w = .ok v' w' ∧ ((∃ A c', v' = .slice (some A) (n + m) c') ∧ w'.ownsRow B e sz v' (n + m) (xs ++ news) ∧ Below B w w' ∧ ∀ (v'' : Value) (k : Nat) (ys : List Value), w.ownsRow B e sz v'' k ys → (k ≤ n ∨ (n = 0 ∧ k = m ∧ ys = news)) → w'.ownsRow B e sz v'' k ys) := by
    by_cases hr : n + m ≤ cap
    · obtain ⟨w', hrun, h2, h3⟩ := run_append_fits (P := P) w B t o.type e i sz ht hi hsize g n cap xs hown ad m c news hl hnews h1 hr
      exact ⟨_, w', hrun, ⟨⟨_, _, rfl⟩, h2, below_grown (Below.refl _ _) h3 (fun k hk => by cases hk; exact hbg) hB, fun v'' k ys hv hk => owns_behind hown hsz h2 h3 hv hk⟩⟩
    · have hown2 := hown
      rcases hown2.2 with ⟨hn, _⟩ | ⟨g1, cap1, cur1, e1', hb1, hg1, hc1, hm1, hs1, ht1⟩
      · cases hn
      simp only [Value.slice.injEq, Option.some.injEq, Addr.mk.injEq, and_true, true_and] at e1'
      obtain ⟨rfl, rfl⟩ := e1'
      obtain ⟨v', w', hrun, h2, h3⟩ := run_append_arg_grows (P := P) w t o.type e i z sz bytes ht hi hz hsize hby hzs hsz ⟨g, 0, none⟩ n cap xs hown.1 (fun j u hj => by
        rw [add_zero_addr, Nat.zero_add]
        have hj' := hj
        rw [← ht1, List.getElem?_take] at hj'
        split at hj'
        · have hh : Has w g e cur1.toList := by show _ = _; rw [hg1]
          rw [hh.cell]; exact hj'
        · cases hj') ad m c news hl hnews (by omega) h63 hbytes
      have hbel : Below w.heap.size w w' := (Below.refl _ _).grown h3 (Nat.le_refl _) (fun k h => by cases h)
      refine ⟨_, w', hrun, ⟨?_, owns_mono h2 hB, hbel.mono hB, fun v'' k ys hv hk => owns_kept hv hbel⟩⟩
      rcases h2.2 with ⟨_, h0⟩ | ⟨g4, cap4, _, rfl, _⟩
      · omega
      · exact ⟨_, _, rfl⟩
  obtain ⟨v', w', hr, hp⟩ := hex
  unfold Oper.wp execOp
  simp only [ho, resolve, invoke, builtin, Sem.run_bind, Sem.run_pure, Result.andThen_ok, List.map_toArray, List.map_cons, List.map_nil, e1, e2, hr]
  exact hK v' w' hp
/-- x[l:], of whatever slice. -/
theorem runs_sliceFromG {t e : TypeId} {x lo : Operand} {A : Option Addr} {m c l sz : Nat} {i : Int} (hx : vals L x = some (.slice A m c)) (hlo : vals L lo = some (.int .i64 i)) (hi' : i = (l : Int)) (hu : P.underlying t = some (.slice e)) (hs : (P.info? e).map (·.size) = some sz) (hlm : l ≤ m) :
    Runs P (.slice t x (some lo) none none) ty L w (Is (.slice (if c = l then A else A.map (·.add (l * sz))) (m - l) (c - l)) w) := fun o a K Q ho _ hL hK => by
  have ex := hL x (by simp [Op.operands]) _ hx
  have el := hL lo (by simp [Op.operands]) _ hlo
  subst hi'
  obtain ⟨ie, hie⟩ : ∃ ie, P.info? e = some ie := by
    cases h : P.info? e with
    | none => rw [h] at hs; cases hs
    | some ie => exact ⟨ie, rfl⟩
  have hsz : ie.size = sz := by rw [hie] at hs; simpa using hs
  unfold Oper.wp
  have : (execOp a.eval o).run P w = .ok (.value (.slice (if c = l then A else A.map (·.add (l * sz))) (m - l) (c - l))) w := by
    simp [execOp, ho, ex, el, Instr.sliceAt, run_underlying hu, Instr.slice, Instr.sliceBounds, Instr.sliceBound, asIntOf, hlm, sizeOf, typeInfo, hie, hsz]
  rw [this]
  exact hK _ _ ⟨rfl, rfl⟩
/-- x[:k], of whatever slice. -/
theorem runs_sliceToG {t e : TypeId} {x hi : Operand} {A : Option Addr} {m c k : Nat} {i : Int} (hx : vals L x = some (.slice A m c)) (hhi : vals L hi = some (.int .i64 i)) (hi' : i = (k : Int)) (hu : P.underlying t = some (.slice e)) (hs : (P.info? e).isSome = true) (hkc : k ≤ c) :
    Runs P (.slice t x none (some hi) none) ty L w (Is (.slice A k c) w) := fun o a K Q ho _ hL hK => by
  have ex := hL x (by simp [Op.operands]) _ hx
  have eh := hL hi (by simp [Op.operands]) _ hhi
  subst hi'
  obtain ⟨ie, hie⟩ := Option.isSome_iff_exists.1 hs
  have hadd : A.map (fun a : Addr => a.add 0) = A := by
    cases A with
    | none => rfl
    | some a => obtain ⟨b, o, s⟩ := a; cases s <;> rfl
  unfold Oper.wp
  have : (execOp a.eval o).run P w = .ok (.value (.slice A k c)) w := by
    simp [execOp, ho, ex, eh, Instr.sliceAt, run_underlying hu, Instr.slice, Instr.sliceBounds, Instr.sliceBound, asIntOf, hkc, sizeOf, typeInfo, hie, hadd]
  rw [this]
  exact hK _ _ ⟨rfl, rfl⟩
end
set_option maxHeartbeats 1000000 in
theorem check_len (root : List Nat) (n at_ : Int) (s : ByteArray) (A : Option Addr) (m c : Nat) (w : World) (_hrl : root.length = 32) (hm : m ≠ deepZ n at_) :
    Calls Tryd.prog 15 #[.agg (U8 root).toArray, .int .i64 n, .int .i64 at_, .string s, .slice A m c] w fun r w' => r = .returned (.bool false) ∧ Below w.heap.size w w' := by
  refine calls_qx (args := [.agg (U8 root).toArray, .int .i64 n, .int .i64 at_, .string s, .slice A m c]) 40 Tryd.func15 rfl (by kernel_rfl) (by simp) (fun a hS => ?_)
  refine qx_seq (reg_seq ?_)
  refine seq_op hS (by decide) (runs_box rfl) (fun v1 w1 a1 hp1 hS => ?_)
  obtain ⟨rfl, rfl⟩ := hp1
  have hB1 : Below w.heap.size w (w.alloc (.cells (Value.agg (U8 root).toArray).cells 26)) := (Below.refl _ _).alloc (Nat.le_refl _) _
  have hz1 : (w.alloc (.cells (Value.agg (U8 root).toArray).cells 26)).heap.size = w.heap.size + 1 := by simp
  generalize w.alloc (.cells (Value.agg (U8 root).toArray).cells 26) = w1 at *
  refine seq_op hS (by decide) (runs_box rfl) (fun v1 w2 a1 hp1 hS => ?_)
  obtain ⟨rfl, rfl⟩ := hp1
  have hP2 : Has (w1.alloc (.cells (Value.slice A m c).cells 28)) w1.heap.size 28 [.slice A m c] := Has.new w1 28 [.slice A m c]
  have hB2 : Below w1.heap.size w1 (w1.alloc (.cells (Value.slice A m c).cells 28)) := (Below.refl _ _).alloc (Nat.le_refl _) _
  generalize w1.alloc (.cells (Value.slice A m c).cells 28) = w2 at *
  have hBw2 : Below w.heap.size w w2 := hB1.trans (hB2.mono (by omega))
  have s2 := hBw2.size
  refine seq_is hS (by decide) (runs_assign rfl) (fun a1 hS => ?_)
  refine nil_ok (qx_seq (qx_seq ?_))
  refine test27 _ _ _ n at_ (.string s) (.pointer (some ⟨w.heap.size, 0, none⟩)) w1.heap.size m c A w2 a1 (hS.only _ ⟨rfl, rfl, rfl, rfl, rfl, trivial⟩) hP2 (fun a3 w3 hB3 hS => ?_)
  have hBw3 : Below w.heap.size w w3 := hBw2.trans (hB3.mono (by omega))
  have hbad : badB n at_ m = true := by
    unfold badB
    rw [show (m == deepZ n at_) = false by rw [beq_eq_false_iff_ne]; exact hm]
    simp
  rw [hbad] at hS
  refine wp_cond_true (hS.eval rfl) (qx_seq (reg_seq ?_))
  refine seq_is hS (by decide) (runs_assign rfl) (fun a4 hS => ?_)
  exact nil_ok (qx_ret (ret1 (t := 10) (by kernel_rfl) hS rfl ⟨rfl, hBw3⟩))
end Go.Proofs.YtdemoidmhmdgkaaDoor
