/- Layer 9: what becomes of each vertex. Conditions: none of our own. -/
import Derived.Test.YtapcpmalgdhakaaGreatVRows
namespace Go.Proofs.YtapcpmalgdhakaaGreat
open Go.RowKit
set_option maxRecDepth 100000

theorem errF_take {α : Type} {g : α → Int} {l : List α} {i : Nat} {x : α} (h : ∀ y ∈ l.take i, g y = 0) (hx : l[i]? = some x) (h0 : g x = 0) : ∀ y ∈ l.take (i + 1), g y = 0 := fun y hy => by
  rw [List.take_add_one, hx, Option.toList_some] at hy
  rcases List.mem_append.1 hy with hy | hy
  · exact h y hy
  · rw [List.mem_singleton] at hy; rw [hy]; exact h0
set_option maxHeartbeats 1000000 in
theorem each_any (B : Nat) (kf : FuncId) (cf : List Value) (hkf : Goes Tryz.prog kf) (I : Nat → World → Prop) (g : Vx → Vx) (er : Vx → Int) (l : List Vx) (hl : l.length ≤ 100000) (v : Value) (w : World) (hBN : B ≤ w.heap.size) (hV : Verts w v l) (hEk : ∀ w', KE B w.heap.size w w' → Verts w' v l) (hI0 : I 0 w)
    (hI : ∀ i a b, I i a → (∀ j t cs, t ≠ 50 → Has a j t cs → Has b j t cs) → I i b)
    (hbec : ∀ i x wa, l[i]? = some x → KE B w.heap.size w wa → I i wa → Ans kf ([vv x] ++ cf) wa (fun u wb => u = .tuple #[vv (g x), .int .i64 (er x)] ∧ KT B wa wb ∧ (er x = 0 → I (i + 1) wb))) :
    Ans 23 [v, .func (.func kf) #[] cf.toArray] w (fun u w' => KE B w.heap.size w w' ∧ ∃ ov, u = .tuple #[ov, .int .i64 (errF er l)] ∧ (errF er l = 0 → w'.ownsRow w.heap.size 50 5 ov (l.map g).length (cellsV (l.map g)) ∧ I l.length w') ∧ (errF er l ≠ 0 → ov = .slice none 0 0)) := by
  obtain ⟨A, c, rfl, hc1, hc2, hA⟩ := hV
  have hcm := hc2
  unfold maxLen at hcm
  refine calls_qx (args := [.slice A l.length c, .func (.func kf) #[] cf.toArray]) 32 Tryz.func23 rfl (by kernel_rfl) (by simp) (fun a hS => ?_)
  have hB := Below.refl w.heap.size w
  refine qx_seq (reg_seq ?_)
  refine sI hS (runs_assign rfl) fun _ hS => ?_
  refine sI hS (runs_assign rfl) fun _ hS => ?_
  refine nil_ok (qx_seq (reg_seq ?_))
  refine sI hS (runs_assign rfl) fun _ hS => ?_
  refine nil_ok (qx_seq (qx_seq (reg_seq ?_)))
  refine sI hS (runs_move rfl) fun _ hS => ?_
  refine sI hS (runs_len rfl undVx) fun _ hS => ?_
  refine sI hS (runs_move rfl) fun _ hS => ?_
  refine nil_ok (?_)
  refine qx_range (fun m a w' => ∃ (i : Nat) (ov : Value), i ≤ l.length ∧ m = l.length - i ∧ KE B w.heap.size w w' ∧ I i w' ∧ w'.ownsRow w.heap.size 50 5 ov ((l.take i).map g).length (cellsV ((l.take i).map g)) ∧ (∀ x ∈ l.take i, er x = 0) ∧ Sees 32 [(13, .int .i64 (i : Int)), (12, .int .i64 ((l.length : Nat) : Int)), (11, .slice A l.length c), (6, ov), (1, .func (.func kf) #[] cf.toArray), (0, .slice A l.length c)] a) l.length ⟨0, _, by omega, by omega, KE.refl _ _ _, hI0, ⟨rfl, .inl ⟨rfl, rfl⟩⟩, (fun x hx => by simp at hx), hS.only _ ⟨rfl, rfl, rfl, rfl, rfl, rfl, trivial⟩⟩ ?_
  clear hS
  rintro m a wl ⟨i, ov, hi, rfl, hK, hIi, hown, hez, hS⟩
  have hVl := hEk wl hK
  have hKs := hK.below.size
  refine reg_seq ?_
  by_cases hlt : i < l.length
  · skip
    refine seq_is hS (by decide) (lssT rfl rfl (by omega)) (fun a1 hS => ?_)
    refine nil_ok ⟨_, hS.eval rfl, fun h => by simp at h, fun _ => ?_⟩
    have hsN := hKs
    obtain ⟨x, hx⟩ : ∃ x, l[i]? = some x := ⟨l[i], by simp [hlt]⟩
    obtain ⟨b, o, rfl, hbw, hr⟩ := verts_row hVl (by omega)
    have hrx := verts_at hr hx
    have hlk := List.length_take_le i l
    have hlg : ((l.take i).map g).length = (l.take i).length := List.length_map g
    have hB := Below.refl wl.heap.size wl
    have hownb := hown
    refine qx_seq (qx_block (qx_seq (reg_seq ?_)))
    refine sI hS (runs_indexAddrG (j := i) rfl rfl undVx sz28 rfl hlt) fun _ hS => ?_
    refine sI hS (runs_loadVx rfl hrx) fun _ hS => ?_
    refine seq_op hS (by decide) (runs_allocB (cs := [.int .i64 0, .int .i64 0, .bool false, .bool false, .int .i64 0]) zo28 rfl) (fun v1 w1 a1 hp hS => ?_)
    obtain ⟨rfl, hM1, hB1⟩ := hp
    have hLhM1 : wl.heap.size ≤ wl.heap.size := hB.size
    have hB := hB.trans (hB1.mono hB.size)
    have hown := owns_kept hown hB1
    refine seq_none hS (runs_storeB (cs := vc x) rfl rfl hM1 rfl rfl sz28) (fun v3 w3 a1 hp hS => ?_)
    obtain ⟨hM1, hU3⟩ := hp
    have hB := But.new hB hU3 (fun i e => by rw [e]; exact hLhM1) (Nat.le_refl _)
    have hown := owns_kept hownb hB
    refine nil_ok (qx_seq (reg_seq ?_))
    refine sI hS (runs_move rfl) fun _ hS => ?_
    refine sI hS (runs_loadRow rfl hM1 Tryz.underlying50 rfl (by rw [sz28]; rfl)) fun _ hS => ?_
    have hI2 := hI i wl w3 hIi (fun j t cs _ h => h.below hB h.lt)
    refine seq_op hS (by decide) (runs_callv (args := [.agg (vc x).toArray]) (caps := cf) hkf rfl rfl (hbec i x w3 hx (hK.trans (KE.of (hB.mono hsN) hBN)) hI2)) (fun v5 w5 a1 hp hS => ?_)
    obtain ⟨rfl, hKT, hI3⟩ := hp
    have hown := hKT.owns hown (by decide) (by decide)
    have hKa := hK.trans ((KE.of (hB.mono hsN) hBN).trans (hKT.ke _))
    have hs3 := Nat.le_trans hsN (Nat.le_trans hB.size hKT.below.size)
    have hB := Below.refl w5.heap.size w5
    have hownb := hown
    refine sI hS (runs_move rfl) fun _ hS => ?_
    refine sI hS (runs_extract rfl rfl) fun _ hS => ?_
    refine sI hS (runs_extract rfl rfl) fun _ hS => ?_
    refine seq_op hS (by decide) (runs_allocB (cs := [.int .i64 0, .int .i64 0, .bool false, .bool false, .int .i64 0]) zo28 rfl) (fun v6 w6 a1 hp hS => ?_)
    obtain ⟨rfl, hM6, hB6⟩ := hp
    have hLhM6 : w5.heap.size ≤ w5.heap.size := hB.size
    have hB := hB.trans (hB6.mono hB.size)
    have hown := owns_kept hown hB6
    refine seq_none hS (runs_storeB (cs := vc (g x)) rfl rfl hM6 rfl rfl sz28) (fun v8 w8 a1 hp hS => ?_)
    obtain ⟨hM6, hU8⟩ := hp
    have hB := But.new hB hU8 (fun i e => by rw [e]; exact hLhM6) (Nat.le_refl _)
    have hown := owns_kept hownb hB
    refine sI hS (runs_assign rfl) fun _ hS => ?_
    refine nil_ok (qx_seq (qx_seq (reg_seq ?_)))
    refine sI hS (runs_move rfl) fun _ hS => ?_
    by_cases he : er x ≠ 0
    · skip
      refine sI hS (runs_neq (r := true) rfl rfl (by simpa using he)) fun _ hS => ?_
      refine nil_ok (wp_cond_true (hS.eval rfl) (qx_seq (reg_seq ?_)))
      refine sI hS (runs_move rfl) fun _ hS => ?_
      refine sI hS (runs_assign rfl) fun _ hS => ?_
      refine sI hS (runs_assign rfl) fun _ hS => ?_
      have h0 : errF er l = er x := errF_at (fun j y hj hy => hez y (List.mem_of_getElem? (i := j) (by rw [List.getElem?_take, if_pos hj]; exact hy))) hx he
      exact nil_ok (qx_ret (ret2 (t := 4) (u := 5) (by kernel_rfl) hS rfl rfl ⟨_, rfl, hKa.trans (KE.of (hB.mono hs3) hBN), _, by rw [h0]; rfl, (fun h => absurd (h0.symm.trans h) he), fun _ => rfl⟩))
    refine sI hS (runs_neq (r := false) rfl rfl (by simpa using he)) fun _ hS => ?_
    refine nil_ok (wp_cond_false (hS.eval rfl) (wp_skip (reg_seq ?_)))
    refine sI hS (runs_move rfl) fun _ hS => ?_
    refine sI hS (runs_loadRow rfl hM6 Tryz.underlying50 rfl (by rw [sz28]; rfl)) fun _ hS => ?_
    refine seq_op hS (by decide) (runs_oneV (e := g x) rfl) (fun v10 w10 a1 hp hS => ?_)
    obtain ⟨g2, rfl, hX, hB10⟩ := hp
    have hB := hB.trans (hB10.mono hB.size)
    have hown := owns_kept hown hB10
    refine seq_op hS (by decide) (push_ownV (B := w.heap.size) (acc := (l.take i).map g) (e := g x) rfl hown rfl hX (by omega) (Nat.le_trans hs3 hB.size)) (fun v12 w12 a1 hp hS => ?_)
    obtain ⟨_, hown4, hrow, hB12⟩ := hp
    refine sI hS (runs_assign rfl) fun _ hS => ?_
    refine nil_ok (reg_seq ?_)
    refine sI hS (runs_add (r := ((i + 1 : Nat) : Int)) rfl rfl (by simp [IntKind.wrap, IntKind.bits, IntKind.signed]; omega)) fun _ hS => ?_
    refine sI hS (runs_move rfl) fun _ hS => ?_
    have hx0 : er x = 0 := Classical.not_not.1 he
    have hsn : (l.take (i + 1)).map g = (l.take i).map g ++ [g x] := by rw [List.take_add_one, hx, Option.toList_some, List.map_append]; rfl
    exact nil_ok ⟨_, by omega, i + 1, _, by omega, rfl, hKa.trans ((KE.of (hB.mono hs3) hBN).trans (KE.of hB12 hBN)), hI (i + 1) w5 _ (hI3 hx0) (fun j t cs ht h => hrow j t cs ht (h.below hB h.lt)), by rw [hsn, List.length_append]; exact hown4, errF_take hez hx hx0, hS.only _ ⟨rfl, rfl, rfl, rfl, rfl, rfl, trivial⟩⟩
  · skip
    refine seq_is hS (by decide) (lssF rfl rfl (by omega)) (fun a1 hS => ?_)
    obtain rfl : i = l.length := by omega
    refine nil_ok ⟨_, hS.eval rfl, fun _ => ?_, fun h => by simp at h⟩
    rw [List.take_length] at hown hez
    refine qx_seq (reg_seq ?_)
    refine sI hS (runs_move rfl) fun _ hS => ?_
    refine sI hS (runs_assign rfl) fun _ hS => ?_
    refine sI hS (runs_assign rfl) fun _ hS => ?_
    have h0 := errF_zero.2 hez
    exact nil_ok (qx_ret (ret2 (t := 4) (u := 5) (by kernel_rfl) hS rfl rfl ⟨_, rfl, hK, _, by rw [h0], (fun _ => ⟨hown, hIi⟩), fun h => absurd h0 h⟩))
end Go.Proofs.YtapcpmalgdhakaaGreat
