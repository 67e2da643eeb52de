/- Layer 9: Next. Conditions: that there are at most 100 edges. -/
import Derived.Test.YtapcpmalgdhakaaGreatVEach
namespace Go.Proofs.YtapcpmalgdhakaaGreat
open Go.RowKit
set_option maxRecDepth 100000

section
variable {n : Int} {es : List E} {k : Nat} {src steps at_ : Int} {l : List Vx}
theorem next_70 (h : (jobB n es k src steps && decide (0 ≤ at_) && decide (at_ < steps)) = false) : nextL n es k src steps at_ l = ([], [], 70) := by unfold nextL; rw [if_pos h]
variable (h1 : (jobB n es k src steps && decide (0 ≤ at_) && decide (at_ < steps)) = true)
include h1
theorem next_90 (h2 : (decide ((l.length : Int) = n) && idsB 0 l) = false) : nextL n es k src steps at_ l = ([], [], 90) := by unfold nextL; rw [if_neg (by rw [h1]; simp), if_pos h2]
variable (h2 : (decide ((l.length : Int) = n) && idsB 0 l) = true)
include h2
theorem next_e1 (h3 : errF (fun x => (stepL n es k src steps at_ x).2.2) l ≠ 0) : nextL n es k src steps at_ l = ([], [], errF (fun x => (stepL n es k src steps at_ x).2.2) l) := by unfold nextL; rw [if_neg (by rw [h1]; simp), if_neg (by rw [h2]; simp), if_pos h3]
variable (h3 : errF (fun x => (stepL n es k src steps at_ x).2.2) l = 0)
include h3
theorem next_e2 (h4 : errF (fun x => (cameL k (sentL n es k src steps at_ l) x.id).2.2) l ≠ 0) : nextL n es k src steps at_ l = ([], [], errF (fun x => (cameL k (sentL n es k src steps at_ l) x.id).2.2) l) := by unfold nextL; rw [if_neg (by rw [h1]; simp), if_neg (by rw [h2]; simp), if_neg (by rw [h3]; simp), if_pos h4]
theorem next_done (h4 : errF (fun x => (cameL k (sentL n es k src steps at_ l) x.id).2.2) l = 0) : nextL n es k src steps at_ l = (l.map (cameV n es k src steps at_ l), sortM (sentL n es k src steps at_ l), 0) := by unfold nextL; rw [if_neg (by rw [h1]; simp), if_neg (by rw [h2]; simp), if_neg (by rw [h3]; simp), if_neg (by rw [h4]; simp)]
end
theorem sent_snoc {n : Int} {es : List E} {k : Nat} {src steps at_ : Int} {l : List Vx} {i : Nat} {x : Vx} (h : l[i]? = some x) : sentL n es k src steps at_ (l.take (i + 1)) = sentL n es k src steps at_ (l.take i) ++ (stepL n es k src steps at_ x).2.1 := by
  unfold sentL; rw [List.take_add_one, h, Option.toList_some, List.flatMap_append]; simp
theorem owns_one {w : World} {B n sz : Nat} {e : TypeId} {v : Value} {xs : List Value} (h : w.ownsRow B e sz v n xs) : v.oneCell' = true := by
  rcases h.2 with ⟨rfl, _⟩ | ⟨g, c, cur, rfl, _⟩ <;> rfl
/-- With what came to it. -/
def withV (k : Nat) (s : List E) (y : Vx) : Vx := ⟨y.id, y.val, y.act, (cameL k s y.id).2.1, (cameL k s y.id).1⟩
def badV (k : Nat) (s : List E) (y : Vx) : Int := (cameL k s y.id).2.2
theorem err_map {α β : Type} {g : α → β} {f : β → Int} {f' : α → Int} : ∀ {l : List α}, (∀ x ∈ l, f (g x) = f' x) → errF f (l.map g) = errF f' l
  | [], _ => rfl
  | x :: r, h => by
    rw [List.map_cons, errF, errF, h x List.mem_cons_self, err_map (fun y hy => h y (List.mem_cons_of_mem _ hy))]
set_option maxHeartbeats 1000000 in
theorem next1_any (B : Nat) (n : Int) (es : List E) (v : Value) (tg : ByteArray) (src steps at_ : Int) (x Y : Vx) (S sent : List E) (ER : Int) (sv : Value) (ga gj gt gs : Nat) (w : World) (hst : stepL n es (kindL tg.data.toList) src steps at_ x = (Y, S, ER)) (hE : Edges w v es) (hG : Has w ga 24 [.int .i64 n, v]) (hJ : Has w gj 26 (jc tg src steps)) (hA : Has w gt 3 [.int .i64 at_]) (hS0 : Has w gs 29 [sv])
    (hown : w.ownsRow B 61 3 sv sent.length (cellsE sent)) (hBg : B ≤ gs) (hBa : B ≤ w.heap.size) (hlen : sent.length + S.length ≤ 100000) : Ans 24 [vv x, .pointer (some ⟨ga, 0, none⟩), .pointer (some ⟨gj, 0, none⟩), .pointer (some ⟨gt, 0, none⟩), .pointer (some ⟨gs, 0, none⟩)] w (fun u w' => u = .tuple #[vv Y, .int .i64 ER] ∧ KT B w w' ∧ ∃ sv', Has w' gs 29 [sv'] ∧ w'.ownsRow B 61 3 sv' (sent ++ S).length (cellsE (sent ++ S))) := by
  have hownb := hown
  refine calls_qx (args := [.agg (vc x).toArray, .pointer (some ⟨ga, 0, none⟩), .pointer (some ⟨gj, 0, none⟩), .pointer (some ⟨gt, 0, none⟩), .pointer (some ⟨gs, 0, none⟩)]) 24 Tryz.func24 rfl (by kernel_rfl) (by simp) (fun a hS => ?_)
  have hB := Below.refl w.heap.size w
  have hGb := hG
  have hJb := hJ
  have hAb := hA
  have hS0b := hS0
  have hEb := hE
  refine qx_seq (reg_seq ?_)
  refine seq_op hS (by decide) (runs_boxB (cs := vc x) rfl rfl) (fun v1 w1 a1 hp hS => ?_)
  obtain ⟨rfl, hM1, hB1⟩ := hp
  have hLhM1 : w.heap.size ≤ w.heap.size := hB.size
  have hB := hB.trans (hB1.mono hB.size)
  have hG := hGb.below hB hGb.lt
  have hJ := hJb.below hB hJb.lt
  have hA := hAb.below hB hAb.lt
  have hS0 := hS0b.below hB hS0b.lt
  have hE := hEb.kept hB
  refine seq_op hS (by decide) (runs_allocB (cs := [.int .i64 0, .int .i64 0, .bool false, .bool false, .int .i64 0]) zo28 rfl) (fun v3 w3 a1 hp hS => ?_)
  obtain ⟨rfl, hM3, hB3⟩ := hp
  have hLhM3 : w.heap.size ≤ w1.heap.size := hB.size
  have hNhM1hM3 : w.heap.size ≠ w1.heap.size := by have := hM1.lt; omega
  have hB := hB.trans (hB3.mono hB.size)
  have hG := hGb.below hB hGb.lt
  have hJ := hJb.below hB hJb.lt
  have hA := hAb.below hB hAb.lt
  have hS0 := hS0b.below hB hS0b.lt
  have hM1 := hM1.below hB3 hM1.lt
  have hE := hEb.kept hB
  refine sI hS (runs_assign rfl) fun _ hS => ?_
  refine nil_ok (qx_seq (reg_seq ?_))
  refine sI hS (runs_loadRow rfl hG Tryz.underlying24 rfl (by rw [sz24]; rfl)) fun _ hS => ?_
  refine sI hS (runs_loadRow rfl hJ Tryz.underlying26 rfl (by rw [sz26]; rfl)) fun _ hS => ?_
  refine sI hS (runs_load rfl pl3 (hA.at rfl)) fun _ hS => ?_
  refine sI hS (runs_loadRow rfl hM1 Tryz.underlying50 rfl (by rw [sz28]; rfl)) fun _ hS => ?_
  refine seq_op hS (by decide) (runs_call (args := [gv n v, .agg (jc tg src steps).toArray, .int .i64 at_, .agg (vc x).toArray]) goes25 rfl (step_is w3 hE hst)) (fun v5 w5 a1 hp hS => ?_)
  obtain ⟨hB5, sv2, rfl, hown2⟩ := hp
  have hB := hB.trans (hB5.mono hB.size)
  have hS0 := hS0b.below hB hS0b.lt
  have hM1 := hM1.below hB5 hM1.lt
  have hM3 := hM3.below hB5 hM3.lt
  refine sI hS (runs_move rfl) fun _ hS => ?_
  refine sI hS (runs_extract rfl rfl) fun _ hS => ?_
  refine sI hS (runs_extract rfl rfl) fun _ hS => ?_
  refine sI hS (runs_extract rfl rfl) fun _ hS => ?_
  refine seq_none hS (runs_storeB (cs := vc Y) rfl rfl hM1 rfl rfl sz28) (fun v7 w7 a1 hp hS => ?_)
  have hQ7 := hM1
  obtain ⟨hM1, hU7⟩ := hp
  have hB := But.new hB hU7 (fun i e => by rw [e]; exact hLhM1) (Nat.le_refl _)
  have hS0 := hS0b.below hB hS0b.lt
  have hM3 := hM3.but hU7 ((Ne.symm hNhM1hM3))
  have hown2 := owns_but hown2 hU7 (fun i old ho e => by subst e; exact has_ne ho hQ7 (by decide) rfl)
  refine sI hS (runs_assign rfl) fun _ hS => ?_
  refine sI hS (runs_assign rfl) fun _ hS => ?_
  refine nil_ok (qx_seq (reg_seq ?_))
  refine sI hS (runs_load rfl pl32 (hS0.at rfl)) fun _ hS => ?_
  refine sI hS (runs_move rfl) fun _ hS => ?_
  refine seq_op hS (by decide) (app_ownG (B := B) (xs := sent) (es := S) (edges_ownE hown2 rfl) hlen (Nat.le_trans hBa hB.size) rfl (owns_kept hown hB) rfl) (fun v9 w9 a1 hp hS => ?_)
  obtain ⟨hown3, hrow, hB9⟩ := hp
  have hKT := (KT.of hB hBa).trans (KT.app hB9 hrow)
  have hS0 := hrow _ _ _ (by decide) hS0
  have hM1 := hrow _ _ _ (by decide) hM1
  have hM3 := hrow _ _ _ (by decide) hM3
  refine seq_none hS (runs_storeC rfl rfl (owns_one hown3) s1_32 hS0 rfl) (fun v10 w10 a1 hp hS => ?_)
  have hQ := hS0
  obtain ⟨hS0, hU10⟩ := hp
  have hKT := hKT.trans (KT.sto hQ hBg (Nat.le_trans hBa hKT.below.size) hU10)
  have hown3 := owns_but hown3 hU10 (fun i old ho e => by subst e; exact has_ne ho hQ (by decide) rfl)
  have hM1 := hM1.but hU10 (has_ne hM1 hQ (by decide))
  have hM3 := hM3.but hU10 (has_ne hM3 hQ (by decide))
  refine nil_ok (qx_seq (reg_seq ?_))
  refine sI hS (runs_loadRow rfl hM1 Tryz.underlying50 rfl (by rw [sz28]; rfl)) fun _ hS => ?_
  refine sI hS (runs_move rfl) fun _ hS => ?_
  refine seq_none hS (runs_storeB (cs := vc Y) rfl rfl hM3 rfl rfl sz28) (fun v11 w11 a1 hp hS => ?_)
  have hQ := hM3
  obtain ⟨hR, hU11⟩ := hp
  have hKT := hKT.new hLhM3 hBa hU11
  have hS0 := hS0.but hU11 (has_ne hS0 hQ (by decide))
  have hown3 := owns_but hown3 hU11 (fun i old ho e => by subst e; exact has_ne ho hQ (by decide) rfl)
  refine sI hS (runs_assign rfl) fun _ hS => ?_
  exact nil_ok (qx_ret (retRow2 (p := 6) (t := 7) (ty := 50) (by kernel_rfl) hS rfl rfl hR Tryz.underlying50 rfl (by rw [sz28]; rfl) ⟨_, rfl, rfl, hKT, _, hS0, hown3⟩))
set_option maxHeartbeats 1000000 in
theorem next2_any (tg : ByteArray) (src steps : Int) (x : Vx) (sent : List E) (hsm : sent.length ≤ 10000) (sv : Value) (gj gs : Nat) (w : World) (hJ : Has w gj 26 (jc tg src steps)) (hS0 : Has w gs 29 [sv]) (hSE : Edges w sv sent) :
    Ans 26 [vv x, .pointer (some ⟨gj, 0, none⟩), .pointer (some ⟨gs, 0, none⟩)] w (fun u w' => u = .tuple #[vv (withV (kindL tg.data.toList) sent x), .int .i64 (badV (kindL tg.data.toList) sent x)] ∧ Below w.heap.size w w') := by
  obtain ⟨CA, hca⟩ : ∃ C, cameL (kindL tg.data.toList) sent x.id = C := ⟨_, rfl⟩
  refine calls_qx (args := [.agg (vc x).toArray, .pointer (some ⟨gj, 0, none⟩), .pointer (some ⟨gs, 0, none⟩)]) 21 Tryz.func26 rfl (by kernel_rfl) (by simp) (fun a hS => ?_)
  have hB := Below.refl w.heap.size w
  have hJb := hJ
  have hS0b := hS0
  have hSEb := hSE
  refine qx_seq (reg_seq ?_)
  refine seq_op hS (by decide) (runs_boxB (cs := vc x) rfl rfl) (fun v1 w1 a1 hp hS => ?_)
  obtain ⟨rfl, hM1, hB1⟩ := hp
  have hLhM1 : w.heap.size ≤ w.heap.size := hB.size
  have hB := hB.trans (hB1.mono hB.size)
  have hJ := hJb.below hB hJb.lt
  have hS0 := hS0b.below hB hS0b.lt
  have hSE := hSEb.kept hB
  refine seq_op hS (by decide) (runs_allocB (cs := [.int .i64 0, .int .i64 0, .bool false, .bool false, .int .i64 0]) zo28 rfl) (fun v3 w3 a1 hp hS => ?_)
  obtain ⟨rfl, hM3, hB3⟩ := hp
  have hLhM3 : w.heap.size ≤ w1.heap.size := hB.size
  have hNhM1hM3 : w.heap.size ≠ w1.heap.size := by have := hM1.lt; omega
  have hB := hB.trans (hB3.mono hB.size)
  have hJ := hJb.below hB hJb.lt
  have hS0 := hS0b.below hB hS0b.lt
  have hM1 := hM1.below hB3 hM1.lt
  have hSE := hSEb.kept hB
  refine sI hS (runs_assign rfl) fun _ hS => ?_
  refine nil_ok (qx_seq (reg_seq ?_))
  refine sI hS (runs_assign rfl) fun _ hS => ?_
  refine nil_ok (qx_seq (reg_seq ?_))
  refine sI hS (runs_fieldK fo26_0 rfl) fun _ hS => ?_
  refine sI hS (runs_load rfl pl9 (hJ.at rfl)) fun _ hS => ?_
  refine sI hS (runs_load rfl pl32 (hS0.at rfl)) fun _ hS => ?_
  refine sI hS (runs_fieldK fo28_0 rfl) fun _ hS => ?_
  refine sI hS (runs_load rfl pl3 (hM1.at rfl)) fun _ hS => ?_
  refine seq_op hS (by decide) (runs_call (args := [.string tg, sv, .int .i64 x.id]) goes27 rfl (came_any tg sent hsm x.id sv w3 hSE)) (fun v5 w5 a1 hp hS => ?_)
  rw [hca] at hp
  obtain ⟨rfl, hB5⟩ := hp
  have hB := hB.trans (hB5.mono hB.size)
  have hM1 := hM1.below hB5 hM1.lt
  have hM3 := hM3.below hB5 hM3.lt
  refine sI hS (runs_move rfl) fun _ hS => ?_
  refine sI hS (runs_extract rfl rfl) fun _ hS => ?_
  refine sI hS (runs_extract rfl rfl) fun _ hS => ?_
  refine sI hS (runs_extract rfl rfl) fun _ hS => ?_
  refine sI hS (runs_fieldK fo28_4 rfl) fun _ hS => ?_
  refine seq_none hS (runs_storeC rfl rfl rfl s1_2 hM1 rfl) (fun v7 w7 a1 hp hS => ?_)
  obtain ⟨hM1, hU7⟩ := hp
  have hB := But.new hB hU7 (fun i e => by rw [e]; exact hLhM1) (Nat.le_refl _)
  have hM3 := hM3.but hU7 ((Ne.symm hNhM1hM3))
  refine sI hS (runs_fieldK fo28_3 rfl) fun _ hS => ?_
  refine seq_none hS (runs_storeC rfl rfl rfl s1_4 hM1 rfl) (fun v9 w9 a1 hp hS => ?_)
  obtain ⟨hM1, hU9⟩ := hp
  have hB := But.new hB hU9 (fun i e => by rw [e]; exact hLhM1) (Nat.le_refl _)
  have hM3 := hM3.but hU9 ((Ne.symm hNhM1hM3))
  refine sI hS (runs_assign rfl) fun _ hS => ?_
  refine nil_ok (qx_seq (reg_seq ?_))
  refine sI hS (runs_loadRow rfl hM1 Tryz.underlying50 rfl (by rw [sz28]; rfl)) fun _ hS => ?_
  refine sI hS (runs_move rfl) fun _ hS => ?_
  refine seq_none hS (runs_storeB (cs := [.int .i64 x.id, .int .i64 x.val, .bool x.act, .bool CA.2.1, .int .i64 CA.1]) rfl rfl hM3 rfl rfl sz28) (fun v11 w11 a1 hp hS => ?_)
  obtain ⟨hM3, hU11⟩ := hp
  have hB := But.new hB hU11 (fun i e => by rw [e]; exact hLhM3) (Nat.le_refl _)
  refine sI hS (runs_assign rfl) fun _ hS => ?_
  exact nil_ok (qx_ret (retRow2 (p := 4) (t := 5) (ty := 50) (by kernel_rfl) hS rfl rfl hM3 Tryz.underlying50 rfl (by rw [sz28]; rfl) ⟨_, rfl, by unfold withV badV; rw [hca]; try rfl, hB⟩))
set_option maxHeartbeats 2000000 in
theorem next_any (n : Int) (es : List E) (hsm : es.length ≤ 100) (v : Value) (tg : ByteArray) (src steps at_ : Int) (l : List Vx) (lv : Value) (w : World) (hE : Edges w v es) (hV : Verts w lv l) : Ans 6 [gv n v, jv tg src steps, .int .i64 at_, lv] w (fun u w' => ∃ x y, u = .tuple #[x, y, .int .i64 (nextL n es (kindL tg.data.toList) src steps at_ l).2.2] ∧ Verts w' x (nextL n es (kindL tg.data.toList) src steps at_ l).1 ∧ Edges w' y (nextL n es (kindL tg.data.toList) src steps at_ l).2.1 ∧ Below w.heap.size w w') := by
  refine calls_qx (args := [gv n v, .agg (jc tg src steps).toArray, .int .i64 at_, lv]) 53 Tryz.func6 rfl (by kernel_rfl) (by simp) (fun a hS => ?_)
  have hB := Below.refl w.heap.size w
  have hEb := hE
  have hVb := hV
  refine qx_seq (reg_seq ?_)
  refine seq_op hS (by decide) (runs_boxB (cs := [.int .i64 n, v]) rfl rfl) (fun v1 w1 a1 hp hS => ?_)
  obtain ⟨rfl, hM1, hB1⟩ := hp
  have hB := hB.trans (hB1.mono hB.size)
  have hE := hEb.kept hB
  have hV := hVb.kept hB
  refine seq_op hS (by decide) (runs_boxB (cs := jc tg src steps) rfl rfl) (fun v3 w3 a1 hp hS => ?_)
  obtain ⟨rfl, hM3, hB3⟩ := hp
  have hB := hB.trans (hB3.mono hB.size)
  have hM1 := hM1.below hB3 hM1.lt
  have hE := hEb.kept hB
  have hV := hVb.kept hB
  refine seq_op hS (by decide) (runs_boxB (cs := [.int .i64 at_]) rfl rfl) (fun v5 w5 a1 hp hS => ?_)
  obtain ⟨rfl, hM5, hB5⟩ := hp
  have hB := hB.trans (hB5.mono hB.size)
  have hM1 := hM1.below hB5 hM1.lt
  have hM3 := hM3.below hB5 hM3.lt
  have hE := hEb.kept hB
  have hV := hVb.kept hB
  refine sI hS (runs_assign rfl) fun _ hS => ?_
  refine sI hS (runs_assign rfl) fun _ hS => ?_
  refine sI hS (runs_assign rfl) fun _ hS => ?_
  refine nil_ok (qx_seq (qx_seq (?_)))
  by_cases hj : jobB n es (kindL tg.data.toList) src steps = true
  · skip
    refine reg_seq ?_
    refine sI hS (runs_loadRow rfl hM1 Tryz.underlying24 rfl (by rw [sz24]; rfl)) fun _ hS => ?_
    refine sI hS (runs_loadRow rfl hM3 Tryz.underlying26 rfl (by rw [sz26]; rfl)) fun _ hS => ?_
    refine seq_op hS (by decide) (runs_call (args := [gv n v, .agg (jc tg src steps).toArray]) goes21 rfl (pcheck_any n es _ tg src steps w5 hE)) (fun v7 w7 a1 hp hS => ?_)
    obtain ⟨rfl, hB7⟩ := hp
    rw [if_pos hj] at hS
    have hB := hB.trans (hB7.mono hB.size)
    have hM1 := hM1.below hB7 hM1.lt
    have hM3 := hM3.below hB7 hM3.lt
    have hM5 := hM5.below hB7 hM5.lt
    have hE := hEb.kept hB
    have hV := hVb.kept hB
    refine sI hS (runs_neq (r := false) rfl rfl rfl) fun _ hS => ?_
    refine sI hS (runs_move rfl) fun _ hS => ?_
    refine sY hS (runs_load rfl pl3 (hM5.at rfl)) fun _ hS => ?_
    by_cases ha : at_ < 0
    · skip
      refine sY hS (lssT rfl rfl (by omega)) fun _ hS => ?_
      refine sI hS (runs_pick rfl rfl) fun _ hS => ?_
      refine sI hS (runs_move rfl) fun _ hS => ?_
      refine sN hS fun _ hS => ?_
      refine sN hS fun _ hS => ?_
      refine sN hS fun _ hS => ?_
      refine sN hS fun _ hS => ?_
      refine sI hS (runs_pick rfl rfl) fun _ hS => ?_
      refine nil_ok (wp_cond_true (hS.eval rfl) (qx_seq (reg_seq ?_)))
      refine sI hS (runs_assign rfl) fun _ hS => ?_
      refine sI hS (runs_assign rfl) fun _ hS => ?_
      refine sI hS (runs_assign rfl) fun _ hS => ?_
      have hfin : nextL n es (kindL tg.data.toList) src steps at_ l = ([], [], 70) := next_70 (by rw [hj]; simp; omega)
      exact nil_ok (qx_ret (ret3 (t := 8) (u := 9) (r := 10) (by kernel_rfl) hS rfl rfl rfl ⟨_, rfl, _, _, by rw [hfin]; try rfl, by rw [hfin]; exact verts_nil _, by rw [hfin]; exact edges_nil _, hB⟩))
    refine sY hS (lssF rfl rfl (by omega)) fun _ hS => ?_
    refine sI hS (runs_pick rfl rfl) fun _ hS => ?_
    refine sI hS (runs_move rfl) fun _ hS => ?_
    refine sY hS (runs_load rfl pl3 (hM5.at rfl)) fun _ hS => ?_
    refine sY hS (runs_fieldK fo26_2 rfl) fun _ hS => ?_
    refine sY hS (runs_load rfl pl3 (hM3.at rfl)) fun _ hS => ?_
    by_cases hb : at_ ≥ steps
    · skip
      refine sY hS (geqT rfl rfl (by omega)) fun _ hS => ?_
      refine sI hS (runs_pick rfl rfl) fun _ hS => ?_
      refine nil_ok (wp_cond_true (hS.eval rfl) (qx_seq (reg_seq ?_)))
      refine sI hS (runs_assign rfl) fun _ hS => ?_
      refine sI hS (runs_assign rfl) fun _ hS => ?_
      refine sI hS (runs_assign rfl) fun _ hS => ?_
      have hfin : nextL n es (kindL tg.data.toList) src steps at_ l = ([], [], 70) := next_70 (by rw [hj]; simp; omega)
      exact nil_ok (qx_ret (ret3 (t := 8) (u := 9) (r := 10) (by kernel_rfl) hS rfl rfl rfl ⟨_, rfl, _, _, by rw [hfin]; try rfl, by rw [hfin]; exact verts_nil _, by rw [hfin]; exact edges_nil _, hB⟩))
    refine sY hS (geqF rfl rfl (by omega)) fun _ hS => ?_
    refine sI hS (runs_pick rfl rfl) fun _ hS => ?_
    refine nil_ok (wp_cond_false (hS.eval rfl) (wp_skip (qx_seq (qx_seq (?_)))))
    have h1 : (jobB n es (kindL tg.data.toList) src steps && decide (0 ≤ at_) && decide (at_ < steps)) = true := by rw [hj]; simp; omega
    by_cases h2 : (decide ((l.length : Int) = n) && idsB 0 l) = true
    · skip
      have hln : (l.length : Int) = n := by have h := h2; rw [Bool.and_eq_true, decide_eq_true_eq] at h; exact h.1
      have hn64 := (job_n hj).2
      have hl64 : l.length ≤ 64 := by omega
      refine reg_seq ?_
      refine sI hS (runs_fieldK fo24_0 rfl) fun _ hS => ?_
      refine sI hS (runs_load rfl pl3 (hM1.at rfl)) fun _ hS => ?_
      refine sI hS (runs_move rfl) fun _ hS => ?_
      refine seq_op hS (by decide) (runs_call (args := [.int .i64 n, lv]) goes22 rfl (formedV_any n l lv w7 hV)) (fun v9 w9 a1 hp hS => ?_)
      obtain ⟨rfl, hB9⟩ := hp
      rw [h2] at hS
      have hB := hB.trans (hB9.mono hB.size)
      have hM1 := hM1.below hB9 hM1.lt
      have hM3 := hM3.below hB9 hM3.lt
      have hM5 := hM5.below hB9 hM5.lt
      have hE := hEb.kept hB
      have hV := hVb.kept hB
      refine sI hS (runs_not (b := true) rfl) fun _ hS => ?_
      refine nil_ok (wp_cond_false (hS.eval rfl) (wp_skip (qx_seq (reg_seq ?_))))
      refine seq_op hS (by decide) (runs_allocB (cs := [.slice none 0 0]) zo32 rfl) (fun v11 w11 a1 hp hS => ?_)
      obtain ⟨rfl, hM11, hB11⟩ := hp
      have hLhM11 : w.heap.size ≤ w9.heap.size := hB.size
      have hB := hB.trans (hB11.mono hB.size)
      have hM1 := hM1.below hB11 hM1.lt
      have hM3 := hM3.below hB11 hM3.lt
      have hM5 := hM5.below hB11 hM5.lt
      have hE := hEb.kept hB
      have hV := hVb.kept hB
      refine nil_ok (qx_seq (reg_seq ?_))
      refine sI hS (runs_move rfl) fun _ hS => ?_
      refine sI hS (runs_makeFunc (cs := [.pointer (some ⟨w.heap.size, 0, none⟩), .pointer (some ⟨w1.heap.size, 0, none⟩), .pointer (some ⟨w3.heap.size, 0, none⟩), .pointer (some ⟨w9.heap.size, 0, none⟩)]) rfl) fun _ hS => ?_
      have hbec : ∀ i x wa, l[i]? = some x → KE w.heap.size w11.heap.size w11 wa → (fun i w' => ∃ sv, Has w' w9.heap.size 29 [sv] ∧ w'.ownsRow w.heap.size 61 3 sv (sentL n es (kindL tg.data.toList) src steps at_ (l.take i)).length (cellsE (sentL n es (kindL tg.data.toList) src steps at_ (l.take i)))) i wa → Ans 24 ([vv x] ++ [.pointer (some ⟨w.heap.size, 0, none⟩), .pointer (some ⟨w1.heap.size, 0, none⟩), .pointer (some ⟨w3.heap.size, 0, none⟩), .pointer (some ⟨w9.heap.size, 0, none⟩)]) wa (fun u wb => u = .tuple #[vv ((fun x => (stepL n es (kindL tg.data.toList) src steps at_ x).1) x), .int .i64 ((fun x => (stepL n es (kindL tg.data.toList) src steps at_ x).2.2) x)] ∧ KT w.heap.size wa wb ∧ ((fun x => (stepL n es (kindL tg.data.toList) src steps at_ x).2.2) x = 0 → (fun i w' => ∃ sv, Has w' w9.heap.size 29 [sv] ∧ w'.ownsRow w.heap.size 61 3 sv (sentL n es (kindL tg.data.toList) src steps at_ (l.take i)).length (cellsE (sentL n es (kindL tg.data.toList) src steps at_ (l.take i)))) (i + 1) wb)) := by
        intro i x wa hx hK hIi
        obtain ⟨sv, hs1, hs2⟩ := hIi
        have hq1 := step_small (n := n) (es := es) (k := (kindL tg.data.toList)) (src := src) (steps := steps) (at_ := at_) x
        have hq2 := sent_small (n := n) (es := es) (k := (kindL tg.data.toList)) (src := src) (steps := steps) (at_ := at_) (l.take i)
        have hq3 : (l.take i).length * es.length ≤ 64 * es.length := Nat.mul_le_mul_right _ (Nat.le_trans (by rw [List.length_take]; exact Nat.min_le_right _ _) hl64)
        have hsz := hB.size
        have hsk := hK.below.size
        refine Calls.mono (next1_any w.heap.size n es v tg src steps at_ x _ _ sv w.heap.size w1.heap.size w3.heap.size w9.heap.size wa (S := (stepL n es (kindL tg.data.toList) src steps at_ x).2.1) (sent := (sentL n es (kindL tg.data.toList) src steps at_ (l.take i))) rfl (hEb.kept (hB.trans hK.below)) (hK.other _ _ _ hM1.lt (by decide) (by decide) hM1) (hK.other _ _ _ hM3.lt (by decide) (by decide) hM3) (hK.other _ _ _ hM5.lt (by decide) (by decide) hM5) hs1 hs2 hLhM11 (by omega) (by omega)) ?_
        rintro e wb ⟨u, rfl, rfl, hKT, sv', h3, h4⟩
        exact ⟨_, rfl, rfl, hKT, fun _ => ⟨sv', h3, by rw [sent_snoc hx]; exact h4⟩⟩
      refine seq_op hS (by decide) (runs_call (args := [lv, .func (.func 24) #[] #[.pointer (some ⟨w.heap.size, 0, none⟩), .pointer (some ⟨w1.heap.size, 0, none⟩), .pointer (some ⟨w3.heap.size, 0, none⟩), .pointer (some ⟨w9.heap.size, 0, none⟩)]]) goes23 rfl (each_any w.heap.size 24 [.pointer (some ⟨w.heap.size, 0, none⟩), .pointer (some ⟨w1.heap.size, 0, none⟩), .pointer (some ⟨w3.heap.size, 0, none⟩), .pointer (some ⟨w9.heap.size, 0, none⟩)] goes24 (fun i w' => ∃ sv, Has w' w9.heap.size 29 [sv] ∧ w'.ownsRow w.heap.size 61 3 sv (sentL n es (kindL tg.data.toList) src steps at_ (l.take i)).length (cellsE (sentL n es (kindL tg.data.toList) src steps at_ (l.take i)))) (fun x => (stepL n es (kindL tg.data.toList) src steps at_ x).1) (fun x => (stepL n es (kindL tg.data.toList) src steps at_ x).2.2) l (by omega) lv w11 hB.size hV (fun w' hK => hVb.kept (hB.trans hK.below)) ⟨_, hM11, ⟨rfl, .inl ⟨rfl, rfl⟩⟩⟩ (fun i a b hi hk => by obtain ⟨sv, h1, h2⟩ := hi; exact ⟨sv, hk _ _ _ (by decide) h1, owns_typed (fun i cs h => hk i _ cs (by decide) h) h2⟩) hbec)) (fun v13 w13 a1 hp hS => ?_)
      obtain ⟨hK13, ov1, rfl, hok1, hbad1⟩ := hp
      have hB := hB.trans hK13.below
      have hM1 := hK13.other _ _ _ hM1.lt (by decide) (by decide) hM1
      have hM3 := hK13.other _ _ _ hM3.lt (by decide) (by decide) hM3
      have hE := hEb.kept hB
      have hV := hVb.kept hB
      obtain ⟨ER1, hE1⟩ : ∃ e, errF (fun x => (stepL n es (kindL tg.data.toList) src steps at_ x).2.2) l = e := ⟨_, rfl⟩
      rw [hE1] at hS hok1 hbad1
      refine sI hS (runs_move rfl) fun _ hS => ?_
      refine sI hS (runs_extract rfl rfl) fun _ hS => ?_
      refine sI hS (runs_extract rfl rfl) fun _ hS => ?_
      refine sI hS (runs_assign rfl) fun _ hS => ?_
      refine sI hS (runs_assign rfl) fun _ hS => ?_
      refine nil_ok (qx_seq (qx_seq (reg_seq ?_)))
      refine sI hS (runs_move rfl) fun _ hS => ?_
      by_cases h3 : ER1 ≠ 0
      · skip
        refine sI hS (runs_neq (r := true) rfl rfl (by simpa using h3)) fun _ hS => ?_
        refine nil_ok (wp_cond_true (hS.eval rfl) (qx_seq (reg_seq ?_)))
        refine sI hS (runs_move rfl) fun _ hS => ?_
        refine sI hS (runs_assign rfl) fun _ hS => ?_
        refine sI hS (runs_assign rfl) fun _ hS => ?_
        refine sI hS (runs_assign rfl) fun _ hS => ?_
        have hfin : nextL n es (kindL tg.data.toList) src steps at_ l = ([], [], ER1) := by have h := next_e1 h1 h2 (hE1 ▸ h3); rw [hE1] at h; exact h
        exact nil_ok (qx_ret (ret3 (t := 8) (u := 9) (r := 10) (by kernel_rfl) hS rfl rfl rfl ⟨_, rfl, _, _, by rw [hfin]; try rfl, by rw [hfin]; exact verts_nil _, by rw [hfin]; exact edges_nil _, hB⟩))
      refine sI hS (runs_neq (r := false) rfl rfl (by simpa using h3)) fun _ hS => ?_
      refine nil_ok (wp_cond_false (hS.eval rfl) (wp_skip (qx_seq (?_))))
      have h30 : ER1 = 0 := Classical.not_not.1 h3
      obtain ⟨hown1, sv, hS0, hown2⟩ := hok1 h30
      rw [List.take_length] at hown2
      obtain ⟨SN, hSN⟩ : ∃ s, (sentL n es (kindL tg.data.toList) src steps at_ l) = s := ⟨_, rfl⟩
      have hq2 := sent_small (n := n) (es := es) (k := (kindL tg.data.toList)) (src := src) (steps := steps) (at_ := at_) l
      have hq3 : l.length * es.length ≤ 64 * es.length := Nat.mul_le_mul_right _ hl64
      rw [hSN] at hown2 hq2
      have hsn : SN.length ≤ 10000 := by omega
      have hid : ∀ x ∈ l, (stepL n es (kindL tg.data.toList) src steps at_ x).1.id = x.id := fun x hx => nstep_id (errF_zero.1 (hE1.trans h30) x hx)
      refine reg_seq ?_
      refine sI hS (runs_move rfl) fun _ hS => ?_
      refine sI hS (runs_makeFunc (cs := [.pointer (some ⟨w1.heap.size, 0, none⟩), .pointer (some ⟨w9.heap.size, 0, none⟩)]) rfl) fun _ hS => ?_
      refine seq_op hS (by decide) (runs_call (args := [ov1, .func (.func 26) #[] #[.pointer (some ⟨w1.heap.size, 0, none⟩), .pointer (some ⟨w9.heap.size, 0, none⟩)]]) goes23 rfl (each_any w.heap.size 26 [.pointer (some ⟨w1.heap.size, 0, none⟩), .pointer (some ⟨w9.heap.size, 0, none⟩)] goes26 (fun (_ : Nat) w' => ∃ sv, Has w' w9.heap.size 29 [sv] ∧ w'.ownsRow w.heap.size 61 3 sv SN.length (cellsE SN)) (withV (kindL tg.data.toList) SN) (badV (kindL tg.data.toList) SN) (l.map (fun x => (stepL n es (kindL tg.data.toList) src steps at_ x).1)) (by rw [List.length_map]; omega) ov1 w13 hB.size (verts_own hown1 rfl) (fun w' hK => verts_own (hK.owns hown1 (Nat.le_refl _) (by decide) (by decide)) rfl) ⟨_, hS0, hown2⟩ (fun i a b hi hk => by obtain ⟨sv, h1, h2⟩ := hi; exact ⟨sv, hk _ _ _ (by decide) h1, owns_typed (fun i cs h => hk i _ cs (by decide) h) h2⟩) (fun i x wa hx hK hi => by obtain ⟨sv, hs1, hs2⟩ := hi; exact Calls.mono (next2_any tg src steps x SN hsn sv w1.heap.size w9.heap.size wa (hK.other _ _ _ hM3.lt (by decide) (by decide) hM3) hs1 (edges_ownE hs2 rfl)) (by rintro e wb ⟨u, rfl, rfl, hb⟩; exact ⟨_, rfl, rfl, KT.of hb (Nat.le_trans hB.size hK.below.size), fun _ => ⟨sv, hs1.below hb hs1.lt, owns_kept hs2 hb⟩⟩)))) (fun v14 w14 a1 hp hS => ?_)
      obtain ⟨hK14, ov2, rfl, hok2, hbad2⟩ := hp
      have hB := hB.trans hK14.below
      have hM1 := hK14.other _ _ _ hM1.lt (by decide) (by decide) hM1
      have hM3 := hK14.other _ _ _ hM3.lt (by decide) (by decide) hM3
      have hE := hEb.kept hB
      have hV := hVb.kept hB
      have hE2 : errF (badV (kindL tg.data.toList) SN) (l.map (fun x => (stepL n es (kindL tg.data.toList) src steps at_ x).1)) = errF (fun x => (cameL (kindL tg.data.toList) SN x.id).2.2) l := err_map (fun x hx => by show (cameL _ SN ((stepL n es (kindL tg.data.toList) src steps at_ x).1.id)).2.2 = _; rw [hid x hx])
      rw [hE2] at hS hok2 hbad2
      obtain ⟨ER2, hER2⟩ : ∃ e, errF (fun x => (cameL (kindL tg.data.toList) SN x.id).2.2) l = e := ⟨_, rfl⟩
      rw [hER2] at hS hok2 hbad2
      refine sI hS (runs_move rfl) fun _ hS => ?_
      refine sI hS (runs_extract rfl rfl) fun _ hS => ?_
      refine sI hS (runs_extract rfl rfl) fun _ hS => ?_
      refine sI hS (runs_assign rfl) fun _ hS => ?_
      refine sI hS (runs_assign rfl) fun _ hS => ?_
      refine nil_ok (qx_seq (qx_seq (reg_seq ?_)))
      refine sI hS (runs_move rfl) fun _ hS => ?_
      by_cases h4 : ER2 ≠ 0
      · skip
        refine sI hS (runs_neq (r := true) rfl rfl (by simpa using h4)) fun _ hS => ?_
        refine nil_ok (wp_cond_true (hS.eval rfl) (qx_seq (reg_seq ?_)))
        refine sI hS (runs_move rfl) fun _ hS => ?_
        refine sI hS (runs_assign rfl) fun _ hS => ?_
        refine sI hS (runs_assign rfl) fun _ hS => ?_
        refine sI hS (runs_assign rfl) fun _ hS => ?_
        have hfin : nextL n es (kindL tg.data.toList) src steps at_ l = ([], [], ER2) := by have h := next_e2 h1 h2 (hE1.trans h30) (by rw [hSN, hER2]; exact h4); rw [hSN, hER2] at h; exact h
        exact nil_ok (qx_ret (ret3 (t := 8) (u := 9) (r := 10) (by kernel_rfl) hS rfl rfl rfl ⟨_, rfl, _, _, by rw [hfin]; try rfl, by rw [hfin]; exact verts_nil _, by rw [hfin]; exact edges_nil _, hB⟩))
      refine sI hS (runs_neq (r := false) rfl rfl (by simpa using h4)) fun _ hS => ?_
      refine nil_ok (wp_cond_false (hS.eval rfl) (wp_skip (qx_seq (?_))))
      have h40 : ER2 = 0 := Classical.not_not.1 h4
      obtain ⟨hown3, sv3, hS0, hown4⟩ := hok2 h40
      have hVr := verts_own hown3 rfl
      have hSr := edges_ownE hown4 rfl
      refine reg_seq ?_
      refine sI hS (runs_move rfl) fun _ hS => ?_
      refine sI hS (runs_load rfl pl32 (hS0.at rfl)) fun _ hS => ?_
      refine seq_op hS (by decide) (runs_call (args := [sv3]) goes28 rfl (msort_any SN hsn sv3 w14 hSr)) (fun v15 w15 a1 hp hS => ?_)
      obtain ⟨hB15, hso⟩ := hp
      have hSo := hso.edges
      have hB := hB.trans (hB15.mono hB.size)
      have hM1 := hM1.below hB15 hM1.lt
      have hM3 := hM3.below hB15 hM3.lt
      have hE := hEb.kept hB
      have hV := hVb.kept hB
      have hVr := hVr.kept hB15
      refine sI hS (runs_assign rfl) fun _ hS => ?_
      refine sI hS (runs_assign rfl) fun _ hS => ?_
      refine sI hS (runs_assign rfl) fun _ hS => ?_
      have hfin : nextL n es (kindL tg.data.toList) src steps at_ l = (l.map (cameV n es (kindL tg.data.toList) src steps at_ l), sortM SN, 0) := by have h := next_done h1 h2 (hE1.trans h30) (by rw [hSN, hER2]; exact h40); rw [hSN] at h; exact h
      have hmap : (l.map (fun x => (stepL n es (kindL tg.data.toList) src steps at_ x).1)).map (withV (kindL tg.data.toList) SN) = l.map (cameV n es (kindL tg.data.toList) src steps at_ l) := by rw [List.map_map]; exact List.map_congr_left (fun x hx => by show withV _ SN (stepL n es (kindL tg.data.toList) src steps at_ x).1 = _; unfold withV cameV; rw [hSN, hid x hx])
      rw [hmap] at hVr
      exact nil_ok (qx_ret (ret3 (t := 8) (u := 9) (r := 10) (by kernel_rfl) hS rfl rfl rfl ⟨_, rfl, _, _, by rw [hfin]; try rfl, by rw [hfin]; exact hVr, by rw [hfin]; exact hSo, hB⟩))
    · skip
      refine reg_seq ?_
      refine sI hS (runs_fieldK fo24_0 rfl) fun _ hS => ?_
      refine sI hS (runs_load rfl pl3 (hM1.at rfl)) fun _ hS => ?_
      refine sI hS (runs_move rfl) fun _ hS => ?_
      refine seq_op hS (by decide) (runs_call (args := [.int .i64 n, lv]) goes22 rfl (formedV_any n l lv w7 hV)) (fun v17 w17 a1 hp hS => ?_)
      obtain ⟨rfl, hB17⟩ := hp
      rw [Bool.eq_false_iff.2 h2] at hS
      have hB := hB.trans (hB17.mono hB.size)
      have hM1 := hM1.below hB17 hM1.lt
      have hM3 := hM3.below hB17 hM3.lt
      have hE := hEb.kept hB
      refine sI hS (runs_not (b := false) rfl) fun _ hS => ?_
      refine nil_ok (wp_cond_true (hS.eval rfl) (qx_seq (reg_seq ?_)))
      refine sI hS (runs_assign rfl) fun _ hS => ?_
      refine sI hS (runs_assign rfl) fun _ hS => ?_
      refine sI hS (runs_assign rfl) fun _ hS => ?_
      have hfin : nextL n es (kindL tg.data.toList) src steps at_ l = ([], [], 90) := next_90 h1 (Bool.eq_false_iff.2 h2)
      exact nil_ok (qx_ret (ret3 (t := 8) (u := 9) (r := 10) (by kernel_rfl) hS rfl rfl rfl ⟨_, rfl, _, _, by rw [hfin]; try rfl, by rw [hfin]; exact verts_nil _, by rw [hfin]; exact edges_nil _, hB⟩))
  · skip
    refine reg_seq ?_
    refine sI hS (runs_loadRow rfl hM1 Tryz.underlying24 rfl (by rw [sz24]; rfl)) fun _ hS => ?_
    refine sI hS (runs_loadRow rfl hM3 Tryz.underlying26 rfl (by rw [sz26]; rfl)) fun _ hS => ?_
    refine seq_op hS (by decide) (runs_call (args := [gv n v, .agg (jc tg src steps).toArray]) goes21 rfl (pcheck_any n es _ tg src steps w5 hE)) (fun v19 w19 a1 hp hS => ?_)
    obtain ⟨rfl, hB19⟩ := hp
    rw [if_neg hj] at hS
    have hB := hB.trans (hB19.mono hB.size)
    refine sI hS (runs_neq (r := true) rfl rfl rfl) fun _ hS => ?_
    refine sI hS (runs_move rfl) fun _ hS => ?_
    refine sN hS fun _ hS => ?_
    refine sN hS fun _ hS => ?_
    refine sI hS (runs_pick rfl rfl) fun _ hS => ?_
    refine sI hS (runs_move rfl) fun _ hS => ?_
    refine sN hS fun _ hS => ?_
    refine sN hS fun _ hS => ?_
    refine sN hS fun _ hS => ?_
    refine sN hS fun _ hS => ?_
    refine sI hS (runs_pick rfl rfl) fun _ hS => ?_
    refine nil_ok (wp_cond_true (hS.eval rfl) (qx_seq (reg_seq ?_)))
    refine sI hS (runs_assign rfl) fun _ hS => ?_
    refine sI hS (runs_assign rfl) fun _ hS => ?_
    refine sI hS (runs_assign rfl) fun _ hS => ?_
    have hfin : nextL n es (kindL tg.data.toList) src steps at_ l = ([], [], 70) := next_70 (by rw [Bool.eq_false_iff.2 hj]; rfl)
    exact nil_ok (qx_ret (ret3 (t := 8) (u := 9) (r := 10) (by kernel_rfl) hS rfl rfl rfl ⟨_, rfl, _, _, by rw [hfin]; try rfl, by rw [hfin]; exact verts_nil _, by rw [hfin]; exact edges_nil _, hB⟩))
end Go.Proofs.YtapcpmalgdhakaaGreat
