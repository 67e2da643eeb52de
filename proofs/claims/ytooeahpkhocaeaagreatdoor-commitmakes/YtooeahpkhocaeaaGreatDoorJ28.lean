/- Rows of vertices in memory. No condition. -/
import Derived.Test.YtooeahpkhocaeaaGreatDoorJ27
import Derived.Test.YtooeahpkhocaeaaGreatDoorJ05
import Derived.ProofKit
import Derived.OpenShut
import Derived.ShutString
import Derived.Lib.LaidTab
import Derived.ChangeOld
import Derived.ChangeSame
import Derived.Below
import Derived.Deep.Slices
namespace Go.Proofs.YtooeahpkhocaeaaGreatDoor
open Go.RowKit
set_option maxRecDepth 100000

theorem undVx : Tryz.prog.underlying 22 = some (.slice 77) := by kernel_rfl
def cellsV (es : List Vx) : List Value := es.flatMap vc
theorem cellsV_length (es : List Vx) : (cellsV es).length = es.length * 5 := by
  induction es with
  | nil => rfl
  | cons x xs ih => unfold cellsV at ih ⊢; rw [List.flatMap_cons, List.length_append, ih]; simp [vc]; omega
theorem cellsV_get : ∀ (es : List Vx) (i : Nat) (e : Vx), es[i]? = some e → ((cellsV es).drop (i * 5)).take 5 = vc e
  | x :: es, 0, e, h => by obtain rfl : x = e := by simpa using h
                           simp [cellsV, vc]
  | x :: es, i + 1, e, h => by
    have := cellsV_get es i e (by simpa using h)
    unfold cellsV at this ⊢
    rw [List.flatMap_cons, show (i + 1) * 5 = (vc x).length + i * 5 by simp [vc]; omega, List.drop_append, List.drop_eq_nil_of_le (by omega), List.nil_append, show (vc x).length + i * 5 - (vc x).length = i * 5 by omega]
    exact this
/-- The value v is a slice of the verts es. -/
def Verts (w : World) (v : Value) (es : List Vx) : Prop :=
  ∃ (A : Option Addr) (c : Nat), v = .slice A es.length c ∧ es.length ≤ c ∧ c ≤ maxLen ∧ (0 < es.length → ∃ b o, A = some ⟨b, o, none⟩ ∧ b < w.heap.size ∧ w.rangeAt b o (cellsV es))
theorem Verts.kept {w w' : World} {v : Value} {es : List Vx} (h : Verts w v es) (k : Below w.heap.size w w') : Verts w' v es := by
  obtain ⟨A, c, rfl, h1, h2, h4⟩ := h
  refine ⟨A, c, rfl, h1, h2, fun hp => ?_⟩
  obtain ⟨b, o, rfl, hb, hr⟩ := h4 hp
  exact ⟨b, o, rfl, Nat.lt_of_lt_of_le hb k.size, range_below hr k hb⟩
theorem verts_nil (w : World) : Verts w (.slice none 0 0) [] := ⟨none, 0, rfl, Nat.le_refl _, by unfold maxLen; omega, fun h => absurd h (by simp)⟩
theorem verts_own {w : World} {base : Nat} {v : Value} {n : Nat} {es : List Vx} (h : w.ownsRow base 77 5 v n (cellsV es)) (hn : es.length = n) : Verts w v es := by
  subst hn
  rcases h.2 with ⟨rfl, h0⟩ | ⟨g, cap, cur, rfl, hb, hg, h1, h2, h3, h4⟩
  · exact ⟨none, 0, by rw [h0], by omega, by unfold maxLen; omega, fun h => by omega⟩
  · refine ⟨_, cap, rfl, h1, h2, fun _ => ⟨g, 0, rfl, (Array.getElem?_eq_some_iff.1 hg).1, fun j v hv => ?_⟩⟩
    rw [← h4, List.getElem?_take] at hv
    split at hv
    · simp only [World.cell?, hg, Nat.zero_add]; simpa using hv
    · cases hv
theorem verts_at {w : World} {b o : Nat} {es : List Vx} (h : w.rangeAt b o (cellsV es)) {i : Nat} {e : Vx} (hi : es[i]? = some e) : w.rangeAt b (o + i * 5) (vc e) := by
  rw [← cellsV_get es i e hi]
  exact range_sub h (i * 5) 5
/-- As Verts, and its cells lie at or behind B. -/
def VertsB (B : Nat) (w : World) (v : Value) (es : List Vx) : Prop :=
  ∃ (A : Option Addr) (c : Nat), v = .slice A es.length c ∧ es.length ≤ c ∧ c ≤ maxLen ∧ (0 < es.length → ∃ b o, A = some ⟨b, o, none⟩ ∧ B ≤ b ∧ b < w.heap.size ∧ w.rangeAt b o (cellsV es))
theorem VertsB.verts {B : Nat} {w : World} {v : Value} {es : List Vx} (h : VertsB B w v es) : Verts w v es := by
  obtain ⟨A, c, rfl, h1, h2, h3⟩ := h
  exact ⟨A, c, rfl, h1, h2, fun h0 => by obtain ⟨b, o, rfl, _, hb, hr⟩ := h3 h0; exact ⟨b, o, rfl, hb, hr⟩⟩
theorem VertsB.kept {B : Nat} {w w' : World} {v : Value} {es : List Vx} (h : VertsB B w v es) (k : Below w.heap.size w w') : VertsB B w' v es := by
  obtain ⟨A, c, rfl, h1, h2, h3⟩ := h
  exact ⟨A, c, rfl, h1, h2, fun h0 => by obtain ⟨b, o, rfl, hB, hb, hr⟩ := h3 h0; exact ⟨b, o, rfl, hB, Nat.lt_of_lt_of_le hb k.size, range_below hr k hb⟩⟩
theorem VertsB.mono {B B' : Nat} {w : World} {v : Value} {es : List Vx} (h : VertsB B w v es) (k : B' ≤ B) : VertsB B' w v es := by
  obtain ⟨A, c, rfl, h1, h2, h3⟩ := h
  exact ⟨A, c, rfl, h1, h2, fun h0 => by obtain ⟨b, o, rfl, hB, hb, hr⟩ := h3 h0; exact ⟨b, o, rfl, Nat.le_trans k hB, hb, hr⟩⟩
/-- What stays where a row of vertices that is made ends as Y. -/
def KYV (B : Nat) (Y : List Value) (a b : World) : Prop := Below B a b ∧ (∀ v k ys, ys <+: Y → a.ownsRow B 77 5 v k ys → b.ownsRow B 77 5 v k ys) ∧ (∀ i t cs, t ≠ 77 → Has a i t cs → Has b i t cs) ∧ (∀ i cs, cs.length = 5 → Has a i 77 cs → Has b i 77 cs)
theorem KYV.refl {B : Nat} {Y : List Value} {a : World} : KYV B Y a a := ⟨Below.refl _ _, fun _ _ _ _ h => h, fun _ _ _ _ h => h, fun _ _ _ h => h⟩
theorem KYV.trans {B : Nat} {Y : List Value} {a b c : World} (h : KYV B Y a b) (k : KYV B Y b c) : KYV B Y a c :=
  ⟨h.1.trans k.1, fun v n ys hy ho => k.2.1 v n ys hy (h.2.1 v n ys hy ho), fun i t cs ht ho => k.2.2.1 i t cs ht (h.2.2.1 i t cs ht ho), fun i cs ht ho => k.2.2.2 i cs ht (h.2.2.2 i cs ht ho)⟩
theorem KYV.drew {B : Nat} {Y : List Value} {a b : World} (h : KYV B Y a b) : KYV B Y a b.drew := ⟨h.1.drew, h.2.1, h.2.2.1, h.2.2.2⟩
section
variable {L : List (Nat × Value)} {w : World} {ty : TypeId}
/-- A vertex of a slice, loaded. -/
theorem runs_loadVx {x : Operand} {g o' : Nat} {e : Vx} (hx : vals L x = some (.pointer (some ⟨g, o', none⟩))) (hg : w.rangeAt g o' (vc e)) : Runs Tryz.prog (.load 77 x) ty L w (Is (vv e) w) :=
  runs_loadMid hx hg Tryz.underlying77 rfl (by rw [sz28]; rfl)
end
end Go.Proofs.YtooeahpkhocaeaaGreatDoor
/- How slices of vertices come in. No condition. -/
namespace Go.Proofs.YtooeahpkhocaeaaGreatDoor
open Go.ChangeShapes Go.WideShapes Go.ChangeAt Go.RowKit
set_option maxRecDepth 100000

theorem ce4 : Tryz.prog.cellsOf 4 = 1 := by kernel_rfl
theorem ce28 : Tryz.prog.cellsOf 77 = 5 := by kernel_rfl

section
variable {H : Type} {enc : TypeId × Value → H} {W : World} {base b0 : Nat} {r : Reach} {sp : Nat → Bool} {held : Bool} {v : Value} {d : DataW H} {p : List MemPlace}
theorem open_vx0 {fuel : Nat} {cs : List Value} {x : DataW H × List MemPlace} (h : DataW.trod enc Tryz.prog W base sp held fuel 77 cs = some x) : ∃ e : Vx, cs = vc e := by
  obtain ⟨xs, n, _, _, hl, hlen, hf⟩ := DataW.trod_struct Tryz.underlying77 h
  rw [ce28] at hl
  match cs, hl with
  | [c0, c1, c2, c3, c4], _ =>
    have f0 : DataW.trod enc Tryz.prog W base sp held n 3 (([c0, c1, c2, c3, c4].drop 0).take (Tryz.prog.cellsOf 3)) = xs[0]? := hf 0 _ rfl
    have f1 : DataW.trod enc Tryz.prog W base sp held n 2 (([c0, c1, c2, c3, c4].drop 1).take (Tryz.prog.cellsOf 2)) = xs[1]? := hf 1 _ rfl
    have f2 : DataW.trod enc Tryz.prog W base sp held n 4 (([c0, c1, c2, c3, c4].drop 2).take (Tryz.prog.cellsOf 4)) = xs[2]? := hf 2 _ rfl
    have f3 : DataW.trod enc Tryz.prog W base sp held n 4 (([c0, c1, c2, c3, c4].drop 3).take (Tryz.prog.cellsOf 4)) = xs[3]? := hf 3 _ rfl
    have f4 : DataW.trod enc Tryz.prog W base sp held n 2 (([c0, c1, c2, c3, c4].drop 4).take (Tryz.prog.cellsOf 2)) = xs[4]? := hf 4 _ rfl
    rw [ce3] at f0
    rw [ce2] at f1 f4
    rw [ce4] at f2 f3
    match xs, hlen with
    | [x0, x1, x2, x3, x4], _ =>
      obtain ⟨a, ha, _, _⟩ := DataW.trod_int und3 f0
      obtain ⟨b, hb, _, _⟩ := DataW.trod_int und2 f1
      obtain ⟨c, hc, _⟩ := DataW.trod_bool und4 f2
      obtain ⟨e, he, _⟩ := DataW.trod_bool und4 f3
      obtain ⟨f, hf, _, _⟩ := DataW.trod_int und2 f4
      simp at ha hb hc he hf
      exact ⟨⟨a, b, c, e, f⟩, by simp [vc, ha, hb, hc, he, hf]⟩
theorem cells5 {a : Addr} {cs : List Value} (h : W.cells? base a 5 = some cs) : ∀ j u, cs[j]? = some u → W.cell? (a.add j) = some u := by
  unfold World.cells? at h
  split at h
  · intro j u hj
    have hlen : cs.length = 5 := by simpa using Lib.mapM_length h
    have hj3 : j < 5 := by have := (List.getElem?_eq_some_iff.1 hj).1; omega
    obtain ⟨b, hb, hf⟩ := Lib.mapM_at h j j (by simp [hj3])
    rw [hb] at hj
    rw [hf, ← hj]
  · cases h
theorem open_vxs {fuel : Nat} {c1 : Value} {x : DataW H × List MemPlace} (h : DataW.trod enc Tryz.prog W base sp held fuel 22 [c1] = some x) (hlt : ∀ q ∈ x.2, q.block < W.heap.size) : ∃ es : List Vx, Verts W c1 es := by
  rcases DataW.trod_slice undVx h with ⟨hc, _⟩ | ⟨a, len, cap, elems, rest, n, _, hc, hx, _, hl, hm, hel, hcell, _⟩
  · simp only [List.cons.injEq, and_true] at hc
    subst hc
    exact ⟨[], verts_nil W⟩
  · simp only [List.cons.injEq, and_true] at hc
    subst hc
    rw [ce28] at hcell hx
    have hget : ∀ i, i < len → ∃ e : Vx, (∀ j u, (vc e)[j]? = some u → W.cell? ((a.add (i * 5)).add j) = some u) := fun i hi => by
      have h1 := hcell i hi
      rw [List.getElem?_eq_getElem (by omega)] at h1
      rw [Option.bind_eq_some_iff] at h1
      obtain ⟨cs, hcs, ht⟩ := h1
      obtain ⟨e, rfl⟩ := open_vx0 ht
      exact ⟨e, cells5 hcs⟩
    obtain ⟨f, hf⟩ : ∃ f : Nat → Vx, (∀ i, i < len → ∀ j u, (vc (f i))[j]? = some u → W.cell? ((a.add (i * 5)).add j) = some u) :=
      ⟨fun i => if h : i < len then (hget i h).choose else noVx, fun i hi => by simp only [hi, dif_pos]; exact (hget i hi).choose_spec⟩
    refine ⟨(List.range len).map f, ⟨some a, cap, by simp, by simpa using hl, hm, fun h0 => ?_⟩⟩
    simp only [List.length_map, List.length_range] at h0
    obtain ⟨b, off, spot⟩ := a
    have hspot : spot = none := by
      have := hf 0 h0 0 _ rfl
      simpa [Addr.add] using World.cell?_spot this
    subst hspot
    refine ⟨b, off, rfl, ?_, fun j u hj => ?_⟩
    · refine hlt (.cell b off) ?_
      rw [hx]
      exact List.mem_append_left _ (MemPlace.mem_row.2 ⟨0, by omega, by simp⟩)
    · have hj3 : j < len * 5 := by have := (List.getElem?_eq_some_iff.1 hj).1; rw [cellsV_length] at this; simpa using this
      have hq : j / 5 < len := by omega
      have h1 := cellsV_get ((List.range len).map f) (j / 5) (f (j / 5)) (by simp [hq])
      have h2 : (vc (f (j / 5)))[j % 5]? = some u := by
        rw [← h1, List.getElem?_take, if_pos (Nat.mod_lt _ (by omega)), List.getElem?_drop, show j / 5 * 5 + j % 5 = j by omega]
        exact hj
      have h3 := hf (j / 5) hq (j % 5) u h2
      rw [add_lit', add_lit'] at h3
      rw [show off + j / 5 * 5 + j % 5 = off + j by omega] at h3
      exact h3
theorem open_verts (hv : Value.okWide Tryz.prog W r b0 22 v) (h : DataW.Trod enc Tryz.prog W base sp held 22 v d p) (hlt : ∀ x ∈ p, x.block < W.heap.size) : ∃ es : List Vx, Verts W v es := by
  obtain ⟨a, len, cap, rfl⟩ := okWide_slice undVx hv
  obtain ⟨fuel, hf⟩ := h
  have hf' : DataW.trod enc Tryz.prog W base sp held fuel 22 [.slice a len cap] = some (d, p) := hf
  exact open_vxs hf' hlt
end
end Go.Proofs.YtooeahpkhocaeaaGreatDoor
/- The document of layer 10: which vertices have bytes, and these. Conditions: none of our own. -/
namespace Go.Proofs.YtooeahpkhocaeaaGreatDoor
open Go.RowKit
set_option maxRecDepth 100000

theorem goes67 : Goes Tryz.prog 67 := goes_of Tryz.func67 (by kernel_rfl) rfl
theorem goes68 : Goes Tryz.prog 68 := goes_of Tryz.func68 (by kernel_rfl) rfl
theorem great_zero : great 0 = false := rfl
set_option maxHeartbeats 1000000 in
theorem rright_any (x : Vx) (w : World) : Ans 67 [vv x] w (fun u w' => u = .bool (rightX x) ∧ Below w.heap.size w w') := by
  refine calls_qx (args := [.agg (vc x).toArray]) 32 Tryz.func67 rfl (by kernel_rfl) (by simp) (fun a hS => ?_)
  have hB := Below.refl w.heap.size w
  refine qx_seq (reg_seq ?_)
  refine seq_op hS (by decide) (runs_boxB (cs := vc x) rfl rfl) (fun v1 w1 a1 hp hS => ?_)
  obtain ⟨rfl, hM1, hB1⟩ := hp
  have hB := hB.trans (hB1.mono hB.size)
  refine sI hS (runs_assign rfl) fun _ hS => ?_
  refine nil_ok (qx_seq (reg_seq ?_))
  refine sI hS (runs_fieldK fo28_0 rfl) fun _ hS => ?_
  refine sI hS (runs_load rfl pl3 (hM1.at rfl)) fun _ hS => ?_
  by_cases h1 : 0 ≤ x.id
  · skip
    refine sI hS (geqT rfl rfl (by omega)) fun _ hS => ?_
    refine sI hS (runs_move rfl) fun _ hS => ?_
    refine sY hS (runs_fieldK fo28_0 rfl) fun _ hS => ?_
    refine sY hS (runs_load rfl pl3 (hM1.at rfl)) fun _ hS => ?_
    by_cases h2 : x.id < 64
    · skip
      refine sY hS (lssT rfl rfl (by omega)) fun _ hS => ?_
      refine sI hS (runs_pick rfl rfl) fun _ hS => ?_
      refine sI hS (runs_move rfl) fun _ hS => ?_
      refine sY hS (runs_fieldK fo28_1 rfl) fun _ hS => ?_
      refine sY hS (runs_load rfl pl2 (hM1.at rfl)) fun _ hS => ?_
      by_cases h3 : great x.val = true
      · skip
        refine sY hS (runs_call (args := [.int .i64 x.val]) goes83 rfl (rgreat_is w1 h3)) fun _ hS => ?_
        refine sY hS (runs_not (b := true) rfl) fun _ hS => ?_
        refine sI hS (runs_pick rfl rfl) fun _ hS => ?_
        refine sI hS (runs_move rfl) fun _ hS => ?_
        refine sN hS fun _ hS => ?_
        refine sN hS fun _ hS => ?_
        refine sN hS fun _ hS => ?_
        refine sN hS fun _ hS => ?_
        refine sI hS (runs_pick rfl rfl) fun _ hS => ?_
        refine sI hS (runs_move rfl) fun _ hS => ?_
        refine sN hS fun _ hS => ?_
        refine sN hS fun _ hS => ?_
        refine sN hS fun _ hS => ?_
        refine sU hS fun _ hS => ?_
        refine sU hS fun _ hS => ?_
        refine sU hS fun _ hS => ?_
        refine sN hS fun _ hS => ?_
        refine sI hS (runs_pick rfl rfl) fun _ hS => ?_
        refine sI hS (runs_assign rfl) fun _ hS => ?_
        exact nil_ok (qx_ret (ret1 (t := 2) (by kernel_rfl) hS rfl ⟨_, rfl, by simp [rightX, h1, h2, h3], hB⟩))
      refine sY hS (runs_call (args := [.int .i64 x.val]) goes83 rfl (rgreat_is w1 (Bool.eq_false_iff.2 h3))) fun _ hS => ?_
      refine sY hS (runs_not (b := false) rfl) fun _ hS => ?_
      refine sI hS (runs_pick rfl rfl) fun _ hS => ?_
      refine sI hS (runs_move rfl) fun _ hS => ?_
      refine sY hS (runs_fieldK fo28_4 rfl) fun _ hS => ?_
      refine sY hS (runs_load rfl pl2 (hM1.at rfl)) fun _ hS => ?_
      by_cases h4 : great x.inn = true
      · skip
        refine sY hS (runs_call (args := [.int .i64 x.inn]) goes83 rfl (rgreat_is w1 h4)) fun _ hS => ?_
        refine sY hS (runs_not (b := true) rfl) fun _ hS => ?_
        refine sI hS (runs_pick rfl rfl) fun _ hS => ?_
        refine sI hS (runs_move rfl) fun _ hS => ?_
        refine sN hS fun _ hS => ?_
        refine sN hS fun _ hS => ?_
        refine sN hS fun _ hS => ?_
        refine sU hS fun _ hS => ?_
        refine sU hS fun _ hS => ?_
        refine sU hS fun _ hS => ?_
        refine sN hS fun _ hS => ?_
        refine sI hS (runs_pick rfl rfl) fun _ hS => ?_
        refine sI hS (runs_assign rfl) fun _ hS => ?_
        exact nil_ok (qx_ret (ret1 (t := 2) (by kernel_rfl) hS rfl ⟨_, rfl, by simp [rightX, h1, h2, h3, h4], hB⟩))
      refine sY hS (runs_call (args := [.int .i64 x.inn]) goes83 rfl (rgreat_is w1 (Bool.eq_false_iff.2 h4))) fun _ hS => ?_
      refine sY hS (runs_not (b := false) rfl) fun _ hS => ?_
      refine sI hS (runs_pick rfl rfl) fun _ hS => ?_
      refine sI hS (runs_move rfl) fun _ hS => ?_
      refine sY hS (runs_fieldK fo28_3 rfl) fun _ hS => ?_
      refine sY hS (runs_load rfl pl4 (hM1.at rfl)) fun _ hS => ?_
      by_cases h5 : x.has = true
      · skip
        rw [h5] at hS
        refine sY hS (runs_move rfl) fun _ hS => ?_
        refine sN hS fun _ hS => ?_
        refine sN hS fun _ hS => ?_
        refine sN hS fun _ hS => ?_
        refine sY hS (runs_pick rfl rfl) fun _ hS => ?_
        refine sI hS (runs_pick rfl rfl) fun _ hS => ?_
        refine sI hS (runs_assign rfl) fun _ hS => ?_
        exact nil_ok (qx_ret (ret1 (t := 2) (by kernel_rfl) hS rfl ⟨_, rfl, by simp [rightX, h1, h2, h3, h4, h5], hB⟩))
      · skip
        rw [Bool.eq_false_iff.2 h5] at hS
        refine sY hS (runs_move rfl) fun _ hS => ?_
        refine sY hS (runs_fieldK fo28_4 rfl) fun _ hS => ?_
        refine sY hS (runs_load rfl pl2 (hM1.at rfl)) fun _ hS => ?_
        by_cases h6 : x.inn = 0
        · skip
          refine sY hS (runs_eql (r := true) rfl rfl (by first | rfl | (simp; done) | (simp; omega))) fun _ hS => ?_
          refine sY hS (runs_pick rfl rfl) fun _ hS => ?_
          refine sI hS (runs_pick rfl rfl) fun _ hS => ?_
          refine sI hS (runs_assign rfl) fun _ hS => ?_
          exact nil_ok (qx_ret (ret1 (t := 2) (by kernel_rfl) hS rfl ⟨_, rfl, by simp [rightX, great_zero, h1, h2, h3, h5, h6], hB⟩))
        refine sY hS (runs_eql (r := false) rfl rfl (by first | rfl | (simp; done) | (simp; omega))) fun _ hS => ?_
        refine sY hS (runs_pick rfl rfl) fun _ hS => ?_
        refine sI hS (runs_pick rfl rfl) fun _ hS => ?_
        refine sI hS (runs_assign rfl) fun _ hS => ?_
        exact nil_ok (qx_ret (ret1 (t := 2) (by kernel_rfl) hS rfl ⟨_, rfl, by simp [rightX, h1, h2, h3, h4, h5, h6], hB⟩))
    refine sY hS (lssF rfl rfl (by omega)) fun _ hS => ?_
    refine sI hS (runs_pick rfl rfl) fun _ hS => ?_
    refine sI hS (runs_move rfl) fun _ hS => ?_
    refine sN hS fun _ hS => ?_
    refine sN hS fun _ hS => ?_
    refine sN hS fun _ hS => ?_
    refine sN hS fun _ hS => ?_
    refine sI hS (runs_pick rfl rfl) fun _ hS => ?_
    refine sI hS (runs_move rfl) fun _ hS => ?_
    refine sN hS fun _ hS => ?_
    refine sN hS fun _ hS => ?_
    refine sN hS fun _ hS => ?_
    refine sN hS fun _ hS => ?_
    refine sI hS (runs_pick rfl rfl) fun _ hS => ?_
    refine sI hS (runs_move rfl) fun _ hS => ?_
    refine sN hS fun _ hS => ?_
    refine sN hS fun _ hS => ?_
    refine sN hS fun _ hS => ?_
    refine sU hS fun _ hS => ?_
    refine sU hS fun _ hS => ?_
    refine sU hS fun _ hS => ?_
    refine sN hS fun _ hS => ?_
    refine sI hS (runs_pick rfl rfl) fun _ hS => ?_
    refine sI hS (runs_assign rfl) fun _ hS => ?_
    exact nil_ok (qx_ret (ret1 (t := 2) (by kernel_rfl) hS rfl ⟨_, rfl, by simp [rightX, h1, h2], hB⟩))
  refine sI hS (geqF rfl rfl (by omega)) fun _ hS => ?_
  refine sI hS (runs_move rfl) fun _ hS => ?_
  refine sN hS fun _ hS => ?_
  refine sN hS fun _ hS => ?_
  refine sN hS fun _ hS => ?_
  refine sI hS (runs_pick rfl rfl) fun _ hS => ?_
  refine sI hS (runs_move rfl) fun _ hS => ?_
  refine sN hS fun _ hS => ?_
  refine sN hS fun _ hS => ?_
  refine sN hS fun _ hS => ?_
  refine sN hS fun _ hS => ?_
  refine sI hS (runs_pick rfl rfl) fun _ hS => ?_
  refine sI hS (runs_move rfl) fun _ hS => ?_
  refine sN hS fun _ hS => ?_
  refine sN hS fun _ hS => ?_
  refine sN hS fun _ hS => ?_
  refine sN hS fun _ hS => ?_
  refine sI hS (runs_pick rfl rfl) fun _ hS => ?_
  refine sI hS (runs_move rfl) fun _ hS => ?_
  refine sN hS fun _ hS => ?_
  refine sN hS fun _ hS => ?_
  refine sN hS fun _ hS => ?_
  refine sU hS fun _ hS => ?_
  refine sU hS fun _ hS => ?_
  refine sU hS fun _ hS => ?_
  refine sN hS fun _ hS => ?_
  refine sI hS (runs_pick rfl rfl) fun _ hS => ?_
  refine sI hS (runs_assign rfl) fun _ hS => ?_
  exact nil_ok (qx_ret (ret1 (t := 2) (by kernel_rfl) hS rfl ⟨_, rfl, by simp [rightX, h1], hB⟩))
/-- What Put tells. -/
def putX (x : Vx) : ByteArray := S (if rightX x then bytesX x else [])
set_option maxHeartbeats 1000000 in
theorem rbit_any (b : Bool) (w : World) : Ans 68 [.bool b] w (Is (.string (S [bitN b])) w) := by
  refine calls_qx (args := [.bool b]) 4 Tryz.func68 rfl (by kernel_rfl) (by simp) (fun a hS => ?_)
  refine qx_seq (reg_seq ?_)
  refine sI hS (runs_assign rfl) fun _ hS => ?_
  refine nil_ok (qx_seq (qx_seq (reg_seq ?_)))
  refine sI hS (runs_move rfl) fun _ hS => ?_
  refine nil_ok (?_)
  by_cases hb : b = true
  · skip
    rw [hb] at hS
    refine wp_cond_true (hS.eval rfl) (qx_seq (reg_seq ?_))
    refine sI hS (runs_assign rfl) fun _ hS => ?_
    exact nil_ok (qx_ret (ret1 (t := 2) (by kernel_rfl) hS rfl ⟨_, rfl, by simp [bitN, hb]; rfl, rfl⟩))
  · skip
    rw [Bool.eq_false_iff.2 hb] at hS
    refine wp_cond_false (hS.eval rfl) (wp_skip (qx_seq (reg_seq ?_)))
    refine sI hS (runs_assign rfl) fun _ hS => ?_
    exact nil_ok (qx_ret (ret1 (t := 2) (by kernel_rfl) hS rfl ⟨_, rfl, by simp [bitN, hb]; rfl, rfl⟩))
set_option maxHeartbeats 1000000 in
theorem rput_any (x : Vx) (w : World) : Ans 48 [vv x] w (fun u w' => u = .string (putX x) ∧ Below w.heap.size w w') := by
  refine calls_qx (args := [.agg (vc x).toArray]) 26 Tryz.func48 rfl (by kernel_rfl) (by simp) (fun a hS => ?_)
  have hB := Below.refl w.heap.size w
  refine qx_seq (reg_seq ?_)
  refine seq_op hS (by decide) (runs_boxB (cs := vc x) rfl rfl) (fun v1 w1 a1 hp hS => ?_)
  obtain ⟨rfl, hM1, hB1⟩ := hp
  have hB := hB.trans (hB1.mono hB.size)
  refine sI hS (runs_assign rfl) fun _ hS => ?_
  refine nil_ok (qx_seq (qx_seq (reg_seq ?_)))
  refine sI hS (runs_loadRow rfl hM1 Tryz.underlying77 rfl (by rw [sz28]; rfl)) fun _ hS => ?_
  refine seq_op hS (by decide) (runs_call (args := [.agg (vc x).toArray]) goes67 rfl (rright_any x w1)) (fun v3 w3 a1 hp hS => ?_)
  obtain ⟨rfl, hB3⟩ := hp
  have hB := hB.trans (hB3.mono hB.size)
  have hM1 := hM1.below hB3 hM1.lt
  by_cases hr : rightX x = true
  · skip
    rw [hr] at hS
    refine sI hS (runs_not (b := true) rfl) fun _ hS => ?_
    refine nil_ok (wp_cond_false (hS.eval rfl) (wp_skip (qx_seq (?_))))
    obtain ⟨g1, g2, g3, g4, g5⟩ := right_parts hr
    have hid : x.id = ((x.id.toNat : Nat) : Int) := by omega
    have n1 : x.id.toNat < 18446744073709551616 := by omega
    have v1 := great_no g3
    have v2 := great_no g4
    have z1 := numS_le n1
    have z2 := numS_le (Wire.fold_lt x.val (by omega) (by omega))
    have z3 := numS_le (Wire.fold_lt x.inn (by omega) (by omega))
    have zb : ∀ b : Bool, (S [bitN b]).size = 1 := fun b => by rw [S_size]; rfl
    refine reg_guard (fun w' => Below w3.heap.size w3 w') [.inl (.pointer (some ⟨w.heap.size, 0 + 0, none⟩)), .inl (.int .i64 x.id), .inl (.int .u64 ((x.id.toNat : Nat) : Int)), .inl (.string (S (Wire.num x.id.toNat))), .inl (.pointer (some ⟨w.heap.size, 0 + 1, none⟩)), .inl (.int .i64 x.val), .inl (.string (S (Wire.num (Wire.fold x.val)))), .inl (.string (S (Wire.num x.id.toNat ++ Wire.num (Wire.fold x.val)))), .inl (.pointer (some ⟨w.heap.size, 0 + 2, none⟩)), .inl (.bool x.act), .inl (.string (S [bitN x.act])), .inl (.string (S (Wire.num x.id.toNat ++ Wire.num (Wire.fold x.val) ++ [bitN x.act]))), .inl (.pointer (some ⟨w.heap.size, 0 + 3, none⟩)), .inl (.bool x.has), .inl (.string (S [bitN x.has])), .inl (.string (S (Wire.num x.id.toNat ++ Wire.num (Wire.fold x.val) ++ [bitN x.act] ++ [bitN x.has]))), .inl (.pointer (some ⟨w.heap.size, 0 + 4, none⟩)), .inl (.int .i64 x.inn), .inl (.string (S (Wire.num (Wire.fold x.inn)))), .inl (.string (S (bytesX x)))] 20 1 mixed rfl (by kernel_rfl) hS (Below.refl _ _) (fun _ h => h.drew) ?_
    refine hs_is rfl (fun w' hw => runs_fieldK fo28_0 rfl) ?_
    refine hs_is rfl (fun w' hw => runs_load rfl pl3 ((hM1.below hw hM1.lt).at rfl)) ?_
    refine hs_is rfl (fun w' hw => runs_to64 (a := x.id.toNat) (by rw [← hid]; rfl) (by decide) n1) ?_
    refine hs_val rfl (fun w' hw hq => (runs_call (args := [.int .u64 ((x.id.toNat : Nat) : Int)]) goes50 rfl (str_post (fun w2 => Below w'.heap.size w' w2) (refNum_any _ w' n1) (fun _ h => h))).mono (by rintro u w3 ⟨rfl, h1⟩; exact ⟨rfl, hw.trans (h1.mono hw.size), h1⟩)) ?_
    refine hs_is rfl (fun w' hw => runs_fieldK fo28_1 rfl) ?_
    refine hs_is rfl (fun w' hw => runs_load rfl pl2 ((hM1.below hw hM1.lt).at rfl)) ?_
    refine hs_val rfl (fun w' hw hq => (runs_call (args := [.int .i64 x.val]) goes51 rfl (str_post (fun w2 => Below w'.heap.size w' w2) (refInt_any _ w' (by omega) (by omega)) (fun _ h => h))).mono (by rintro u w3 ⟨rfl, h1⟩; exact ⟨rfl, hw.trans (h1.mono hw.size), h1⟩)) ?_
    refine hs_is rfl (fun w' hw => runs_catG rfl rfl (S_append _ _).symm (by first | omega | (simp only [S_append, ByteArray.size_append, zb]; omega))) ?_
    refine hs_is rfl (fun w' hw => runs_fieldK fo28_2 rfl) ?_
    refine hs_is rfl (fun w' hw => runs_load rfl pl4 ((hM1.below hw hM1.lt).at rfl)) ?_
    refine hs_is rfl (fun w' hw => runs_call (args := [.bool x.act]) goes68 rfl (rbit_any _ w')) ?_
    refine hs_is rfl (fun w' hw => runs_catG rfl rfl (S_append _ _).symm (by first | omega | (simp only [S_append, ByteArray.size_append, zb]; omega))) ?_
    refine hs_is rfl (fun w' hw => runs_fieldK fo28_3 rfl) ?_
    refine hs_is rfl (fun w' hw => runs_load rfl pl4 ((hM1.below hw hM1.lt).at rfl)) ?_
    refine hs_is rfl (fun w' hw => runs_call (args := [.bool x.has]) goes68 rfl (rbit_any _ w')) ?_
    refine hs_is rfl (fun w' hw => runs_catG rfl rfl (S_append _ _).symm (by first | omega | (simp only [S_append, ByteArray.size_append, zb]; omega))) ?_
    refine hs_is rfl (fun w' hw => runs_fieldK fo28_4 rfl) ?_
    refine hs_is rfl (fun w' hw => runs_load rfl pl2 ((hM1.below hw hM1.lt).at rfl)) ?_
    refine hs_val rfl (fun w' hw hq => (runs_call (args := [.int .i64 x.inn]) goes51 rfl (str_post (fun w2 => Below w'.heap.size w' w2) (refInt_any _ w' (by omega) (by omega)) (fun _ h => h))).mono (by rintro u w3 ⟨rfl, h1⟩; exact ⟨rfl, hw.trans (h1.mono hw.size), h1⟩)) ?_
    refine hs_is rfl (fun w' hw => runs_catG rfl rfl (S_append _ _).symm (by first | omega | (simp only [S_append, ByteArray.size_append, zb]; omega))) ?_
    refine (fun a5 w5 hS hB5 hq => ?_)
    clear hq
    have hB := hB.trans (hB5.mono hB.size)
    refine tail_op 20 (by kernel_rfl) rfl hS (by decide) (runs_assign rfl) (fun v7 w7 a7 hp hS => ⟨trivial, ?_⟩)
    obtain ⟨rfl, rfl⟩ := hp
    refine wpAnyH_done (by kernel_rfl) ?_ _
    exact qx_ret (ret1 (t := 2) (by kernel_rfl) hS rfl ⟨_, rfl, by simp [putX, hr]; try rfl, hB⟩)
  · skip
    rw [Bool.eq_false_iff.2 hr] at hS
    refine sI hS (runs_not (b := false) rfl) fun _ hS => ?_
    refine nil_ok (wp_cond_true (hS.eval rfl) (qx_seq (reg_seq ?_)))
    refine sI hS (runs_assign rfl) fun _ hS => ?_
    exact nil_ok (qx_ret (ret1 (t := 2) (by kernel_rfl) hS rfl ⟨_, rfl, by simp [putX, hr]; try rfl, hB⟩))
end Go.Proofs.YtooeahpkhocaeaaGreatDoor
