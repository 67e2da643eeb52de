/- Layer 5: Read. Conditions: none of our own. -/
import Derived.Test.YtdbibjcplakelaaDoorGRead
namespace Go.Proofs.YtdbibjcplakelaaDoor
open Go.RowKit
set_option maxRecDepth 100000

def liftN (n : Int) : Sum Nat (List E) → Sum Nat (Int × List E)
  | .inl k => .inl k
  | .inr es => .inr (n, es)
theorem rdT_cut {s line rest : Bs} (h : cutAt 10 s = some (line, rest)) : rdT s = match vertsOf line with
    | none => .inl 1
    | some n => liftN n (rdE 2 [] (splitC 10 rest)) := by
  unfold rdT
  rw [splitC_cut h]
  simp only
  rw [if_neg (splitC_ne 10 rest)]
  cases vertsOf line with
  | none => rfl
  | some n => simp only; cases rdE 2 [] (splitC 10 rest) <;> rfl
theorem rdT_none {s : Bs} (h : cutAt 10 s = none) : rdT s = .inl 1 := by
  unfold rdT
  rw [splitC_none (cutAt_none h)]
  rfl
theorem rdE_cut {s line rest : Bs} (h : cutAt 10 s = some (line, rest)) (at_ : Nat) (es : List E) : rdE at_ es (splitC 10 s) = match edgeOf line with
    | some e => rdE (at_ + 1) (es ++ [e]) (splitC 10 rest)
    | none => .inl at_ := by
  rw [splitC_cut h, rdE, if_neg (splitC_ne 10 rest)]
  cases edgeOf line <;> rfl
theorem rdE_no {s : Bs} (h : cutAt 10 s = none) (hs : s ≠ []) (at_ : Nat) (es : List E) : rdE at_ es (splitC 10 s) = .inl at_ := by
  rw [splitC_none (cutAt_none h), rdE, if_pos rfl, if_neg hs]
theorem rdE_nil (at_ : Nat) (es : List E) : rdE at_ es (splitC 10 []) = .inr es := rfl
theorem cut_size {s line rest : Bs} (h : cutAt 10 s = some (line, rest)) : line.length + rest.length + 1 = s.length := by
  rw [(cutAt_some h).1]; simp; omega
theorem owns_setRow {w : World} {B g n : Nat} {v : Value} {xs : List Value} {t : TypeId} {old : List Value} (h : w.ownsRow B 45 3 v n xs) (hg : Has w g t old) (ht : t ≠ 45) (cs : Array Value) : (w.setRow g cs).ownsRow B 45 3 v n xs := by
  refine ⟨h.1, ?_⟩
  rcases h.2 with h | ⟨g4, c4, cur, h0, h4, hh, hrest⟩
  · exact .inl h
  · refine .inr ⟨g4, c4, cur, h0, h4, ?_, hrest⟩
    rw [setRow_other w g g4 cs (fun e => by
      subst e
      unfold Has at hg
      rw [hg] at hh
      simp only [Option.some.injEq, Obj.cells.injEq] at hh
      exact ht hh.2.1)]
    exact hh
theorem edgesB_own {w : World} {B : Nat} {v : Value} {n : Nat} {es : List E} (h : w.ownsRow B 45 3 v n (cellsE es)) (hn : es.length = n) : EdgesB B w v es := by
  subst hn
  rcases h.2 with ⟨rfl, h0⟩ | ⟨g, cap, cur, rfl, hb, hg, h1, h2, h3, h4⟩
  · exact ⟨none, 0, by rw [h0], by omega, by unfold maxLen; omega, fun h => by omega⟩
  · obtain ⟨A, c, e, k1, k2, k3⟩ := edges_own (es := es) ⟨h.1, .inr ⟨g, cap, cur, rfl, hb, hg, h1, h2, h3, h4⟩⟩ rfl
    simp only [Value.slice.injEq, true_and] at e
    obtain ⟨rfl, rfl⟩ := e
    refine ⟨_, _, rfl, k1, k2, fun h0 => ?_⟩
    obtain ⟨b, o, e2, k5, k6⟩ := k3 h0
    simp only [Option.some.injEq, Addr.mk.injEq] at e2
    exact ⟨b, o, by simp [e2.1, e2.2.1], by omega, k5, k6⟩
theorem mk_size (l : Bs) : (ByteArray.mk l.toArray).size = l.length := rfl
/-- Where the loop is. -/
def At (s0 : Bs) (at_ : Nat) (s : Bs) (n : Int) (es : List E) : Prop :=
  (at_ = 1 ∧ s = s0 ∧ n = 0 ∧ es = []) ∨ (2 ≤ at_ ∧ rdT s0 = liftN n (rdE at_ es (splitC 10 s)))
def LinesGot (B : Nat) (w w' : World) (u : Value) (r : Sum Nat (Int × List E)) : Prop := Below B w w' ∧ match r with
  | .inl k => u = .tuple #[gv 0 (.slice none 0 0), .int .i64 (k : Int)] ∧ 1 ≤ k
  | .inr p => ∃ v, u = .tuple #[gv p.1 v, .int .i64 0] ∧ EdgesB B w' v p.2
/-- What is done in a round of a loop behind its test. -/
def loopRest : Code → Option Code
  | .loop (.seq _ c) => some c
  | .block _ c => loopRest c
  | .seq a b => match loopRest a with
    | some c => some c
    | none => loopRest b
  | _ => none
/-- The rest from the piece whose first region is id, which lies behind another. -/
def tailOf2 (id : Nat) : Code → Option Code
  | .seq (.seq (.region i ops d) c) e => if i = id then some (.seq (.seq (.region i ops d) c) e) else match tailOf2 id c with
    | some x => some x
    | none => tailOf2 id e
  | .seq a b => match tailOf2 id a with
    | some c => some c
    | none => tailOf2 id b
  | .block _ c => tailOf2 id c
  | .loop c => tailOf2 id c
  | _ => none
set_option maxHeartbeats 1000000 in
theorem lines_any (s0 : ByteArray) (hs0 : s0.size ≤ 1000000) (w : World) (hk : Kept w) : Ans 34 [.string s0] w (fun u w' => LinesGot w.heap.size w w' u (rdT s0.data.toList)) := by
  refine calls_qx (args := [.string s0]) 38 Tryd.func34 rfl (by kernel_rfl) (by simp) (fun a hS => ?_)
  refine qx_seq (reg_seq ?_)
  refine seq_op hS (by decide) (runs_alloc24) (fun v1 w1 a1 hp1 hS => ?_)
  obtain ⟨rfl, hw1⟩ := hp1
  obtain ⟨hR, hB1⟩ : Has w1 w.heap.size 24 [.int .i64 0, .slice none 0 0] ∧ Below w.heap.size w w1 := by rw [hw1]; exact new_box w 24 _
  clear hw1
  refine seq_is hS (by decide) (runs_assign rfl) (fun a1 hS => ?_)
  refine nil_ok (qx_seq (reg_seq ?_))
  refine seq_op hS (by decide) (runs_alloc24) (fun v2 w2 a2 hp2 hS => ?_)
  obtain ⟨rfl, hw2⟩ := hp2
  obtain ⟨hG, hB2⟩ : Has w2 w1.heap.size 24 [.int .i64 0, .slice none 0 0] ∧ Below w1.heap.size w1 w2 := by rw [hw2]; exact new_box w1 24 _
  clear hw2
  have hne : w.heap.size ≠ w1.heap.size := by have := hR.lt; omega
  have hBg : w.heap.size ≤ w1.heap.size := hB1.size
  have hR := hR.below hB2 hR.lt
  have hB := hB1.trans (hB2.mono hB1.size)
  generalize hgr : w.heap.size = gr at *
  generalize w1.heap.size = g at *
  refine nil_ok (qx_seq (qx_seq (reg_seq ?_)))
  refine seq_is hS (by decide) (runs_assign rfl) (fun a1 hS => ?_)
  refine nil_ok (qx_for (fun m a w' => ∃ (at_ : Nat) (s : ByteArray) (n : Int) (es : List E) (sv : Value), 1 ≤ at_ ∧ m = s.size ∧ at_ + s.size ≤ s0.size + 1 ∧ es.length ≤ at_ ∧ Below gr w w' ∧ Has w' gr 24 [.int .i64 0, .slice none 0 0] ∧ Has w' g 24 [.int .i64 n, sv] ∧ w'.ownsRow gr 45 3 sv es.length (cellsE es) ∧ At s0.data.toList at_ s.data.toList n es ∧ (at_ = 1 → sv = .slice none 0 0) ∧ Sees 38 [(0, .string s), (5, .int .i64 (at_ : Int)), (2, .pointer (some ⟨gr, 0, none⟩)), (4, .pointer (some ⟨g, 0, none⟩)), (3, .int .i64 0)] a) s0.size ⟨1, s0, 0, [], .slice none 0 0, by omega, rfl, by omega, by simp, hB, hR, hG, ⟨rfl, .inl ⟨rfl, rfl⟩⟩, .inl ⟨rfl, rfl, rfl, rfl⟩, fun _ => rfl, hS.only _ ⟨rfl, rfl, rfl, rfl, rfl, trivial⟩⟩ ?_)
  rintro m a w' ⟨at_, s, n, es, sv, hat, rfl, hm, hel, hB, hR, hG, hown, hAt, hsv, hS⟩
  have hsl := size_list s
  have hkw : Kept w' := hk.below hB (by have := hk.pos; omega)
  have hBw : gr ≤ w'.heap.size := by have := hB.size; omega
  refine reg_seq ?_
  have body : (at_ = 1 ∨ s.data.toList ≠ []) → ∀ (L : List (Nat × Value)) (a9 : Act), Sees 38 L a9 → look L 0 = some (.string s) → look L 5 = some (.int .i64 (at_ : Int)) → look L 2 = some (.pointer (some ⟨gr, 0, none⟩)) → look L 4 = some (.pointer (some ⟨g, 0, none⟩)) → look L 3 = some (.int .i64 0) → ∀ NN : Act → World → Prop, ((Tryd.f34.body.bind loopRest).getD .skip).wp Tryd.prog (Qx (fun a2 w2 => ∃ m', m' < s.size ∧ (fun m a w' => ∃ (at_ : Nat) (s : ByteArray) (n : Int) (es : List E) (sv : Value), 1 ≤ at_ ∧ m = s.size ∧ at_ + s.size ≤ s0.size + 1 ∧ es.length ≤ at_ ∧ Below gr w w' ∧ Has w' gr 24 [.int .i64 0, .slice none 0 0] ∧ Has w' g 24 [.int .i64 n, sv] ∧ w'.ownsRow gr 45 3 sv es.length (cellsE es) ∧ At s0.data.toList at_ s.data.toList n es ∧ (at_ = 1 → sv = .slice none 0 0) ∧ Sees 38 [(0, .string s), (5, .int .i64 (at_ : Int)), (2, .pointer (some ⟨gr, 0, none⟩)), (4, .pointer (some ⟨g, 0, none⟩)), (3, .int .i64 0)] a) m' a2 w2) (fun i a2 w2 => (i = 0 ∧ NN a2 w2) ∨ (i ≠ 0 ∧ False)) (Rets Tryd.prog Tryd.f34 (fun e w' => ∃ v, e = .returned v ∧ LinesGot gr w w' v (rdT s0.data.toList)))) a9 w' := fun hgo L a9 hS z0 z5 z2 z4 z3 NN => by
    have hS := hS.only [(0, .string s), (5, .int .i64 (at_ : Int)), (2, .pointer (some ⟨gr, 0, none⟩)), (4, .pointer (some ⟨g, 0, none⟩)), (3, .int .i64 0)] ⟨z0, z5, z2, z4, z3, trivial⟩
    obtain ⟨mx, hmx⟩ := hkw.1
    refine qx_seq (qx_block (qx_seq (reg_seq ?_)))
    have hcut := strings_Cut s ⟨#[10]⟩ mx w' (by omega) hmx
    rw [show (ByteArray.mk #[10]).data.toList = [10] from rfl, cut_one] at hcut
    cases hc : cutAt 10 s.data.toList with
    | none =>
      rw [hc] at hcut
      refine seq_is hS (by decide) (runs_move rfl) (fun a1 hS => ?_)
      refine seq_op hS (by decide) (runs_call (args := [.string s, .string ⟨#[10]⟩]) (Post := fun v w2 => v = .tuple #[.string ⟨s.data.toList.toArray⟩, .string ⟨([] : Bs).toArray⟩, .bool false] ∧ ∃ k, w2 = w'.drewN k) goes47 rfl (hcut.mono (by rintro e w2 ⟨rfl, k, rfl⟩; exact ⟨_, rfl, rfl, k, rfl⟩))) (fun v2 w2 a2 hp2 hS => ?_)
      obtain ⟨rfl, kd, hw2⟩ := hp2
      have hD : Drawn w' w2 := ⟨kd, hw2⟩
      clear hw2
      have hB2 := hB.trans (hD.below gr)
      have hR := hR.below (hD.below w'.heap.size) hR.lt
      have hG := hG.below (hD.below w'.heap.size) hG.lt
      have hown := hD.owns hown
      have hkw := hkw.below (hD.below w'.heap.size) hkw.pos
      have hBw2 : gr ≤ w2.heap.size := by rw [hD.size]; exact hBw
      refine seq_is hS (by decide) (runs_move rfl) (fun a1 hS => ?_)
      refine seq_is hS (by decide) (runs_extract rfl rfl) (fun a1 hS => ?_)
      refine seq_is hS (by decide) (runs_extract rfl rfl) (fun a1 hS => ?_)
      refine seq_is hS (by decide) (runs_extract rfl rfl) (fun a1 hS => ?_)
      refine seq_is hS (by decide) (runs_assign rfl) (fun a1 hS => ?_)
      refine seq_is hS (by decide) (runs_assign rfl) (fun a1 hS => ?_)
      refine seq_is hS (by decide) (runs_assign rfl) (fun a1 hS => ?_)
      have hres : rdT s0.data.toList = .inl at_ := by
        rcases hAt with ⟨rfl, hs, _, _⟩ | ⟨h2, hr⟩
        · rw [← hs]; exact rdT_none hc
        · rw [hr, rdE_no hc (hgo.resolve_left (by omega))]; rfl
      refine nil_ok (qx_seq (reg_seq ?_))
      refine seq_is hS (by decide) (runs_assign rfl) (fun a1 hS => ?_)
      refine nil_ok (qx_seq (qx_seq (reg_seq ?_)))
      refine seq_is hS (by decide) (runs_move rfl) (fun a1 hS => ?_)
      have r9 : ∀ (L : List (Nat × Value)) (a9 : Act), Sees 38 L a9 → look L 8 = some (.bool false) → look L 5 = some (.int .i64 (at_ : Int)) → look L 2 = some (.pointer (some ⟨gr, 0, none⟩)) → ((Tryd.f34.body.bind (tailOf2 9)).getD .skip).wp Tryd.prog (Qx (fun a2 w2 => (((Tryd.f34.body.bind (regionIn 4)).getD .skip)).wp Tryd.prog (Qx (fun a2 w2 => ∃ m', m' < s.size ∧ (fun m a w' => ∃ (at_ : Nat) (s : ByteArray) (n : Int) (es : List E) (sv : Value), 1 ≤ at_ ∧ m = s.size ∧ at_ + s.size ≤ s0.size + 1 ∧ es.length ≤ at_ ∧ Below gr w w' ∧ Has w' gr 24 [.int .i64 0, .slice none 0 0] ∧ Has w' g 24 [.int .i64 n, sv] ∧ w'.ownsRow gr 45 3 sv es.length (cellsE es) ∧ At s0.data.toList at_ s.data.toList n es ∧ (at_ = 1 → sv = .slice none 0 0) ∧ Sees 38 [(0, .string s), (5, .int .i64 (at_ : Int)), (2, .pointer (some ⟨gr, 0, none⟩)), (4, .pointer (some ⟨g, 0, none⟩)), (3, .int .i64 0)] a) m' a2 w2) (fun i a2 w2 => (i = 0 ∧ NN a2 w2) ∨ (i ≠ 0 ∧ False)) (Rets Tryd.prog Tryd.f34 (fun e w' => ∃ v, e = .returned v ∧ LinesGot gr w w' v (rdT s0.data.toList)))) a2 w2) (fun i a' w'_1 => (i = 1 ∧ (((Tryd.f34.body.bind (regionIn 4)).getD .skip)).wp Tryd.prog (Qx (fun a2 w2 => ∃ m', m' < s.size ∧ (fun m a w' => ∃ (at_ : Nat) (s : ByteArray) (n : Int) (es : List E) (sv : Value), 1 ≤ at_ ∧ m = s.size ∧ at_ + s.size ≤ s0.size + 1 ∧ es.length ≤ at_ ∧ Below gr w w' ∧ Has w' gr 24 [.int .i64 0, .slice none 0 0] ∧ Has w' g 24 [.int .i64 n, sv] ∧ w'.ownsRow gr 45 3 sv es.length (cellsE es) ∧ At s0.data.toList at_ s.data.toList n es ∧ (at_ = 1 → sv = .slice none 0 0) ∧ Sees 38 [(0, .string s), (5, .int .i64 (at_ : Int)), (2, .pointer (some ⟨gr, 0, none⟩)), (4, .pointer (some ⟨g, 0, none⟩)), (3, .int .i64 0)] a) m' a2 w2) (fun i a2 w2 => (i = 0 ∧ NN a2 w2) ∨ (i ≠ 0 ∧ False)) (Rets Tryd.prog Tryd.f34 (fun e w' => ∃ v, e = .returned v ∧ LinesGot gr w w' v (rdT s0.data.toList)))) a' w'_1) ∨ (i ≠ 1 ∧ ((i = 0 ∧ NN a' w'_1) ∨ (i ≠ 0 ∧ False)))) (Rets Tryd.prog Tryd.f34 (fun e w' => ∃ v, e = .returned v ∧ LinesGot gr w w' v (rdT s0.data.toList)))) a9 w2 := fun L a9 hS y8 y5 y2 => by
        have hS := hS.only [(8, .bool false), (5, .int .i64 (at_ : Int)), (2, .pointer (some ⟨gr, 0, none⟩))] ⟨y8, y5, y2, trivial⟩
        refine qx_seq (qx_seq (reg_seq ?_))
        refine seq_is hS (by decide) (runs_move rfl) (fun a1 hS => ?_)
        refine seq_is hS (by decide) (runs_not (b := false) rfl) (fun a1 hS => ?_)
        refine seq_is hS (by decide) (runs_move rfl) (fun a1 hS => ?_)
        refine seq_no hS (by decide) rfl (by decide) rfl rfl (fun a1 hS => ?_)
        refine seq_no hS (by decide) rfl (by decide) rfl rfl (fun a1 hS => ?_)
        refine seq_no hS (by decide) rfl (by decide) rfl rfl (fun a1 hS => ?_)
        refine seq_no hS (by decide) rfl (by decide) rfl rfl (fun a1 hS => ?_)
        refine seq_is hS (by decide) (runs_pick rfl rfl) (fun a1 hS => ?_)
        refine nil_ok (wp_cond_true (hS.eval rfl) (qx_seq (reg_seq ?_)))
        refine seq_is hS (by decide) (runs_build24n) (fun a1 hS => ?_)
        refine seq_is hS (by decide) (runs_move rfl) (fun a1 hS => ?_)
        refine seq_none hS (runs_store24 rfl rfl hR rfl) (fun v8 w8 a8 hp8 hS => ?_)
        obtain ⟨rfl, hw8⟩ := hp8
        have hR8 : Has w8 gr 24 [.int .i64 0, .slice none 0 0] := by rw [hw8]; exact has_setRow hR
        have hB8 : Below gr w w8 := by rw [hw8]; exact below_rowB hB2 (Nat.le_refl _) _
        refine seq_is hS (by decide) (runs_assign rfl) (fun a1 hS => ?_)
        exact nil_ok (qx_ret (retG2 (p := 2) (t := 3) (by kernel_rfl) hS rfl rfl hR8 ⟨_, rfl, hB8, by rw [hres]; exact ⟨rfl, by omega⟩⟩))
      by_cases h1 : (at_ : Int) = 1
      · skip
        refine seq_is hS (by decide) (runs_eql (r := true) rfl rfl (by simp [h1])) (fun a1 hS => ?_)
        refine nil_ok (wp_cond_true (hS.eval rfl) (reg_seq ?_))
        refine seq_is hS (by decide) (runs_assign rfl) (fun a1 hS => ?_)
        exact nil_ok (r9 _ _ hS rfl rfl rfl)
      · skip
        refine seq_is hS (by decide) (runs_eql (r := false) rfl rfl (by simp [h1])) (fun a1 hS => ?_)
        refine nil_ok (wp_cond_false (hS.eval rfl) (wp_skip ?_))
        exact r9 _ _ hS rfl rfl rfl
    | some pr =>
      obtain ⟨line, rest⟩ := pr
      rw [hc] at hcut
      have hsz := cut_size hc
      have hne0 : at_ = 1 ∨ 2 ≤ at_ := by omega
      refine seq_is hS (by decide) (runs_move rfl) (fun a1 hS => ?_)
      refine seq_op hS (by decide) (runs_call (args := [.string s, .string ⟨#[10]⟩]) (Post := fun v w2 => v = .tuple #[.string ⟨line.toArray⟩, .string ⟨rest.toArray⟩, .bool true] ∧ ∃ k, w2 = w'.drewN k) goes47 rfl (hcut.mono (by rintro e w2 ⟨rfl, k, rfl⟩; exact ⟨_, rfl, rfl, k, rfl⟩))) (fun v2 w2 a2 hp2 hS => ?_)
      obtain ⟨rfl, kd, hw2⟩ := hp2
      have hD : Drawn w' w2 := ⟨kd, hw2⟩
      clear hw2
      have hB2 := hB.trans (hD.below gr)
      have hR := hR.below (hD.below w'.heap.size) hR.lt
      have hG := hG.below (hD.below w'.heap.size) hG.lt
      have hown := hD.owns hown
      have hkw := hkw.below (hD.below w'.heap.size) hkw.pos
      have hBw2 : gr ≤ w2.heap.size := by rw [hD.size]; exact hBw
      refine seq_is hS (by decide) (runs_move rfl) (fun a1 hS => ?_)
      refine seq_is hS (by decide) (runs_extract rfl rfl) (fun a1 hS => ?_)
      refine seq_is hS (by decide) (runs_extract rfl rfl) (fun a1 hS => ?_)
      refine seq_is hS (by decide) (runs_extract rfl rfl) (fun a1 hS => ?_)
      refine seq_is hS (by decide) (runs_assign rfl) (fun a1 hS => ?_)
      refine seq_is hS (by decide) (runs_assign rfl) (fun a1 hS => ?_)
      refine seq_is hS (by decide) (runs_assign rfl) (fun a1 hS => ?_)
      refine nil_ok (qx_seq (reg_seq ?_))
      refine seq_is hS (by decide) (runs_assign rfl) (fun a1 hS => ?_)
      refine nil_ok (qx_seq (qx_seq (reg_seq ?_)))
      refine seq_is hS (by decide) (runs_move rfl) (fun a1 hS => ?_)
      by_cases h1 : (at_ : Int) = 1
      · skip
        obtain rfl : at_ = 1 := by omega
        obtain ⟨hs0, rfl, rfl⟩ : s.data.toList = s0.data.toList ∧ n = 0 ∧ es = [] := by
          rcases hAt with ⟨_, h2, h3, h4⟩ | ⟨h2, _⟩
          · exact ⟨h2, h3, h4⟩
          · omega
        have hrd := rdT_cut hc
        rw [hs0] at hrd
        refine seq_is hS (by decide) (runs_eql (r := true) rfl rfl rfl) (fun a1 hS => ?_)
        refine nil_ok (wp_cond_true (hS.eval rfl) (reg_seq ?_))
        refine seq_is hS (by decide) (runs_assign rfl) (fun a1 hS => ?_)
        refine nil_ok (qx_seq (qx_seq (reg_seq ?_)))
        refine seq_is hS (by decide) (runs_move rfl) (fun a1 hS => ?_)
        refine seq_is hS (by decide) (runs_not (b := true) rfl) (fun a1 hS => ?_)
        refine seq_is hS (by decide) (runs_move rfl) (fun a1 hS => ?_)
        refine seq_yis hS (by decide) rfl (by decide) rfl (runs_move rfl) (fun a1 hS => ?_)
        refine seq_yis hS (by decide) rfl (by decide) rfl (runs_move rfl) (fun a1 hS => ?_)
        refine seq_yes hS (by decide) rfl (by decide) rfl (runs_callv (args := [.pointer (some ⟨g, 0, none⟩), .string ⟨line.toArray⟩]) (caps := []) goes49 rfl rfl (verts_any g gr 0 sv ⟨line.toArray⟩ w2 hkw (by rw [mk_size]; omega) hG hBg hBw2)) (fun v5 w5 a5 hp5 hS => ?_)
        obtain ⟨rfl, hG5, hF5⟩ := hp5
        have hB5 := hB2.trans hF5.2
        have hR := hF5.1 gr 24 _ hne (by decide) hR
        simp only at hG5 hS
        cases hv : vertsOf line with
        | none =>
          rw [hv] at hS
          rw [hv] at hrd
          refine seq_yis hS (by decide) rfl (by decide) rfl (runs_not (b := false) rfl) (fun a1 hS => ?_)
          refine seq_is hS (by decide) (runs_pick rfl rfl) (fun a1 hS => ?_)
          refine nil_ok (wp_cond_true (hS.eval rfl) (qx_seq (reg_seq ?_)))
          refine seq_is hS (by decide) (runs_build24n) (fun a1 hS => ?_)
          refine seq_is hS (by decide) (runs_move rfl) (fun a1 hS => ?_)
          refine seq_none hS (runs_store24 rfl rfl hR rfl) (fun v8 w8 a8 hp8 hS => ?_)
          obtain ⟨rfl, hw8⟩ := hp8
          have hR8 : Has w8 gr 24 [.int .i64 0, .slice none 0 0] := by rw [hw8]; exact has_setRow hR
          have hB8 : Below gr w w8 := by rw [hw8]; exact below_rowB hB5 (Nat.le_refl _) _
          refine seq_is hS (by decide) (runs_assign rfl) (fun a1 hS => ?_)
          exact nil_ok (qx_ret (retG2 (p := 2) (t := 3) (by kernel_rfl) hS rfl rfl hR8 ⟨_, rfl, hB8, by rw [hrd]; exact ⟨rfl, by omega⟩⟩))
        | some nv =>
          rw [hv] at hS
          rw [hv] at hrd hG5
          have hown5 : w5.ownsRow gr 45 3 sv 0 (cellsE []) := by rw [hsv rfl]; exact ⟨rfl, .inl ⟨rfl, rfl⟩⟩
          refine seq_yis hS (by decide) rfl (by decide) rfl (runs_not (b := true) rfl) (fun a1 hS => ?_)
          refine seq_is hS (by decide) (runs_pick rfl rfl) (fun a1 hS => ?_)
          refine nil_ok (wp_cond_false (hS.eval rfl) (wp_skip (reg_seq ?_)))
          refine seq_is hS (by decide) (runs_move rfl) (fun a1 hS => ?_)
          refine seq_is hS (by decide) (runs_assign rfl) (fun a1 hS => ?_)
          refine nil_ok (reg_seq ?_)
          refine seq_is hS (by decide) (runs_move rfl) (fun a1 hS => ?_)
          refine seq_is hS (by decide) (runs_add (r := ((1 + 1 : Nat) : Int)) rfl rfl (by first | rfl | (simp [IntKind.wrap, IntKind.bits, IntKind.signed]; omega))) (fun a1 hS => ?_)
          refine seq_is hS (by decide) (runs_assign rfl) (fun a1 hS => ?_)
          exact nil_ok ⟨_, by rw [mk_size]; omega, 1 + 1, ⟨rest.toArray⟩, nv, [], sv, by omega, rfl, by rw [mk_size]; omega, by simp, hB5, hR, hG5, hown5, .inr ⟨by omega, hrd⟩, fun h => by omega, hS.only _ ⟨rfl, rfl, rfl, rfl, rfl, trivial⟩⟩
      · skip
        have hrd : rdT s0.data.toList = liftN n (rdE at_ es (splitC 10 s.data.toList)) := by
          rcases hAt with ⟨h2, _⟩ | ⟨_, h2⟩
          · omega
          · exact h2
        rw [rdE_cut hc] at hrd
        refine seq_is hS (by decide) (runs_eql (r := false) rfl rfl (by simp [h1])) (fun a1 hS => ?_)
        refine nil_ok (wp_cond_false (hS.eval rfl) (wp_skip (qx_seq (qx_seq (reg_seq ?_)))))
        refine seq_is hS (by decide) (runs_move rfl) (fun a1 hS => ?_)
        refine seq_is hS (by decide) (runs_not (b := true) rfl) (fun a1 hS => ?_)
        refine seq_is hS (by decide) (runs_move rfl) (fun a1 hS => ?_)
        refine seq_yis hS (by decide) rfl (by decide) rfl (runs_move rfl) (fun a1 hS => ?_)
        refine seq_yis hS (by decide) rfl (by decide) rfl (runs_move rfl) (fun a1 hS => ?_)
        refine seq_yes hS (by decide) rfl (by decide) rfl (runs_callv (args := [.pointer (some ⟨g, 0, none⟩), .string ⟨line.toArray⟩]) (caps := []) goes48 rfl rfl (edge_any g gr n sv es ⟨line.toArray⟩ w2 hkw (by rw [mk_size]; omega) hG hown (by omega) hBg hBw2)) (fun v5 w5 a5 hp5 hS => ?_)
        obtain ⟨rfl, sv', hG5, hown5, hF5⟩ := hp5
        have hB5 := hB2.trans hF5.2
        have hR := hF5.1 gr 24 _ hne (by decide) hR
        simp only at hown5 hS
        cases hv : edgeOf line with
        | none =>
          rw [hv] at hS
          rw [hv] at hrd
          refine seq_yis hS (by decide) rfl (by decide) rfl (runs_not (b := false) rfl) (fun a1 hS => ?_)
          refine seq_is hS (by decide) (runs_pick rfl rfl) (fun a1 hS => ?_)
          refine nil_ok (wp_cond_true (hS.eval rfl) (qx_seq (reg_seq ?_)))
          refine seq_is hS (by decide) (runs_build24n) (fun a1 hS => ?_)
          refine seq_is hS (by decide) (runs_move rfl) (fun a1 hS => ?_)
          refine seq_none hS (runs_store24 rfl rfl hR rfl) (fun v8 w8 a8 hp8 hS => ?_)
          obtain ⟨rfl, hw8⟩ := hp8
          have hR8 : Has w8 gr 24 [.int .i64 0, .slice none 0 0] := by rw [hw8]; exact has_setRow hR
          have hB8 : Below gr w w8 := by rw [hw8]; exact below_rowB hB5 (Nat.le_refl _) _
          refine seq_is hS (by decide) (runs_assign rfl) (fun a1 hS => ?_)
          exact nil_ok (qx_ret (retG2 (p := 2) (t := 3) (by kernel_rfl) hS rfl rfl hR8 ⟨_, rfl, hB8, by rw [hrd]; exact ⟨rfl, by omega⟩⟩))
        | some e =>
          rw [hv] at hS
          rw [hv] at hrd hown5
          simp only [Option.toList_some] at hown5
          refine seq_yis hS (by decide) rfl (by decide) rfl (runs_not (b := true) rfl) (fun a1 hS => ?_)
          refine seq_is hS (by decide) (runs_pick rfl rfl) (fun a1 hS => ?_)
          refine nil_ok (wp_cond_false (hS.eval rfl) (wp_skip (reg_seq ?_)))
          refine seq_is hS (by decide) (runs_move rfl) (fun a1 hS => ?_)
          refine seq_is hS (by decide) (runs_assign rfl) (fun a1 hS => ?_)
          refine nil_ok (reg_seq ?_)
          refine seq_is hS (by decide) (runs_move rfl) (fun a1 hS => ?_)
          refine seq_is hS (by decide) (runs_add (r := ((at_ + 1 : Nat) : Int)) rfl rfl (by first | rfl | (simp [IntKind.wrap, IntKind.bits, IntKind.signed]; omega))) (fun a1 hS => ?_)
          refine seq_is hS (by decide) (runs_assign rfl) (fun a1 hS => ?_)
          exact nil_ok ⟨_, by rw [mk_size]; omega, at_ + 1, ⟨rest.toArray⟩, n, es ++ [e], sv', by omega, rfl, by rw [mk_size]; omega, by simp; omega, hB5, hR, hG5, hown5, .inr ⟨by omega, hrd⟩, fun h => by omega, hS.only _ ⟨rfl, rfl, rfl, rfl, rfl, trivial⟩⟩
  refine seq_is hS (by decide) (runs_move rfl) (fun a1 hS => ?_)
  by_cases h1 : (at_ : Int) = 1
  · skip
    refine seq_is hS (by decide) (runs_eql (r := true) rfl rfl (by simp [h1])) (fun a1 hS => ?_)
    refine seq_is hS (by decide) (runs_move rfl) (fun a1 hS => ?_)
    refine seq_no hS (by decide) rfl (by decide) rfl rfl (fun a1 hS => ?_)
    refine seq_no hS (by decide) rfl (by decide) rfl rfl (fun a1 hS => ?_)
    refine seq_is hS (by decide) (runs_pick rfl rfl) (fun a1 hS => ?_)
    refine nil_ok ⟨_, hS.eval rfl, fun h => by simp at h, fun _ => ?_⟩
    exact body (.inl (by omega)) _ _ hS rfl rfl rfl rfl rfl _
  · skip
    refine seq_is hS (by decide) (runs_eql (r := false) rfl rfl (by simp [h1])) (fun a1 hS => ?_)
    refine seq_is hS (by decide) (runs_move rfl) (fun a1 hS => ?_)
    refine seq_yis hS (by decide) rfl (by decide) rfl (runs_move rfl) (fun a1 hS => ?_)
    by_cases h2 : s.data.toList = []
    · skip
      refine seq_yis hS (by decide) rfl (by decide) rfl (runs_neStr (r := false) rfl rfl (by rw [h2]; rfl)) (fun a1 hS => ?_)
      refine seq_is hS (by decide) (runs_pick rfl rfl) (fun a1 hS => ?_)
      have hres : rdT s0.data.toList = .inr (n, es) := by
        rcases hAt with ⟨h3, _⟩ | ⟨_, h3⟩
        · omega
        · rw [h3, h2, rdE_nil]; rfl
      obtain ⟨A5, c5, rfl⟩ : ∃ A5 c5, sv = .slice A5 es.length c5 := by
        rcases hown.2 with ⟨rfl, h0⟩ | ⟨g4, c4, cur, rfl, _⟩
        · exact ⟨none, 0, by rw [h0]⟩
        · exact ⟨_, _, rfl⟩
      refine nil_ok ⟨_, hS.eval rfl, fun _ => ?_, fun h => by simp at h⟩
      refine qx_seq (reg_seq ?_)
      refine seq_is hS (by decide) (runs_loadG rfl hG) (fun a1 hS => ?_)
      refine seq_none hS (runs_store24 rfl rfl hR rfl) (fun v8 w8 a8 hp8 hS => ?_)
      obtain ⟨rfl, hw8⟩ := hp8
      have hR8 : Has w8 gr 24 [.int .i64 n, .slice A5 es.length c5] := by rw [hw8]; exact has_setRow hR
      have hB8 : Below gr w w8 := by rw [hw8]; exact below_rowB hB (Nat.le_refl _) _
      have hown8 : w8.ownsRow gr 45 3 (.slice A5 es.length c5) es.length (cellsE es) := by rw [hw8]; exact owns_setRow hown hR (by decide) _
      refine seq_is hS (by decide) (runs_assign rfl) (fun a1 hS => ?_)
      exact nil_ok (qx_ret (retG2 (p := 2) (t := 3) (by kernel_rfl) hS rfl rfl hR8 ⟨_, rfl, hB8, by rw [hres]; exact ⟨_, rfl, edgesB_own hown8 rfl⟩⟩))
    · skip
      refine seq_yis hS (by decide) rfl (by decide) rfl (runs_neStr (r := true) rfl rfl (by simpa using h2)) (fun a1 hS => ?_)
      refine seq_is hS (by decide) (runs_pick rfl rfl) (fun a1 hS => ?_)
      refine nil_ok ⟨_, hS.eval rfl, fun h => by simp at h, fun _ => ?_⟩
      exact body (.inr h2) _ _ hS rfl rfl rfl rfl rfl _
end Go.Proofs.YtdbibjcplakelaaDoor
