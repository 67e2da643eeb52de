/- Layer 5: lines of a text read into a graph. Conditions: none of our own. -/
import Derived.Test.YtdbibjcplakelaaDoorGShow
namespace Go.Proofs.YtdbibjcplakelaaDoor
open Go.RowKit
set_option maxRecDepth 100000

theorem goes47 : Goes Tryd.prog 47 := goes_of Tryd.func47 (by kernel_rfl) rfl
theorem goes48 : Goes Tryd.prog 48 := goes_of Tryd.func48 (by kernel_rfl) rfl
theorem goes49 : Goes Tryd.prog 49 := goes_of Tryd.func49 (by kernel_rfl) rfl
theorem goes34 : Goes Tryd.prog 34 := goes_of Tryd.func34 (by kernel_rfl) rfl
theorem goes23 : Goes Tryd.prog 23 := goes_of Tryd.func23 (by kernel_rfl) rfl
section
variable {P : Program} {ops : Array Oper} {L : List (Nat × Value)} {n : Nat}
/-- A region that draws whose first operation is a mere copy. -/
theorem reg_guard1 {N R : Act → World → Prop} {X : Nat → Act → World → Prop} {a : Act} {w : World} {id : Nat} {d : Nat} {x : Operand} {ty : TypeId} {pos : String} {aft : Array Edge} {v : Value} (C : World → Prop) (prs : List Say) (m F : Nat) (hm : P.follows .mixedOrders = true) (ho : ops[0]? = some ⟨some d, .move x, ty, pos, aft, none⟩) (hx : vals L x = some v) (hd : d < n)
    (hmF : m + F = ops.size) (h1m : 1 ≤ m) (hs : Region.noSelect ops = true) (hf : Region.free .any ops (Array.replicate ops.size false) 0 = true) (hr : (Region.ready .any ops (Array.replicate ops.size false)).contains 0 = true)
    (hchk : chkGuard ops n m ((Array.replicate ops.size false).setIfInBounds 0 true) = true) (hL : Sees n L a) (hC : C w) (hCd : ∀ w, C w → C w.drew)
    (h : HSeq P C (dstOf ops) ((Array.replicate ops.size false).setIfInBounds 0 true) (fun L' ps => ∀ a' w', Sees n L' a' → C w' → (∀ q ∈ ps, q.2 w') → wpAnyH P .any ops (Qx N X R) (fun _ => True) F (lastOf ops m) a' w') (ops.toList.take m) prs 0 ((d, v) :: L) []) : (Code.region id ops true).wp P (Qx N X R) a w := by
  refine wp_region_held (S := fun _ => True) hm ?_
  have hcount : (List.range m).countP (fun i => !((Array.replicate ops.size false).setIfInBounds 0 true).getD i true) = m - 1 := by
    have hget : ∀ (j : Nat) (b : Bool), ((Array.replicate ops.size false).setIfInBounds 0 true).getD j b = if 0 = j then true else (Array.replicate ops.size false).getD j b := fun j b => by
      by_cases hij : 0 = j
      · subst hij; simp [show 0 < ops.size by omega]
      · rw [if_neg hij, getD_set_ne b hij]
    have := countP_set m (Array.replicate ops.size false) 0 (by omega) (by simp [show 0 < ops.size by omega]) hget
    have h2 : (List.range m).countP (fun i => !(Array.replicate ops.size false).getD i true) = m := by
      rw [List.countP_eq_length.2 (fun i hi => by have := List.mem_range.1 hi; simp [show i < ops.size by omega]), List.length_range]
    omega
  have hfuel : ops.size = (m - 1 + F) + 1 := by omega
  suffices H : wpAnyH P .any ops (Qx N X R) (fun _ => True) ((m - 1 + F) + 1) (Array.replicate ops.size false) a w.drew by
    rw [← hfuel] at H; exact H
  exact pre_move 0 ho hs hf hr (fun _ _ _ h => h) hL hd hx trivial fun a' hL' => draw_guard (Q := Qx N X R) (S := fun _ => True) prs m C _ (m - 1) F (w := w.drew) hchk hcount (fun _ _ => trivial) (hCd w hC) hL' (P := P) h
end
/-- All but block g, and rows of edges, is as it was. -/
def Fr (g B : Nat) (w w' : World) : Prop := (∀ i t cs, i ≠ g → t ≠ 45 → Has w i t cs → Has w' i t cs) ∧ Below B w w'
theorem Fr.of_below {g B : Nat} {w w' : World} (h : Below w.heap.size w w') (hB : B ≤ w.heap.size) : Fr g B w w' := ⟨fun _ _ _ _ _ hg => hg.below h hg.lt, h.mono hB⟩
theorem Fr.trans {g B : Nat} {a b c : World} (h : Fr g B a b) (k : Fr g B b c) : Fr g B a c := ⟨fun i t cs hi ht hg => k.1 i t cs hi ht (h.1 i t cs hi ht hg), h.2.trans k.2⟩
theorem Fr.set_ {g B : Nat} {a w : World} (h : Fr g B a w) (hB : B ≤ g) (i : Nat) (u : Value) : Fr g B a (w.setCell ⟨g, i, none⟩ u) :=
  ⟨fun j t cs hj ht hg => (h.1 j t cs hj ht hg).far (p := ⟨g, i, none⟩) hj u, h.2.setCell (p := ⟨g, i, none⟩) hB u⟩
theorem ints_get {w : World} {g : Nat} {ls : List Nat} (h : w.rangeAt g 0 (ints ls)) {i x : Nat} (hx : ls[i]? = some x) : w.cell? ⟨g, 0 + i, none⟩ = some (.int .i64 (x : Int)) :=
  h i _ (by rw [ints, List.getElem?_map, hx]; rfl)
set_option maxHeartbeats 1000000 in
theorem verts_any (g B : Nat) (n0 : Int) (v0 : Value) (line : ByteArray) (w : World) (hk : Kept w) (hsz : line.size < 4294967281) (hG : Has w g 24 [.int .i64 n0, v0]) (hBg : B ≤ g) (hBw : B ≤ w.heap.size) : Ans 49 [.pointer (some ⟨g, 0, none⟩), .string line] w (fun u w' => u = .bool (vertsOf line.data.toList).isSome ∧ Has w' g 24 [.int .i64 ((vertsOf line.data.toList).getD n0), v0] ∧ Fr g B w w') := by
  refine calls_qx (args := [.pointer (some ⟨g, 0, none⟩), .string line]) 20 Tryd.func49 rfl (by kernel_rfl) (by simp) (fun a hS => ?_)
  refine qx_seq (reg_seq ?_)
  refine seq_is hS (by decide) (runs_assign rfl) (fun a1 hS => ?_)
  refine nil_ok (qx_seq (reg_seq ?_))
  refine seq_is hS (by decide) (runs_move rfl) (fun a1 hS => ?_)
  refine seq_op hS (by decide) (runs_call (args := [.string line, .string ⟨#[103, 114, 97, 112, 104]⟩, .int .i64 1]) goes57 rfl (line_any line ⟨#[103, 114, 97, 112, 104]⟩ 1 (by omega) (by omega) hsz w hk)) (fun v1 w1 a1 hp1 hS => ?_)
  obtain ⟨hB1, u, ok, rfl, hgot⟩ := hp1
  change LineGot _ w1 u ok (lineOf graphW 1 line.data.toList) at hgot
  have hG1 := hG.below hB1 hG.lt
  have hF1 : Fr g B w w1 := Fr.of_below hB1 hBw
  refine seq_is hS (by decide) (runs_move rfl) (fun a1 hS => ?_)
  refine seq_is hS (by decide) (runs_extract rfl rfl) (fun a1 hS => ?_)
  refine seq_is hS (by decide) (runs_extract rfl rfl) (fun a1 hS => ?_)
  refine seq_is hS (by decide) (runs_assign rfl) (fun a1 hS => ?_)
  refine seq_is hS (by decide) (runs_assign rfl) (fun a1 hS => ?_)
  refine nil_ok (qx_seq (qx_seq (reg_seq ?_)))
  cases hlo : lineOf graphW 1 line.data.toList with
  | none =>
    rw [hlo] at hgot
    obtain rfl : ok = false := hgot
    have hv : vertsOf line.data.toList = none := by unfold vertsOf; rw [hlo]
    refine seq_is hS (by decide) (runs_move rfl) (fun a1 hS => ?_)
    refine nil_ok (wp_cond_false (hS.eval rfl) (wp_skip (qx_seq (reg_seq ?_))))
    refine seq_is hS (by decide) (runs_move rfl) (fun a1 hS => ?_)
    refine seq_is hS (by decide) (runs_assign rfl) (fun a1 hS => ?_)
    exact nil_ok (qx_ret (ret1 (t := 4) (by kernel_rfl) hS rfl ⟨_, rfl, by rw [hv]; exact ⟨rfl, hG1, hF1⟩⟩))
  | some ls =>
    rw [hlo] at hgot
    obtain ⟨rfl, gl, cl, rfl, hgl1, hgl2, hr⟩ := hgot
    have hls := (line_some hlo).2.1
    obtain ⟨x, rfl⟩ : ∃ x, ls = [x] := by
      match ls, hls with
      | [x], _ => exact ⟨x, rfl⟩
    have hv : vertsOf line.data.toList = some (x : Int) := by unfold vertsOf; rw [hlo]
    refine seq_is hS (by decide) (runs_move rfl) (fun a1 hS => ?_)
    refine nil_ok (wp_cond_true (hS.eval rfl) (reg_seq ?_))
    refine seq_is hS (by decide) (runs_move rfl) (fun a1 hS => ?_)
    refine seq_is hS (by decide) (runs_move rfl) (fun a1 hS => ?_)
    refine seq_is hS (by decide) (runs_indexAddr (j := 0) rfl rfl und60 siz3 rfl (by simp)) (fun a1 hS => ?_)
    refine seq_is hS (by decide) (runs_load rfl und_plain3 (ints_get hr rfl)) (fun a1 hS => ?_)
    refine seq_is hS (by decide) (runs_nilCheck rfl) (fun a1 hS => ?_)
    refine seq_is hS (by decide) (runs_f24 (by decide) rfl) (fun a1 hS => ?_)
    refine seq_none hS (runs_store rfl rfl rfl siz3 (by rw [hG1.cell]; rfl) (hG1.open_ _)) (fun v2 w2 a2 hp2 hS => ?_)
    obtain ⟨rfl, hw2⟩ := hp2
    have hG2 : Has w2 g 24 [.int .i64 (x : Int), v0] := by rw [hw2]; exact hG1.set_ 0 _
    have hF2 : Fr g B w w2 := by rw [hw2]; exact hF1.set_ hBg _ _
    refine nil_ok (qx_seq (reg_seq ?_))
    refine seq_is hS (by decide) (runs_move rfl) (fun a1 hS => ?_)
    refine seq_is hS (by decide) (runs_assign rfl) (fun a1 hS => ?_)
    exact nil_ok (qx_ret (ret1 (t := 4) (by kernel_rfl) hS rfl ⟨_, rfl, by rw [hv]; exact ⟨rfl, hG2, hF2⟩⟩))
set_option maxHeartbeats 1000000 in
theorem edge_any (g B : Nat) (n0 : Int) (sv : Value) (es : List E) (line : ByteArray) (w : World) (hk : Kept w) (hsz : line.size < 4294967281) (hG : Has w g 24 [.int .i64 n0, sv]) (hown : w.ownsRow B 45 3 sv es.length (cellsE es)) (hes : es.length ≤ 1000000) (hBg : B ≤ g) (hBw : B ≤ w.heap.size) : Ans 48 [.pointer (some ⟨g, 0, none⟩), .string line] w (fun u w' => u = .bool (edgeOf line.data.toList).isSome ∧ ∃ sv', Has w' g 24 [.int .i64 n0, sv'] ∧ w'.ownsRow B 45 3 sv' (es ++ (edgeOf line.data.toList).toList).length (cellsE (es ++ (edgeOf line.data.toList).toList)) ∧ Fr g B w w') := by
  obtain ⟨i45, hi45, hz45, hs45, hb45⟩ := info_parts inf45
  refine calls_qx (args := [.pointer (some ⟨g, 0, none⟩), .string line]) 33 Tryd.func48 rfl (by kernel_rfl) (by simp) (fun a hS => ?_)
  refine qx_seq (reg_seq ?_)
  refine seq_is hS (by decide) (runs_assign rfl) (fun a1 hS => ?_)
  refine nil_ok (qx_seq (reg_seq ?_))
  refine seq_is hS (by decide) (runs_move rfl) (fun a1 hS => ?_)
  refine seq_op hS (by decide) (runs_call (args := [.string line, .string ⟨#[101, 100, 103, 101]⟩, .int .i64 3]) goes57 rfl (line_any line ⟨#[101, 100, 103, 101]⟩ 3 (by omega) (by omega) hsz w hk)) (fun v1 w1 a1 hp1 hS => ?_)
  obtain ⟨hB1, u, ok, rfl, hgot⟩ := hp1
  change LineGot _ w1 u ok (lineOf edgeW 3 line.data.toList) at hgot
  have hG1 := hG.below hB1 hG.lt
  have hown1 := owns_kept hown hB1
  have hF1 : Fr g B w w1 := Fr.of_below hB1 hBw
  refine seq_is hS (by decide) (runs_move rfl) (fun a1 hS => ?_)
  refine seq_is hS (by decide) (runs_extract rfl rfl) (fun a1 hS => ?_)
  refine seq_is hS (by decide) (runs_extract rfl rfl) (fun a1 hS => ?_)
  refine seq_is hS (by decide) (runs_assign rfl) (fun a1 hS => ?_)
  refine seq_is hS (by decide) (runs_assign rfl) (fun a1 hS => ?_)
  refine nil_ok (qx_seq (qx_seq (reg_seq ?_)))
  cases hlo : lineOf edgeW 3 line.data.toList with
  | none =>
    rw [hlo] at hgot
    obtain rfl : ok = false := hgot
    have hv : edgeOf line.data.toList = none := by unfold edgeOf; rw [hlo]
    refine seq_is hS (by decide) (runs_move rfl) (fun a1 hS => ?_)
    refine nil_ok (wp_cond_false (hS.eval rfl) (wp_skip (qx_seq (reg_seq ?_))))
    refine seq_is hS (by decide) (runs_move rfl) (fun a1 hS => ?_)
    refine seq_is hS (by decide) (runs_assign rfl) (fun a1 hS => ?_)
    exact nil_ok (qx_ret (ret1 (t := 4) (by kernel_rfl) hS rfl ⟨_, rfl, by rw [hv]; exact ⟨rfl, sv, hG1, by simpa using hown1, hF1⟩⟩))
  | some ls =>
    rw [hlo] at hgot
    obtain ⟨rfl, gl, cl, rfl, hgl1, hgl2, hr⟩ := hgot
    have hls := (line_some hlo).2.1
    obtain ⟨x, y, z, rfl⟩ : ∃ x y z, ls = [x, y, z] := by
      match ls, hls with
      | [x, y, z], _ => exact ⟨x, y, z, rfl⟩
    have hv : edgeOf line.data.toList = some ((x : Int), (y : Int), (z : Int)) := by unfold edgeOf; rw [hlo]
    obtain ⟨e, hee⟩ : ∃ e : E, e = ((x : Int), (y : Int), (z : Int)) := ⟨_, rfl⟩
    refine seq_is hS (by decide) (runs_move rfl) (fun a1 hS => ?_)
    refine nil_ok (wp_cond_true (hS.eval rfl) ?_)
    refine reg_guard1 (fun w2 => Below w1.heap.size w1 w2) [.inl undef, .inl (.pointer (some ⟨g, 0, none⟩)), .inl (.pointer (some ⟨g, 0, none⟩)), .inl (.pointer (some ⟨g, 0 + 1, none⟩)), .inl (sv), .inl (.slice (some ⟨gl, 0, none⟩) [x, y, z].length cl), .inl (.pointer (some ⟨gl, 0 + 0, none⟩)), .inl (.int .i64 (x : Int)), .inl (.slice (some ⟨gl, 0, none⟩) [x, y, z].length cl), .inl (.pointer (some ⟨gl, 0 + 1, none⟩)), .inl (.int .i64 (y : Int)), .inl (.slice (some ⟨gl, 0, none⟩) [x, y, z].length cl), .inl (.pointer (some ⟨gl, 0 + 2, none⟩)), .inl (.int .i64 (z : Int)), .inl (.agg #[.int .i64 (x : Int), .int .i64 (y : Int), .int .i64 (z : Int)]), .inr (fun v w' => ∃ g2, v = .slice (some ⟨g2, 0, none⟩) 1 1 ∧ Has w' g2 45 [.int .i64 (x : Int), .int .i64 (y : Int), .int .i64 (z : Int)])] 16 4 mixed rfl rfl (by decide) rfl (by decide) (by kernel_rfl) (by kernel_rfl) (by kernel_rfl) (by kernel_rfl) hS (Below.refl _ _) (fun _ h => h.drew) ?_
    refine hs_skip rfl ?_
    refine hs_is rfl (fun w' hw => runs_move rfl) ?_
    refine hs_is rfl (fun w' hw => runs_nilCheck rfl) ?_
    refine hs_is rfl (fun w' hw => runs_f24 (by decide) rfl) ?_
    refine hs_is rfl (fun w' hw => runs_loadV rfl (hG1.below hw hG1.lt)) ?_
    refine hs_is rfl (fun w' hw => runs_move rfl) ?_
    refine hs_is rfl (fun w' hw => runs_indexAddr (j := 0) rfl rfl und60 siz3 rfl (by simp)) ?_
    refine hs_is rfl (fun w' hw => runs_load rfl und_plain3 (ints_get (range_below hr hw hgl2) rfl)) ?_
    refine hs_is rfl (fun w' hw => runs_move rfl) ?_
    refine hs_is rfl (fun w' hw => runs_indexAddr (j := 1) rfl rfl und60 siz3 rfl (by simp)) ?_
    refine hs_is rfl (fun w' hw => runs_load rfl und_plain3 (ints_get (range_below hr hw hgl2) rfl)) ?_
    refine hs_is rfl (fun w' hw => runs_move rfl) ?_
    refine hs_is rfl (fun w' hw => runs_indexAddr (j := 2) rfl rfl und60 siz3 rfl (by simp)) ?_
    refine hs_is rfl (fun w' hw => runs_load rfl und_plain3 (ints_get (range_below hr hw hgl2) rfl)) ?_
    refine hs_is rfl (fun w' hw => runs_build45 rfl rfl rfl) ?_
    refine hs_pr rfl (fun _ _ _ h hb => by obtain ⟨g2, h1, h2⟩ := h; exact ⟨g2, h1, h2.below hb h2.lt⟩) (fun w' hw hq => (runs_buildSliceG (sz := 3) (pv := [(0, .agg #[.int .i64 (x : Int), .int .i64 (y : Int), .int .i64 (z : Int)])]) rfl und22 hi45 hz45 hs45 (by omega) (by omega) (cells := #[.int .i64 (x : Int), .int .i64 (y : Int), .int .i64 (z : Int)]) (by kernel_rfl)).mono (by rintro v w3 ⟨rfl, rfl⟩; exact ⟨⟨_, rfl, Has.new w' 45 [.int .i64 (x : Int), .int .i64 (y : Int), .int .i64 (z : Int)]⟩, hw.alloc hw.size _, (Below.refl _ _).alloc (Nat.le_refl _) _⟩)) (fun v15 => ?_)
    refine (fun a2 w2 hS2 hB2 hq => ?_)
    obtain ⟨g2, rfl, hX⟩ := hq (15, _) List.mem_cons_self
    have hG2 := hG1.below hB2 hG1.lt
    have hown2 := owns_kept hown1 hB2
    have hF2 : Fr g B w w2 := hF1.trans (Fr.of_below hB2 (Nat.le_trans hBw hB1.size))
    have hBw2 : B ≤ w2.heap.size := Nat.le_trans hBw (Nat.le_trans hB1.size hB2.size)
    refine tail_op 16 (by kernel_rfl) rfl hS2 (by decide) (runs_appendN (news := [.int .i64 (x : Int), .int .i64 (y : Int), .int .i64 (z : Int)]) und22 hi45 hz45 hs45 hb45 rfl (by omega) rfl hown2 rfl rfl (fun j u hj => by rw [add_zero_addr, Nat.zero_add, hX.cell]; exact hj) (by simp [Value.oneCell']) (by unfold maxLen; omega) (by omega) hBw2 (by omega)) (fun v3 w3 a3 hp3 hS3 => ⟨trivial, ?_⟩)
    obtain ⟨hown3, hgr3, hne3⟩ := hp3
    have hrow : ∀ i t cs, t ≠ 45 → Has w2 i t cs → Has w3 i t cs := fun i t cs ht hi => by
      have hne : some i ≠ sv.ownBlock := fun hsv => by
        rcases hown2.2 with ⟨rfl, _⟩ | ⟨g0, cap, cur, rfl, _, hh, _⟩
        · simp [Value.ownBlock] at hsv
        · simp only [Value.ownBlock, Option.some.injEq] at hsv
          subst hsv
          unfold Has at hi
          rw [hi] at hh
          simp only [Option.some.injEq, Obj.cells.injEq] at hh
          exact ht hh.2.1
      unfold Has
      rw [hgr3.block i hi.lt hne]
      exact hi
    have hB3 : Below B w2 w3 := below_grown (Below.refl _ _) hgr3 (fun g hg => by rcases hown2.2 with ⟨rfl, _⟩ | ⟨g0, cap, _, rfl, hg0, _⟩ <;> simp [Value.ownBlock] at hg; omega) hBw2
    have hG3 := hrow g 24 _ (by decide) hG2
    have hF3 : Fr g B w w3 := hF2.trans ⟨fun i t cs _ ht hi => hrow i t cs ht hi, hB3⟩
    obtain ⟨g3, c3, rfl⟩ : ∃ g3 c3, v3 = .slice (some ⟨g3, 0, none⟩) (es.length + 1) c3 := by
      rcases hown3.2 with ⟨rfl, h0⟩ | ⟨g3, c3, _, rfl, _⟩
      · omega
      · exact ⟨g3, c3, rfl⟩
    have hg3 : g3 ≠ g := fun h => by
      subst h
      rcases hown3.2 with ⟨h0, _⟩ | ⟨g4, c4, cur, h0, _, hh, _⟩
      · cases h0
      · simp only [Value.slice.injEq, Option.some.injEq, Addr.mk.injEq] at h0
        rw [← h0.1.1] at hh
        unfold Has at hG3
        rw [hG3] at hh
        simp only [Option.some.injEq, Obj.cells.injEq] at hh
        exact absurd hh.2.1 (by decide)
    refine tail_op 17 (by kernel_rfl) rfl hS3 (by decide) (runs_nilCheck rfl) (fun v4 w4 a4 hp4 hS4 => ⟨trivial, ?_⟩)
    obtain ⟨rfl, rfl⟩ := hp4
    refine tail_op 18 (by kernel_rfl) rfl hS4 (by decide) (runs_f24 (by decide) rfl) (fun v5 w5 a5 hp5 hS5 => ⟨trivial, ?_⟩)
    obtain ⟨rfl, rfl⟩ := hp5
    refine tail_none 19 (by kernel_rfl) rfl hS5 (runs_store rfl rfl rfl siz22 (by rw [hG3.cell]; rfl) (hG3.open_ _)) (fun v6 w6 a6 hp6 hS6 => ⟨trivial, ?_⟩)
    obtain ⟨rfl, hw6⟩ := hp6
    refine wpAnyH_done (by kernel_rfl) ?_ _
    have hG6 : Has w6 g 24 [.int .i64 n0, .slice (some ⟨g3, 0, none⟩) (es.length + 1) c3] := by rw [hw6]; exact hG3.set_ 1 _
    have hF6 : Fr g B w w6 := by rw [hw6]; exact hF3.set_ hBg _ _
    have hown6 : w6.ownsRow B 45 3 (.slice (some ⟨g3, 0, none⟩) (es.length + 1) c3) (es.length + 1) (cellsE es ++ [.int .i64 (x : Int), .int .i64 (y : Int), .int .i64 (z : Int)]) := by
      refine ⟨hown3.1, ?_⟩
      rcases hown3.2 with ⟨h0, _⟩ | ⟨g4, c4, cur, h0, h4, hh, hrest⟩
      · cases h0
      · refine .inr ⟨g4, c4, cur, h0, h4, ?_, hrest⟩
        simp only [Value.slice.injEq, Option.some.injEq, Addr.mk.injEq] at h0
        rw [hw6, Below.heap_setCell _ _ _ _ (by show g4 ≠ g; rw [← h0.1.1]; exact hg3)]
        exact hh
    have hS := hS6
    refine qx_seq (reg_seq ?_)
    refine seq_is hS (by decide) (runs_move rfl) (fun a1 hS => ?_)
    refine seq_is hS (by decide) (runs_assign rfl) (fun a1 hS => ?_)
    exact nil_ok (qx_ret (ret1 (t := 4) (by kernel_rfl) hS rfl ⟨_, rfl, by rw [hv]; exact ⟨rfl, _, hG6, by rw [Option.toList_some, List.length_append, cellsE_append, cellsE_one]; exact hown6, hF6⟩⟩))
end Go.Proofs.YtdbibjcplakelaaDoor
