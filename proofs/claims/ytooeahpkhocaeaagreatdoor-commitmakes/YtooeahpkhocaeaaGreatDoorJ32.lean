/- How commitments and rows of rows of messages come in. No condition. -/
import Derived.Test.YtooeahpkhocaeaaGreatDoorCOwn
import Derived.Test.YtooeahpkhocaeaaGreatDoorJ30
import Derived.Test.YtooeahpkhocaeaaGreatDoorJ05
import Derived.Test.YtooeahpkhocaeaaGreatDoorJ12
namespace Go.Proofs.YtooeahpkhocaeaaGreatDoor
open Go.ChangeShapes Go.WideShapes Go.ChangeAt Go.RowKit
set_option maxRecDepth 100000

theorem undHc2 : Tryz.prog.underlying 25 = some (.array 32 5) := by kernel_rfl
theorem ceH : Tryz.prog.cellsOf 25 = 32 := by kernel_rfl
theorem ce5b : Tryz.prog.cellsOf 5 = 1 := by kernel_rfl
theorem ceLH : Tryz.prog.cellsOf 26 = 1 := by kernel_rfl
theorem ceLM : Tryz.prog.cellsOf 30 = 1 := by kernel_rfl
theorem ceC : Tryz.prog.cellsOf 28 = 35 := by kernel_rfl
theorem ce3c : Tryz.prog.cellsOf 3 = 1 := by kernel_rfl
theorem flat_at {α : Type} : ∀ (l : List (List α)) (sz : Nat), (∀ x ∈ l, x.length = sz) → ∀ (q : Nat) (x : List α), l[q]? = some x → (l.flatten.drop (q * sz)).take sz = x
  | [], _, _, q, x, h => by simp at h
  | y :: l, sz, hl, 0, x, h => by
    simp only [List.getElem?_cons_zero, Option.some.injEq] at h
    subst h
    have h1 := hl y (by simp)
    rw [Nat.zero_mul, List.drop_zero, List.flatten_cons, List.take_left' h1]
  | y :: l, sz, hl, q + 1, x, h => by
    have h1 := hl y (by simp)
    rw [List.flatten_cons, show (q + 1) * sz = sz + q * sz by rw [Nat.add_mul, Nat.one_mul, Nat.add_comm], ← List.drop_drop, List.drop_left' h1]
    exact flat_at l sz (fun z hz => hl z (by simp [hz])) q x (by simpa using h)
theorem flat_len {α : Type} : ∀ (l : List (List α)) (sz : Nat), (∀ x ∈ l, x.length = sz) → l.flatten.length = l.length * sz
  | [], _, _ => by simp
  | y :: l, sz, hl => by
    rw [List.flatten_cons, List.length_append, hl y (by simp), flat_len l sz (fun z hz => hl z (by simp [hz])), List.length_cons, Nat.add_mul, Nat.one_mul, Nat.add_comm]
section
variable {H : Type} {enc : TypeId × Value → H} {W : World} {base b0 : Nat} {r : Reach} {sp : Nat → Bool} {held : Bool} {v : Value} {d : DataW H} {p : List MemPlace}
theorem cellsN {n : Nat} {a : Addr} {cs : List Value} (h : W.cells? base a n = some cs) : cs.length = n ∧ ∀ j u, cs[j]? = some u → W.cell? (a.add j) = some u := by
  unfold World.cells? at h
  split at h
  · have hlen : cs.length = n := by simpa using Lib.mapM_length h
    refine ⟨hlen, fun j u hj => ?_⟩
    have hj3 : j < n := by have := (List.getElem?_eq_some_iff.1 hj).1; omega
    obtain ⟨b, hb, hf⟩ := Lib.mapM_at h j j (by simp [hj3])
    rw [hb] at hj
    rw [hf, ← hj]
  · cases h
/-- A slice of things of one size, each opened by a law of its own. -/
theorem open_sl {T SL : TypeId} {sz : Nat} (hu : Tryz.prog.underlying SL = some (.slice T)) (hc : Tryz.prog.cellsOf T = sz) (hsz : 0 < sz) {Pr : List Value → Prop} (hopen : ∀ (n : Nat) (cs : List Value) (x' : DataW H × List MemPlace), DataW.trod enc Tryz.prog W base sp held n T cs = some x' → (∀ q ∈ x'.2, q.block < W.heap.size) → Pr cs)
    {fuel : Nat} {c1 : Value} {x : DataW H × List MemPlace} (h : DataW.trod enc Tryz.prog W base sp held fuel SL [c1] = some x) (hlt : ∀ q ∈ x.2, q.block < W.heap.size) :
    ∃ (A : Option Addr) (c : Nat) (rows : List (List Value)), c1 = .slice A rows.length c ∧ rows.length ≤ c ∧ c ≤ maxLen ∧ (∀ cs ∈ rows, cs.length = sz ∧ Pr cs) ∧ (0 < rows.length → ∃ b o, A = some ⟨b, o, none⟩ ∧ b < W.heap.size ∧ W.rangeAt b o rows.flatten) := by
  rcases DataW.trod_slice hu h with ⟨hc1, _⟩ | ⟨a, len, cap, elems, rest, n, _, hc1, hx, _, hl, hm, hel, hcell, _⟩
  · simp only [List.cons.injEq, and_true] at hc1
    subst hc1
    exact ⟨none, 0, [], rfl, Nat.le_refl _, by unfold maxLen; omega, by simp, fun h0 => absurd h0 (by simp)⟩
  · simp only [List.cons.injEq, and_true] at hc1
    subst hc1
    rw [hc] at hcell hx
    have hget : ∀ i, i < len → ∃ cs : List Value, cs.length = sz ∧ (∀ j u, cs[j]? = some u → W.cell? ((a.add (i * sz)).add j) = some u) ∧ Pr cs := fun i hi => by
      have h1 := hcell i hi
      rw [List.getElem?_eq_getElem (by omega)] at h1
      rw [Option.bind_eq_some_iff] at h1
      obtain ⟨cs, hcs, ht⟩ := h1
      obtain ⟨h2, h3⟩ := cellsN hcs
      exact ⟨cs, h2, h3, hopen n cs _ ht (fun q hq => hlt q (by rw [hx]; exact List.mem_append_right _ (List.mem_flatMap.2 ⟨_, List.mem_append_left _ (List.getElem_mem _), hq⟩)))⟩
    obtain ⟨f, hf⟩ : ∃ f : Nat → List Value, ∀ i, i < len → (f i).length = sz ∧ (∀ j u, (f i)[j]? = some u → W.cell? ((a.add (i * sz)).add j) = some u) ∧ Pr (f i) :=
      ⟨fun i => if h : i < len then (hget i h).choose else [], fun i hi => by simp only [hi, dif_pos]; exact (hget i hi).choose_spec⟩
    have hrl : ∀ cs ∈ (List.range len).map f, cs.length = sz := fun cs hcs => by obtain ⟨i, hi, rfl⟩ := List.mem_map.1 hcs; exact (hf i (List.mem_range.1 hi)).1
    refine ⟨some a, cap, (List.range len).map f, by simp, by simpa using hl, hm, fun cs hcs => ⟨hrl cs hcs, by obtain ⟨i, hi, rfl⟩ := List.mem_map.1 hcs; exact (hf i (List.mem_range.1 hi)).2.2⟩, fun h0 => ?_⟩
    simp only [List.length_map, List.length_range] at h0
    obtain ⟨b, off, spot⟩ := a
    obtain ⟨f1, f2, _⟩ := hf 0 h0
    have hspot : spot = none := by
      have := f2 0 _ (List.getElem?_eq_getElem (by omega))
      simpa [Addr.add] using World.cell?_spot this
    subst hspot
    refine ⟨b, off, rfl, ?_, fun j u hj => ?_⟩
    · refine hlt (.cell b off) ?_
      rw [hx]
      exact List.mem_append_left _ (MemPlace.mem_row.2 ⟨0, by rw [hel]; exact Nat.lt_of_lt_of_le (Nat.mul_pos h0 hsz) (Nat.mul_le_mul_right _ (Nat.le_add_right _ _)), by simp⟩)
    · have hj3 : j < len * sz := by have := (List.getElem?_eq_some_iff.1 hj).1; rw [flat_len _ sz hrl] at this; simpa using this
      have hq : j / sz < len := Nat.div_lt_of_lt_mul (by rw [Nat.mul_comm]; exact hj3)
      have h1 := flat_at ((List.range len).map f) sz hrl (j / sz) (f (j / sz)) (by simp [hq])
      have hdm := Nat.div_add_mod' j sz
      have h2 : (f (j / sz))[j % sz]? = some u := by
        rw [← h1, List.getElem?_take, if_pos (Nat.mod_lt _ hsz), List.getElem?_drop, hdm]
        exact hj
      have h3 := (hf (j / sz) hq).2.1 (j % sz) u h2
      rw [add_lit', add_lit', Nat.add_assoc, hdm] at h3
      exact h3
theorem hash_cells2 {m : Nat} {cs : List Value} {x : DataW H × List MemPlace} (hf : DataW.trod enc Tryz.prog W base sp held m 25 cs = some x) : ∃ l : List Nat, l.length = 32 ∧ (∀ c ∈ l, c < 256) ∧ cs = U8 l := by
  obtain ⟨xs, m, _, _, hlen, hn, hel⟩ := DataW.trod_array undHc2 hf
  have hcs : cs.length = 32 := by rw [← ceH]; exact hlen
  have hcell : ∀ i, i < 32 → ∃ n : Nat, n < 256 ∧ cs[i]? = some (.int .u8 (n : Int)) := fun i hi => by
    have h1 := hel i hi
    rw [ce5b] at h1
    have hxi : xs[i]? = some (xs[i]'(by omega)) := List.getElem?_eq_getElem _
    rw [hxi] at h1
    obtain ⟨n, e1, _, wf⟩ := DataW.trod_int undByte h1
    have hb : 0 ≤ n ∧ n ≤ 255 := bounds_u8 wf
    refine ⟨n.toNat, by omega, ?_⟩
    have := congrArg (fun l => l[0]?) e1
    simp only [List.getElem?_take, List.getElem?_drop, Nat.mul_one, Nat.add_zero] at this
    rw [Int.toNat_of_nonneg hb.1]
    simpa using this
  refine ⟨cs.map (fun u => match u with | .int _ n => n.toNat | _ => 0), by simpa using hcs, ?_, ?_⟩
  · intro x hx
    obtain ⟨u, hu, rfl⟩ := List.mem_map.1 hx
    obtain ⟨i, hi, rfl⟩ := List.mem_iff_getElem.1 hu
    obtain ⟨n, hn256, e⟩ := hcell i (by omega)
    rw [List.getElem?_eq_getElem hi] at e
    injection e with e
    rw [e]
    simpa using hn256
  · unfold U8
    rw [List.map_map]
    apply List.ext_getElem (by simp)
    intro i h1 h2
    obtain ⟨n, _, e⟩ := hcell i (by omega)
    rw [List.getElem?_eq_getElem h1] at e
    injection e with e
    simp only [List.getElem_map, Function.comp]
    rw [e]
    simp
theorem open_hs {fuel : Nat} {c1 : Value} {x : DataW H × List MemPlace} (h : DataW.trod enc Tryz.prog W base sp held fuel 26 [c1] = some x) (hlt : ∀ q ∈ x.2, q.block < W.heap.size) : ∃ hs : List (List Nat), Hashes W c1 hs := by
  obtain ⟨A, c, rows, rfl, h1, h2, h3, h4⟩ := open_sl undHs ceH (by omega) (Pr := fun cs => ∃ l : List Nat, l.length = 32 ∧ (∀ c ∈ l, c < 256) ∧ cs = U8 l) (fun n cs x' ht _ => hash_cells2 ht) h hlt
  obtain ⟨g, hg⟩ : ∃ g : List Value → List Nat, ∀ cs ∈ rows, (g cs).length = 32 ∧ (∀ c ∈ g cs, c < 256) ∧ cs = U8 (g cs) :=
    by classical exact ⟨fun cs => if h : ∃ l : List Nat, l.length = 32 ∧ (∀ c ∈ l, c < 256) ∧ cs = U8 l then h.choose else [], fun cs hcs => by simp only [(h3 cs hcs).2, dif_pos]; exact (h3 cs hcs).2.choose_spec⟩
  have hfl : rows.flatten = U8 (rows.map g).flatten := by
    have : ∀ l : List (List Value), (∀ cs ∈ l, cs = U8 (g cs)) → l.flatten = U8 (l.map g).flatten := by
      intro l
      induction l with
      | nil => intro _; rfl
      | cons y l ih => intro hl; rw [List.flatten_cons, List.map_cons, List.flatten_cons, ih (fun z hz => hl z (by simp [hz])), show U8 (g y ++ (l.map g).flatten) = U8 (g y) ++ U8 (l.map g).flatten by simp [U8], ← hl y (by simp)]
    exact this rows (fun cs hcs => (hg cs hcs).2.2)
  exact ⟨rows.map g, A, c, by simp, by simpa using h1, h2, fun y hy => by obtain ⟨cs, hcs, rfl⟩ := List.mem_map.1 hy; exact ⟨(hg cs hcs).1, (hg cs hcs).2.1⟩, fun h0 => by rw [← hfl]; exact h4 (by simpa using h0)⟩
theorem open_cm0 {fuel : Nat} {cs : List Value} {x : DataW H × List MemPlace} (h : DataW.trod enc Tryz.prog W base sp held fuel 28 cs = some x) (hlt : ∀ q ∈ x.2, q.block < W.heap.size) : ∃ c : Cm, CmV W (.agg cs.toArray) c ∧ (-9223372036854775808 ≤ c.w ∧ c.w ≤ 9223372036854775807) ∧ -9223372036854775808 ≤ c.st ∧ c.st ≤ 9223372036854775807 := by
  obtain ⟨xs, n, _, hx, hl, hlen, hf⟩ := DataW.trod_struct Tryz.underlying28 h
  rw [ceC] at hl
  have f0 : DataW.trod enc Tryz.prog W base sp held n 3 ((cs.drop 0).take (Tryz.prog.cellsOf 3)) = xs[0]? := hf 0 _ rfl
  have f1 : DataW.trod enc Tryz.prog W base sp held n 3 ((cs.drop 1).take (Tryz.prog.cellsOf 3)) = xs[1]? := hf 1 _ rfl
  have f2 : DataW.trod enc Tryz.prog W base sp held n 25 ((cs.drop 2).take (Tryz.prog.cellsOf 25)) = xs[2]? := hf 2 _ rfl
  have f3 : DataW.trod enc Tryz.prog W base sp held n 26 ((cs.drop 34).take (Tryz.prog.cellsOf 26)) = xs[3]? := hf 3 _ rfl
  rw [ce3c] at f0 f1
  rw [ceH] at f2
  rw [ceLH] at f3
  match xs, hlen with
  | [x0, x1, x2, x3], _ =>
    obtain ⟨a, ha, _, haw⟩ := DataW.trod_int und3 f0
    obtain ⟨b, hb, _, hbw⟩ := DataW.trod_int und3 f1
    obtain ⟨rt, hr1, hr2, hr3⟩ := hash_cells2 f2
    match cs, hl with
    | c0 :: c1 :: rs, hl =>
      simp only [List.drop_zero, List.drop_succ_cons, List.take_succ_cons, List.take_zero, List.cons.injEq, and_true] at ha hb
      simp only [List.drop_succ_cons, List.drop_zero] at hr3 f3
      have hrl : rs.length = 33 := by simpa using hl
      obtain ⟨v, hv⟩ : ∃ v, rs.drop 32 = [v] := by
        have : (rs.drop 32).length = 1 := by rw [List.length_drop]; omega
        match rs.drop 32, this with
        | [v], _ => exact ⟨v, rfl⟩
      rw [hv] at f3
      have f3' : DataW.trod enc Tryz.prog W base sp held n 26 [v] = some x3 := f3
      obtain ⟨hs, hH⟩ := open_hs f3' (fun q hq => hlt q (by rw [hx]; exact List.mem_flatMap.2 ⟨x3, by simp, hq⟩))
      refine ⟨⟨a, b, rt, hs⟩, ⟨v, ?_, hH, hr1, hr2⟩, bounds_i64 haw, bounds_i64 hbw⟩
      show _ = Value.agg (Value.int .i64 a :: Value.int .i64 b :: (U8 rt ++ [v])).toArray
      rw [ha, hb, ← hr3, ← hv, List.take_append_drop]
theorem open_commit (hv : Value.okWide Tryz.prog W r b0 28 v) (h : DataW.Trod enc Tryz.prog W base sp held 28 v d p) (hlt : ∀ x ∈ p, x.block < W.heap.size) : ∃ c : Cm, CmV W v c ∧ (-9223372036854775808 ≤ c.w ∧ c.w ≤ 9223372036854775807) ∧ -9223372036854775808 ≤ c.st ∧ c.st ≤ 9223372036854775807 := by
  obtain ⟨cs, rfl, hc⟩ := okWide_struct Tryz.underlying28 hv
  obtain ⟨fuel, hf⟩ := h
  have hf' : DataW.trod enc Tryz.prog W base sp held fuel 28 cs.toList = some (d, p) := hf
  have := open_cm0 hf' hlt
  rwa [Array.toArray_toList] at this
theorem open_outs (hv : Value.okWide Tryz.prog W r b0 23 v) (h : DataW.Trod enc Tryz.prog W base sp held 23 v d p) (hlt : ∀ x ∈ p, x.block < W.heap.size) : ∃ ls : List (List E), Outs W v ls ∧ ∀ l ∈ ls, FitsM l := by
  obtain ⟨a, len, cap, rfl⟩ := okWide_slice undLMM hv
  obtain ⟨fuel, hf⟩ := h
  have hf' : DataW.trod enc Tryz.prog W base sp held fuel 23 [.slice a len cap] = some (d, p) := hf
  obtain ⟨A, c, rows, e, h1, h2, h3, h4⟩ := open_sl undLMM ceLM (by omega) (Pr := fun cs => ∃ (u : Value) (l : List E), cs = [u] ∧ Edges W u l ∧ FitsM l) (fun n cs x' ht hq => by
    obtain ⟨u, rfl⟩ : ∃ u, cs = [u] := by
      have hcl : cs.length = 1 := by
        rcases DataW.trod_slice und32 ht with ⟨e, _⟩ | ⟨_, _, _, _, _, _, _, e, _⟩ <;> rw [e] <;> rfl
      match cs, hcl with
      | [u], _ => exact ⟨u, rfl⟩
    obtain ⟨es, hE, hF⟩ := open_msgsF ht hq
    exact ⟨u, es, rfl, hE, hF⟩) hf' hlt
  obtain ⟨g, hg⟩ : ∃ g : List Value → Value × List E, ∀ cs ∈ rows, cs = [(g cs).1] ∧ Edges W (g cs).1 (g cs).2 ∧ FitsM (g cs).2 :=
    by classical exact ⟨fun cs => if h : ∃ (u : Value) (l : List E), cs = [u] ∧ Edges W u l ∧ FitsM l then (h.choose, h.choose_spec.choose) else (.nilFunc, []), fun cs hcs => by simp only [(h3 cs hcs).2, dif_pos]; exact (h3 cs hcs).2.choose_spec.choose_spec⟩
  have hfl : rows.flatten = rows.map (fun cs => (g cs).1) := by
    have : ∀ l : List (List Value), (∀ cs ∈ l, cs = [(g cs).1]) → l.flatten = l.map (fun cs => (g cs).1) := by
      intro l
      induction l with
      | nil => intro _; rfl
      | cons y l ih => intro hl; rw [List.flatten_cons, List.map_cons, ih (fun z hz => hl z (by simp [hz]))]; show y ++ _ = [(g y).1] ++ _; rw [← hl y (by simp)]
    exact this rows (fun cs hcs => (hg cs hcs).1)
  refine ⟨rows.map (fun cs => (g cs).2), ⟨A, c, rows.map (fun cs => (g cs).1), by rw [e]; simp, by simpa using h1, h2, by simp, fun h0 => by rw [← hfl]; exact h4 (by simpa using h0), fun i l hi => ?_⟩, fun l hl => ?_⟩
  · rw [List.getElem?_map] at hi ⊢
    cases hr : rows[i]? with
    | none => rw [hr] at hi; cases hi
    | some cs =>
      rw [hr] at hi
      simp only [Option.map_some, Option.some.injEq] at hi ⊢
      subst hi
      exact ⟨_, rfl, (hg cs (List.mem_of_getElem? hr)).2.1⟩
  · obtain ⟨cs, hcs, rfl⟩ := List.mem_map.1 hl
    exact (hg cs hcs).2.2
end
end Go.Proofs.YtooeahpkhocaeaaGreatDoor
/- Layer 12: numbers bound by closures (the program's bound and may). No condition. -/
namespace Go.Proofs.YtooeahpkhocaeaaGreatDoor
open Go.RowKit
set_option maxRecDepth 100000

theorem goes13 : Goes Tryz.prog 13 := goes_of Tryz.func13 (by kernel_rfl) rfl
theorem goes29 : Goes Tryz.prog 29 := goes_of Tryz.func29 (by kernel_rfl) rfl
theorem goes40 : Goes Tryz.prog 40 := goes_of Tryz.func40 (by kernel_rfl) rfl
theorem pl5048 : (match Tryz.prog.underlying 44 with | some (.struct _) => true | some (.array _ _) => true | none => true | _ => false) = false := by kernel_rfl
/-- Whether a number is from lo to hi; whether a commitment may have these three. -/
def inB (lo hi n : Nat) : Bool := decide (lo ≤ n) && decide (n ≤ hi)
def mayC (a b n : Nat) : Bool := inB 0 63 a && (inB 0 63 b && inB 1 64 n)
set_option maxHeartbeats 1000000 in
theorem bound1_any (lo hi n : Nat) (g1 g2 : Nat) (r : Bool) (hr : inB lo hi n = r) (w : World) (hLo : Has w g1 44 [.int .u64 ((lo : Nat) : Int)]) (hHi : Has w g2 44 [.int .u64 ((hi : Nat) : Int)]) : Ans 40 [.int .u64 ((n : Nat) : Int), .pointer (some ⟨g1, 0, none⟩), .pointer (some ⟨g2, 0, none⟩)] w (Is (.bool r) w) := by
  refine calls_qx (args := [.int .u64 ((n : Nat) : Int), .pointer (some ⟨g1, 0, none⟩), .pointer (some ⟨g2, 0, none⟩)]) 13 Tryz.func40 rfl (by kernel_rfl) (by simp) (fun a hS => ?_)
  refine qx_seq (reg_seq ?_)
  refine sI hS (runs_assign rfl) fun _ hS => ?_
  refine nil_ok (qx_seq (reg_seq ?_))
  refine sI hS (runs_load rfl pl5048 (hLo.at rfl)) fun _ hS => ?_
  refine sI hS (runs_move rfl) fun _ hS => ?_
  by_cases h1 : lo ≤ n
  · skip
    refine sI hS (runs_leq (r := true) rfl rfl (by simp; omega)) fun _ hS => ?_
    refine sI hS (runs_move rfl) fun _ hS => ?_
    refine sY hS (runs_move rfl) fun _ hS => ?_
    refine sY hS (runs_load rfl pl5048 (hHi.at rfl)) fun _ hS => ?_
    by_cases h2 : n ≤ hi
    · skip
      refine sY hS (runs_leq (r := true) rfl rfl (by simp; omega)) fun _ hS => ?_
      refine sI hS (runs_pick rfl rfl) fun _ hS => ?_
      refine sI hS (runs_assign rfl) fun _ hS => ?_
      exact nil_ok (qx_ret (ret1 (t := 4) (by kernel_rfl) hS rfl ⟨_, rfl, by rw [← hr]; simp [inB, h1, h2], rfl⟩))
    refine sY hS (runs_leq (r := false) rfl rfl (by simp; omega)) fun _ hS => ?_
    refine sI hS (runs_pick rfl rfl) fun _ hS => ?_
    refine sI hS (runs_assign rfl) fun _ hS => ?_
    exact nil_ok (qx_ret (ret1 (t := 4) (by kernel_rfl) hS rfl ⟨_, rfl, by rw [← hr]; simp [inB, h1, h2], rfl⟩))
  refine sI hS (runs_leq (r := false) rfl rfl (by simp; omega)) fun _ hS => ?_
  refine sI hS (runs_move rfl) fun _ hS => ?_
  refine sN hS fun _ hS => ?_
  refine sN hS fun _ hS => ?_
  refine sN hS fun _ hS => ?_
  refine sI hS (runs_pick rfl rfl) fun _ hS => ?_
  refine sI hS (runs_assign rfl) fun _ hS => ?_
  exact nil_ok (qx_ret (ret1 (t := 4) (by kernel_rfl) hS rfl ⟨_, rfl, by rw [← hr]; simp [inB, h1], rfl⟩))
set_option maxHeartbeats 1000000 in
theorem bound_any (lo hi : Nat) (w : World) : Ans 29 [.int .u64 ((lo : Nat) : Int), .int .u64 ((hi : Nat) : Int)] w (fun u w' => ∃ g1 g2, u = .func (.func 40) #[] #[.pointer (some ⟨g1, 0, none⟩), .pointer (some ⟨g2, 0, none⟩)] ∧ Has w' g1 44 [.int .u64 ((lo : Nat) : Int)] ∧ Has w' g2 44 [.int .u64 ((hi : Nat) : Int)] ∧ Below w.heap.size w w') := by
  refine calls_qx (args := [.int .u64 ((lo : Nat) : Int), .int .u64 ((hi : Nat) : Int)]) 6 Tryz.func29 rfl (by kernel_rfl) (by simp) (fun a hS => ?_)
  have hB := Below.refl w.heap.size w
  refine qx_seq (reg_seq ?_)
  refine seq_op hS (by decide) (runs_boxB (cs := [.int .u64 ((lo : Nat) : Int)]) rfl rfl) (fun v1 w1 a1 hp hS => ?_)
  obtain ⟨rfl, hM1, hB1⟩ := hp
  have hB := hB.trans (hB1.mono hB.size)
  refine seq_op hS (by decide) (runs_boxB (cs := [.int .u64 ((hi : Nat) : Int)]) rfl rfl) (fun v3 w3 a1 hp hS => ?_)
  obtain ⟨rfl, hM3, hB3⟩ := hp
  have hB := hB.trans (hB3.mono hB.size)
  have hM1 := hM1.below hB3 hM1.lt
  refine sI hS (runs_assign rfl) fun _ hS => ?_
  refine nil_ok (qx_seq (reg_seq ?_))
  refine sI hS (runs_makeFunc (cs := [.pointer (some ⟨w.heap.size, 0, none⟩), .pointer (some ⟨w1.heap.size, 0, none⟩)]) rfl) fun _ hS => ?_
  refine sI hS (runs_assign rfl) fun _ hS => ?_
  exact nil_ok (qx_ret (ret1 (t := 4) (by kernel_rfl) hS rfl ⟨_, rfl, _, _, rfl, hM1, hM3, hB⟩))
set_option maxHeartbeats 1000000 in
theorem may_any (na nb nn : Nat) (w : World) : Ans 13 [.int .u64 ((na : Nat) : Int), .int .u64 ((nb : Nat) : Int), .int .u64 ((nn : Nat) : Int)] w (fun u w' => u = .bool (mayC na nb nn) ∧ Below w.heap.size w w') := by
  refine calls_qx (args := [.int .u64 ((na : Nat) : Int), .int .u64 ((nb : Nat) : Int), .int .u64 ((nn : Nat) : Int)]) 26 Tryz.func13 rfl (by kernel_rfl) (by simp) (fun a hS => ?_)
  have hB := Below.refl w.heap.size w
  refine qx_seq (reg_seq ?_)
  refine sI hS (runs_assign rfl) fun _ hS => ?_
  refine nil_ok (qx_seq (reg_seq ?_))
  refine seq_op hS (by decide) (runs_call (args := [.int .u64 ((0 : Nat) : Int), .int .u64 ((63 : Nat) : Int)]) goes29 rfl (bound_any 0 63 w)) (fun v1 w1 a1 hp hS => ?_)
  obtain ⟨x1, y1, rfl, hx1, hy1, hB1⟩ := hp
  have hB := hB.trans (hB1.mono hB.size)
  refine sI hS (runs_assign rfl) fun _ hS => ?_
  refine nil_ok (qx_seq (reg_seq ?_))
  refine seq_op hS (by decide) (runs_call (args := [.int .u64 ((0 : Nat) : Int), .int .u64 ((63 : Nat) : Int)]) goes29 rfl (bound_any 0 63 w1)) (fun v3 w3 a1 hp hS => ?_)
  obtain ⟨x2, y2, rfl, hx2, hy2, hB3⟩ := hp
  have hB := hB.trans (hB3.mono hB.size)
  have hx1 := hx1.below hB3 hx1.lt
  have hy1 := hy1.below hB3 hy1.lt
  refine sI hS (runs_assign rfl) fun _ hS => ?_
  refine nil_ok (qx_seq (reg_seq ?_))
  refine seq_op hS (by decide) (runs_call (args := [.int .u64 ((1 : Nat) : Int), .int .u64 ((64 : Nat) : Int)]) goes29 rfl (bound_any 1 64 w3)) (fun v5 w5 a1 hp hS => ?_)
  obtain ⟨x3, y3, rfl, hx3, hy3, hB5⟩ := hp
  have hB := hB.trans (hB5.mono hB.size)
  have hx1 := hx1.below hB5 hx1.lt
  have hy1 := hy1.below hB5 hy1.lt
  have hx2 := hx2.below hB5 hx2.lt
  have hy2 := hy2.below hB5 hy2.lt
  refine sI hS (runs_assign rfl) fun _ hS => ?_
  refine nil_ok (qx_seq (reg_seq ?_))
  refine sI hS (runs_move rfl) fun _ hS => ?_
  refine sI hS (runs_move rfl) fun _ hS => ?_
  by_cases h1 : inB 0 63 na = true
  · skip
    refine sI hS (runs_callv (args := [.int .u64 ((na : Nat) : Int)]) (caps := [.pointer (some ⟨x1, 0, none⟩), .pointer (some ⟨y1, 0, none⟩)]) goes40 rfl rfl (bound1_any 0 63 na _ _ true (h1) w5 hx1 hy1)) fun _ hS => ?_
    refine sI hS (runs_move rfl) fun _ hS => ?_
    refine sY hS (runs_move rfl) fun _ hS => ?_
    refine sY hS (runs_move rfl) fun _ hS => ?_
    by_cases h2 : inB 0 63 nb = true
    · skip
      refine sY hS (runs_callv (args := [.int .u64 ((nb : Nat) : Int)]) (caps := [.pointer (some ⟨x2, 0, none⟩), .pointer (some ⟨y2, 0, none⟩)]) goes40 rfl rfl (bound1_any 0 63 nb _ _ true (h2) w5 hx2 hy2)) fun _ hS => ?_
      refine sI hS (runs_pick rfl rfl) fun _ hS => ?_
      refine sI hS (runs_move rfl) fun _ hS => ?_
      refine sY hS (runs_move rfl) fun _ hS => ?_
      refine sY hS (runs_move rfl) fun _ hS => ?_
      by_cases h3 : inB 1 64 nn = true
      · skip
        refine sY hS (runs_callv (args := [.int .u64 ((nn : Nat) : Int)]) (caps := [.pointer (some ⟨x3, 0, none⟩), .pointer (some ⟨y3, 0, none⟩)]) goes40 rfl rfl (bound1_any 1 64 nn _ _ true (h3) w5 hx3 hy3)) fun _ hS => ?_
        refine sI hS (runs_pick rfl rfl) fun _ hS => ?_
        refine sI hS (runs_assign rfl) fun _ hS => ?_
        exact nil_ok (qx_ret (ret1 (t := 6) (by kernel_rfl) hS rfl ⟨_, rfl, by simp [mayC, h1, h2, h3], hB⟩))
      refine sY hS (runs_callv (args := [.int .u64 ((nn : Nat) : Int)]) (caps := [.pointer (some ⟨x3, 0, none⟩), .pointer (some ⟨y3, 0, none⟩)]) goes40 rfl rfl (bound1_any 1 64 nn _ _ false (Bool.eq_false_iff.2 h3) w5 hx3 hy3)) fun _ hS => ?_
      refine sI hS (runs_pick rfl rfl) fun _ hS => ?_
      refine sI hS (runs_assign rfl) fun _ hS => ?_
      exact nil_ok (qx_ret (ret1 (t := 6) (by kernel_rfl) hS rfl ⟨_, rfl, by simp [mayC, h1, h2, h3], hB⟩))
    refine sY hS (runs_callv (args := [.int .u64 ((nb : Nat) : Int)]) (caps := [.pointer (some ⟨x2, 0, none⟩), .pointer (some ⟨y2, 0, none⟩)]) goes40 rfl rfl (bound1_any 0 63 nb _ _ false (Bool.eq_false_iff.2 h2) w5 hx2 hy2)) fun _ hS => ?_
    refine sI hS (runs_pick rfl rfl) fun _ hS => ?_
    refine sI hS (runs_move rfl) fun _ hS => ?_
    refine sN hS fun _ hS => ?_
    refine sN hS fun _ hS => ?_
    refine sN hS fun _ hS => ?_
    refine sI hS (runs_pick rfl rfl) fun _ hS => ?_
    refine sI hS (runs_assign rfl) fun _ hS => ?_
    exact nil_ok (qx_ret (ret1 (t := 6) (by kernel_rfl) hS rfl ⟨_, rfl, by simp [mayC, h1, h2], hB⟩))
  refine sI hS (runs_callv (args := [.int .u64 ((na : Nat) : Int)]) (caps := [.pointer (some ⟨x1, 0, none⟩), .pointer (some ⟨y1, 0, none⟩)]) goes40 rfl rfl (bound1_any 0 63 na _ _ false (Bool.eq_false_iff.2 h1) w5 hx1 hy1)) fun _ hS => ?_
  refine sI hS (runs_move rfl) fun _ hS => ?_
  refine sN hS fun _ hS => ?_
  refine sN hS fun _ hS => ?_
  refine sN hS fun _ hS => ?_
  refine sI hS (runs_pick rfl rfl) fun _ hS => ?_
  refine sI hS (runs_move rfl) fun _ hS => ?_
  refine sN hS fun _ hS => ?_
  refine sN hS fun _ hS => ?_
  refine sN hS fun _ hS => ?_
  refine sI hS (runs_pick rfl rfl) fun _ hS => ?_
  refine sI hS (runs_assign rfl) fun _ hS => ?_
  exact nil_ok (qx_ret (ret1 (t := 6) (by kernel_rfl) hS rfl ⟨_, rfl, by simp [mayC, h1], hB⟩))
end Go.Proofs.YtooeahpkhocaeaaGreatDoor
