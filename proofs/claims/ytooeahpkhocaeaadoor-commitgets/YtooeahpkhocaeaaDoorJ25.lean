/- Layer 10: Root. Conditions: at most 10000 vertices. -/
import Derived.Test.YtooeahpkhocaeaaDoorJ24
namespace Go.Proofs.YtooeahpkhocaeaaDoor
open Go.RowKit
set_option maxRecDepth 100000

def rowsX (l : List Vx) : List ByteArray := l.map putX
theorem rowsX_small (l : List Vx) : ∀ s ∈ rowsX l, s.size ≤ 19 := fun s hs => by
  obtain ⟨x, _, rfl⟩ := List.mem_map.1 hs
  unfold putX
  rw [S_size]
  by_cases h : rightX x = true
  · rw [if_pos h]; exact (bytesX_size h).2
  · rw [if_neg h]; simp
def rootX (l : List Vx) : List Nat := Tree.root (rowsX l).length (Tree.top ((rowsX l).map bl))
theorem rootX_len (l : List Vx) : (rootX l).length = 32 := root_len _ _
set_option maxRecDepth 100000 in
set_option maxHeartbeats 1000000 in
theorem sroot_any (l : List Vx) (v : Value) (w : World) (hV : Verts w v l) (hl : l.length ≤ 10000) (hk : Kept w) : Ans 30 [v] w (fun u w' => u = .agg (U8 (rootX l)).toArray ∧ Below w.heap.size w w') := by
  refine calls_qx (args := [v]) 6 Tryd.func30 rfl (by kernel_rfl) (by simp) (fun a hS => ?_)
  refine qx_seq (reg_seq ?_)
  refine seq_op hS (by decide) alloc_hash (fun v1 w1 a1 hp1 hS => ?_)
  obtain ⟨rfl, rfl⟩ := hp1
  have hH1 := Has.new w 23 (U8 (List.replicate 32 0))
  have hB1 : Below w.heap.size w (w.alloc (.cells (U8 (List.replicate 32 0)).toArray 23)) := (Below.refl _ _).alloc (Nat.le_refl _) _
  generalize w.alloc (.cells (U8 (List.replicate 32 0)).toArray 23) = w1 at *
  have hV1 := hV.kept hB1
  have hk1 := hk.below hB1 hk.pos
  refine nil_ok (qx_seq (reg_seq ?_))
  refine seq_is hS (by decide) (runs_move rfl) (fun a1 hS => ?_)
  refine seq_op hS (by decide) (runs_call (args := [v]) goes41 rfl (srows_any l v w1 hV1 hl)) (fun v2 w2 a2 hp2 hS => ?_)
  obtain ⟨hR, hB2⟩ := hp2
  have hroot := root_any (rowsX l) v2 w2 hR (fun s hs => Nat.le_trans (rowsX_small l s hs) (by omega)) (by simp [rowsX]; omega) (hk1.below hB2 hk1.pos)
  refine seq_op hS (by decide) (runs_call (args := [v2]) goes40 rfl (hash_post (fun w' => Below w2.heap.size w2 w') hroot (fun _ h => h))) (fun v3 w3 a3 hp3 hS => ?_)
  obtain ⟨rfl, hB3⟩ := hp3
  have hH3 := (hH1.below hB2 hH1.lt).below hB3 (Nat.lt_of_lt_of_le hH1.lt hB2.size)
  have hlen : (rootX l).length = 32 := rootX_len l
  refine seq_none hS (runs_storeRow (cs := (U8 (rootX l)).toArray) rfl rfl hH3 (by simp [hlen]) (agg_all _) (by rw [infHash]; simp [hlen])) (fun v6 w6 a6 hp6 hS => ?_)
  obtain ⟨rfl, rfl⟩ := hp6
  exact nil_ok (qx_ret (retRow (t := 0) (p := 2) (by kernel_rfl) hS rfl (has_setRow (cs := U8 (rootX l)) hH3) rfl undHash rfl (by rw [infHash]; simp [hlen]) ⟨_, rfl, rfl, below_row ((hB1.trans (hB2.mono hB1.size)).trans (hB3.mono (Nat.le_trans hB1.size hB2.size))) (Nat.le_refl _) _⟩))
end Go.Proofs.YtooeahpkhocaeaaDoor
/- Plain mathematics: all workers' vertices together are all, each once, in order. No condition. -/
namespace Go.Proofs.YtooeahpkhocaeaaDoor
set_option maxRecDepth 100000

/-- What is still to be found, of h from a on, lies in what is still to be seen, of l from i on. -/
def SubX (h l : List Vx) (a i : Nat) : Prop := (h.drop a).Sublist (l.drop i)
theorem SubX.done {h l : List Vx} {a i : Nat} (s : SubX h l a i) (hi : ¬ (i < l.length ∧ a < h.length)) (hil : i ≤ l.length) : ¬ a < h.length := fun ha => by
  have : i = l.length := by omega
  unfold SubX at s
  rw [this, List.drop_length, List.sublist_nil] at s
  have := congrArg List.length s
  rw [List.length_drop] at this
  simp at this; omega
end Go.Proofs.YtooeahpkhocaeaaDoor
/- Layer 11: what the program's calls are asked to answer. No condition. -/
namespace Go.Proofs.YtooeahpkhocaeaaDoor
open Go.RowKit
set_option maxRecDepth 100000

theorem goes42 : Goes Tryd.prog 42 := goes_of Tryd.func42 (by kernel_rfl) rfl
theorem goes47 : Goes Tryd.prog 47 := goes_of Tryd.func47 (by kernel_rfl) rfl
/-- Each field within 64 bits. -/
def FitsM (l : List E) : Prop := ∀ m ∈ l, (-9223372036854775808 ≤ m.1 ∧ m.1 ≤ 9223372036854775807) ∧ (-9223372036854775808 ≤ m.2.1 ∧ m.2.1 ≤ 9223372036854775807) ∧ -9223372036854775808 ≤ m.2.2 ∧ m.2.2 ≤ 9223372036854775807
theorem FitsM.sort {l : List E} (h : FitsM l) : FitsM (sortM l) := fun m hm => h m (sortM_mem.1 hm)
def rootM (l : List E) : List Nat := Tree.root l.length (Tree.top (rowsM l))
theorem rootM_len (l : List E) : (rootM l).length = 32 := root_len _ _
theorem rowsS_map (l : List E) : ((rowsM l).map S).map bl = rowsM l := by
  rw [List.map_map]
  conv => rhs; rw [← List.map_id (rowsM l)]
  refine List.map_congr_left (fun r hr => ?_)
  obtain ⟨m, _, rfl⟩ := List.mem_map.1 hr
  exact bl_S (rowM_lt m)
theorem rowsS_small {l : List E} (h : FitsM l) : ∀ s ∈ (rowsM l).map S, s.size ≤ 30 := fun s hs => by
  obtain ⟨r, hr, rfl⟩ := List.mem_map.1 hs
  obtain ⟨m, hm, rfl⟩ := List.mem_map.1 hr
  obtain ⟨h1, h2, h3⟩ := h m (sortM_mem.1 hm)
  rw [S_size]
  exact rowM_size (by omega) (by omega) h3.1 h3.2
theorem rowsS_root (l : List E) : Tree.root ((rowsM l).map S).length (Tree.top (((rowsM l).map S).map bl)) = rootM l := by
  rw [rowsS_map, List.length_map, rowsM_length]; rfl
def RowsC : Prop := ∀ (l : List E) (v : Value) (w : World), Edges w v l → l.length ≤ 10000 → FitsM l → Ans 42 [v] w (fun u w' => Strs w' u ((rowsM l).map S) ∧ Below w.heap.size w w')
def RootC : Prop := ∀ (l : List E) (v : Value) (w : World), Edges w v l → l.length ≤ 10000 → FitsM l → Kept w → Ans 31 [v] w (fun u w' => u = .agg (U8 (rootM l)).toArray ∧ Below w.heap.size w w')
end Go.Proofs.YtooeahpkhocaeaaDoor
/- Layer 11: the document's Rows and Root. Conditions: at most 10000 messages, each field within 64 bits. -/
namespace Go.Proofs.YtooeahpkhocaeaaDoor
open Go.RowKit
set_option maxRecDepth 100000

theorem undB64 : Tryd.prog.underlying 48 = some (.int .u64) := by kernel_rfl
def rowB (l : List E) : List Value := (l.map (fun m => S (rowM m))).map Value.string
theorem rowB_snoc {l : List E} {i : Nat} {x : E} (h : l[i]? = some x) : rowB (l.take (i + 1)) = rowB (l.take i) ++ [.string (S (rowM x))] := by
  unfold rowB; rw [List.take_add_one, h, Option.toList_some, List.map_append, List.map_append]; rfl
theorem rowB_sort (l : List E) : rowB (sortM l) = ((rowsM l).map S).map Value.string := by
  unfold rowB rowsM; rw [List.map_map]; simp
section
variable {L : List (Nat × Value)} {w : World} {ty : TypeId}
theorem push_ownSK {B n g2 : Nat} {s x : Operand} {sv : Value} {xs : List Value} {t : ByteArray} (hs : vals L s = some sv) (hown : w.ownsRow B 9 1 sv n xs) (hx : vals L x = some (.slice (some ⟨g2, 0, none⟩) 1 1)) (hX : Has w g2 9 [.string t]) (hn : n ≤ 10000) (hB : B ≤ w.heap.size) (hcap : 0 < n ∨ ∀ g m c, sv = .slice (some g) m c → c = 0) :
    Runs Tryd.prog (.call { callee := .builtin .append, args := #[s, x], argTypes := #[82, 82] }) ty L w (fun u w2 => w2.ownsRow B 9 1 u (n + 1) (xs ++ [.string t]) ∧ KR 9 1 B (xs ++ [.string t]) w w2) := by
  obtain ⟨i48, hi48, hz48, hs48, hb48⟩ := info_parts infStr
  exact (push_own1 undStrs hi48 hz48 hs48 hb48 rfl (by omega) (by omega) hs hown hx hX rfl (by simp [Value.oneCell']) hn hB hcap).mono (by rintro u w2 ⟨_, h2, h3⟩; exact ⟨h2, h3⟩)
end
end Go.Proofs.YtooeahpkhocaeaaDoor
/- How messages and numbers come in. No condition. -/
namespace Go.Proofs.YtooeahpkhocaeaaDoor
open Go.ChangeShapes Go.WideShapes Go.ChangeAt Go.RowKit
set_option maxRecDepth 100000

def FitsE (m : E) : Prop := (-9223372036854775808 ≤ m.1 ∧ m.1 ≤ 9223372036854775807) ∧ (-9223372036854775808 ≤ m.2.1 ∧ m.2.1 ≤ 9223372036854775807) ∧ -9223372036854775808 ≤ m.2.2 ∧ m.2.2 ≤ 9223372036854775807
section
variable {H : Type} {enc : TypeId × Value → H} {W : World} {base b0 : Nat} {r : Reach} {sp : Nat → Bool} {held : Bool} {v : Value} {d : DataW H} {p : List MemPlace}
theorem open_msg0F {fuel : Nat} {cs : List Value} {x : DataW H × List MemPlace} (h : DataW.trod enc Tryd.prog W base sp held fuel 92 cs = some x) : ∃ e : E, cs = encE e ∧ FitsE e := by
  obtain ⟨xs, n, _, _, hl, hlen, hf⟩ := DataW.trod_struct Tryd.underlying92 h
  rw [ce41] at hl
  match cs, hl with
  | [c0, c1, c2], _ =>
    have f0 : DataW.trod enc Tryd.prog W base sp held n 3 (([c0, c1, c2].drop 0).take (Tryd.prog.cellsOf 3)) = xs[0]? := hf 0 _ rfl
    have f1 : DataW.trod enc Tryd.prog W base sp held n 3 (([c0, c1, c2].drop 1).take (Tryd.prog.cellsOf 3)) = xs[1]? := hf 1 _ rfl
    have f2 : DataW.trod enc Tryd.prog W base sp held n 2 (([c0, c1, c2].drop 2).take (Tryd.prog.cellsOf 2)) = xs[2]? := hf 2 _ rfl
    rw [ce3] at f0 f1
    rw [ce2] at f2
    match xs, hlen with
    | [x0, x1, x2], _ =>
      obtain ⟨a, ha, _, haw⟩ := DataW.trod_int und3 f0
      obtain ⟨b, hb, _, hbw⟩ := DataW.trod_int und3 f1
      obtain ⟨c, hc, _, hcw⟩ := DataW.trod_int und2 f2
      simp at ha hb hc
      exact ⟨(a, b, c), by simp [encE, ha, hb, hc], ⟨bounds_i64 haw, bounds_i64 hbw, bounds_i64 hcw⟩⟩
theorem open_msgsF {fuel : Nat} {c1 : Value} {x : DataW H × List MemPlace} (h : DataW.trod enc Tryd.prog W base sp held fuel 40 [c1] = some x) (hlt : ∀ q ∈ x.2, q.block < W.heap.size) : ∃ es : List E, Edges W c1 es ∧ ∀ e ∈ es, FitsE e := by
  rcases DataW.trod_slice und32 h with ⟨hc, _⟩ | ⟨a, len, cap, elems, rest, n, _, hc, hx, _, hl, hm, hel, hcell, _⟩
  · simp only [List.cons.injEq, and_true] at hc
    subst hc
    exact ⟨[], edges_nil W, fun e he => by simp at he⟩
  · simp only [List.cons.injEq, and_true] at hc
    subst hc
    rw [ce41] at hcell hx
    have hget : ∀ i, i < len → ∃ e : E, (∀ j u, (encE e)[j]? = some u → W.cell? ((a.add (i * 3)).add j) = some u) ∧ FitsE e := fun i hi => by
      have h1 := hcell i hi
      rw [List.getElem?_eq_getElem (by omega)] at h1
      rw [Option.bind_eq_some_iff] at h1
      obtain ⟨cs, hcs, ht⟩ := h1
      obtain ⟨e, rfl, hew⟩ := open_msg0F ht
      exact ⟨e, cells3 hcs, hew⟩
    obtain ⟨f, hf, hfw⟩ : ∃ f : Nat → E, (∀ i, i < len → ∀ j u, (encE (f i))[j]? = some u → W.cell? ((a.add (i * 3)).add j) = some u) ∧ ∀ i, i < len → FitsE (f i) :=
      ⟨fun i => if h : i < len then (hget i h).choose else (0, 0, 0), fun i hi => by simp only [hi, dif_pos]; exact (hget i hi).choose_spec.1, fun i hi => by simp only [hi, dif_pos]; exact (hget i hi).choose_spec.2⟩
    refine ⟨(List.range len).map f, ⟨some a, cap, by simp, by simpa using hl, hm, fun h0 => ?_⟩, fun e he => by obtain ⟨i, hi, rfl⟩ := List.mem_map.1 he; exact hfw i (List.mem_range.1 hi)⟩
    simp only [List.length_map, List.length_range] at h0
    obtain ⟨b, off, spot⟩ := a
    have hspot : spot = none := by
      have := hf 0 h0 0 _ rfl
      simpa [Addr.add] using World.cell?_spot this
    subst hspot
    refine ⟨b, off, rfl, ?_, fun j u hj => ?_⟩
    · refine hlt (.cell b off) ?_
      rw [hx]
      exact List.mem_append_left _ (MemPlace.mem_row.2 ⟨0, by omega, by simp⟩)
    · have hj3 : j < len * 3 := by have := (List.getElem?_eq_some_iff.1 hj).1; rw [cellsE_length] at this; simpa using this
      have hq : j / 3 < len := by omega
      have h1 := cellsE_get ((List.range len).map f) (j / 3) (f (j / 3)) (by simp [hq])
      have h2 : (encE (f (j / 3)))[j % 3]? = some u := by
        rw [← h1, List.getElem?_take, if_pos (Nat.mod_lt _ (by omega)), List.getElem?_drop, show j / 3 * 3 + j % 3 = j by omega]
        exact hj
      have h3 := hf (j / 3) hq (j % 3) u h2
      rw [add_lit', add_lit'] at h3
      rw [show off + j / 3 * 3 + j % 3 = off + j by omega] at h3
      exact h3
end
theorem open_u8 {H : Type} {enc : TypeId × Value → H} {W : World} {base b0 : Nat} {r : Reach} {sp : Nat → Bool} {held : Bool} {v : Value} {d : DataW H} {p : List MemPlace} (hv : Value.okWide Tryd.prog W r b0 5 v) (h : DataW.Trod enc Tryd.prog W base sp held 5 v d p) : ∃ n : Nat, n < 256 ∧ v = .int .u8 (n : Int) := by
  obtain ⟨n, rfl, _, _, wf⟩ := open_int undByte hv h
  have := bounds_u8 wf
  exact ⟨n.toNat, by omega, by rw [Int.toNat_of_nonneg this.1]⟩
end Go.Proofs.YtooeahpkhocaeaaDoor
