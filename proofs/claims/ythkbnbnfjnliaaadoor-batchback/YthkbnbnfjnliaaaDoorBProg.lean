/- Layer 11: the program's rows and bytes. Conditions: at most 10000 messages, each field within 64 bits. -/
import Derived.Test.YthkbnbnfjnliaaaDoorJ35
import Derived.Test.YthkbnbnfjnliaaaDoorBCheck
import Derived.Test.YthkbnbnfjnliaaaDoorJ39
import Derived.Test.YthkbnbnfjnliaaaDoorTTop
namespace Go.Proofs.YthkbnbnfjnliaaaDoor
open Go.RowKit
set_option maxRecDepth 100000

theorem goes29 : Goes Tryd.prog 29 := goes_of Tryd.func29 (by kernel_rfl) rfl
/-- Objects and rows of other kinds than a writer's stay. -/
def KO (w w' : World) : Prop := ∀ i t cs, t ≠ 73 → t ≠ 5 → Has w i t cs → Has w' i t cs
theorem KO.of_wrote {w w' : World} {b : Nat} {v : Value} {l l' : List Nat} (h : Out w b v l) (k : Wrote w b v l' w') : KO w w' := fun i t cs h1 h2 h3 => by
  obtain ⟨v', _, hf, _⟩ := k
  exact h3.fr hf (has_ne h3 h.1 h1) (own_ne h.2 h3 (Ne.symm h2))
theorem wrk_text {B b : Nat} {s : ByteArray} {w : World} {l : List Nat} (h : Wr B w b l) (hs : s.size ≤ 100000) (hl : l.length ≤ 100000) : Ans 21 [.pointer (some ⟨b, 0, none⟩), .string s] w (fun _ w' => Wr B w' b (l ++ txt (bl s)) ∧ Below B w w' ∧ KO w w') := by
  obtain ⟨h1, h2, v, h3, h4⟩ := h
  exact (outText_any b s v l w hs h3 hl).mono (by
    rintro e w' ⟨rfl, k⟩
    rw [← bl_length] at k
    exact ⟨_, rfl, (Wr.wrote h1 h2 h3 h4 k).1, (Wr.wrote h1 h2 h3 h4 k).2, KO.of_wrote h3 k⟩)
theorem owns_ko {w w' : World} {B n sz : Nat} {e : TypeId} {v : Value} {xs : List Value} (h : w.ownsRow B e sz v n xs) (k : KO w w') (h1 : e ≠ 73) (h2 : e ≠ 5) : w'.ownsRow B e sz v n xs := by
  refine ⟨h.1, ?_⟩
  rcases h.2 with h | ⟨g4, c4, cur, h0, h4, hh, hrest⟩
  · exact .inl h
  · refine .inr ⟨g4, c4, cur, h0, h4, ?_, hrest⟩
    have := k g4 e cur.toList h1 h2 (by unfold Has; simpa using hh)
    unfold Has at this
    simpa using this
set_option maxHeartbeats 1000000 in
theorem brow_any (m : E) (hf : (-9223372036854775808 ≤ m.1 ∧ m.1 ≤ 9223372036854775807) ∧ (-9223372036854775808 ≤ m.2.1 ∧ m.2.1 ≤ 9223372036854775807) ∧ -9223372036854775808 ≤ m.2.2 ∧ m.2.2 ≤ 9223372036854775807) (w : World) : Ans 29 [.agg (encE m).toArray] w (fun u w' => u = .string (S (rowM m)) ∧ Below w.heap.size w w') := by
  refine calls_qx (args := [.agg (encE m).toArray]) 29 Tryd.func29 rfl (by kernel_rfl) (by simp) (fun a hS => ?_)
  have hB := Below.refl w.heap.size w
  refine qx_seq (reg_seq ?_)
  refine seq_op hS (by decide) (runs_boxB (cs := encE m) rfl rfl) (fun v1 w1 a1 hp hS => ?_)
  obtain ⟨rfl, hM1, hB1⟩ := hp
  have hB := hB.trans (hB1.mono hB.size)
  refine sI hS (runs_assign rfl) fun _ hS => ?_
  refine nil_ok (qx_seq (qx_seq (reg_seq ?_)))
  refine sI hS (runs_fieldK fo41_0 rfl) fun _ hS => ?_
  refine sI hS (runs_load rfl pl3 (hM1.at rfl)) fun _ hS => ?_
  by_cases n1 : m.1 < 0
  · skip
    refine sI hS (lssT rfl rfl (by omega)) fun _ hS => ?_
    refine sI hS (runs_move rfl) fun _ hS => ?_
    refine sN hS fun _ hS => ?_
    refine sN hS fun _ hS => ?_
    refine sN hS fun _ hS => ?_
    refine sI hS (runs_pick rfl rfl) fun _ hS => ?_
    refine nil_ok (wp_cond_true (hS.eval rfl) (qx_seq (reg_seq ?_)))
    refine sI hS (runs_assign rfl) fun _ hS => ?_
    exact nil_ok (qx_ret (ret1 (t := 2) (by kernel_rfl) hS rfl ⟨_, rfl, by unfold rowM; rw [if_pos (by omega)]; rfl, hB⟩))
  refine sI hS (lssF rfl rfl (by omega)) fun _ hS => ?_
  refine sI hS (runs_move rfl) fun _ hS => ?_
  refine sY hS (runs_fieldK fo41_1 rfl) fun _ hS => ?_
  refine sY hS (runs_load rfl pl3 (hM1.at rfl)) fun _ hS => ?_
  by_cases n2 : m.2.1 < 0
  · skip
    refine sY hS (lssT rfl rfl (by omega)) fun _ hS => ?_
    refine sI hS (runs_pick rfl rfl) fun _ hS => ?_
    refine nil_ok (wp_cond_true (hS.eval rfl) (qx_seq (reg_seq ?_)))
    refine sI hS (runs_assign rfl) fun _ hS => ?_
    exact nil_ok (qx_ret (ret1 (t := 2) (by kernel_rfl) hS rfl ⟨_, rfl, by unfold rowM; rw [if_pos (by omega)]; rfl, hB⟩))
  refine sY hS (lssF rfl rfl (by omega)) fun _ hS => ?_
  refine sI hS (runs_pick rfl rfl) fun _ hS => ?_
  refine nil_ok (wp_cond_false (hS.eval rfl) (wp_skip (qx_seq (?_))))
  obtain ⟨q1, q2, q3⟩ := hf
  have l1 := Wire.num_len10 m.1.toNat (by omega)
  have l2 := Wire.num_len10 m.2.1.toNat (by omega)
  have hrow : [] ++ Wire.num m.1.toNat ++ Wire.num m.2.1.toNat ++ Wire.num (Wire.fold m.2.2) = rowM m := by unfold rowM; rw [if_neg (by omega), List.nil_append]
  have hBpre0 := hB
  have hB := Below.refl w1.heap.size w1
  have hM1b := hM1
  refine reg_seq ?_
  refine seq_op hS (by decide) (runs_call (args := []) goes19 rfl (wr_new w1)) (fun v3 w3 a1 hp hS => ?_)
  obtain ⟨rfl, hW, hK3⟩ := hp
  have hB := hB.trans hK3
  have hM1 := hM1b.below hB hM1b.lt
  refine sI hS (runs_assign rfl) fun _ hS => ?_
  refine nil_ok (qx_seq (reg_seq ?_))
  refine sI hS (runs_move rfl) fun _ hS => ?_
  refine sI hS (runs_fieldK fo41_0 rfl) fun _ hS => ?_
  refine sI hS (runs_load rfl pl3 (hM1.at rfl)) fun _ hS => ?_
  refine sI hS (runs_convInt (r := ((m.1.toNat : Nat) : Int)) rfl (by decide) undB64 (by simp [IntKind.wrap, IntKind.bits, IntKind.signed]; omega)) fun _ hS => ?_
  refine seq_op hS (by decide) (runs_call (args := [.pointer (some ⟨w1.heap.size, 0, none⟩), .int .u64 ((m.1.toNat : Nat) : Int)]) goes20 rfl (wr_num hW (by omega) (by simp only [List.length_nil]; omega))) (fun v4 w4 a1 hp hS => ?_)
  obtain ⟨hW, hK4⟩ := hp
  have hB := hB.trans hK4
  have hM1 := hM1b.below hB hM1b.lt
  refine nil_ok (qx_seq (reg_seq ?_))
  refine sI hS (runs_move rfl) fun _ hS => ?_
  refine sI hS (runs_fieldK fo41_1 rfl) fun _ hS => ?_
  refine sI hS (runs_load rfl pl3 (hM1.at rfl)) fun _ hS => ?_
  refine sI hS (runs_convInt (r := ((m.2.1.toNat : Nat) : Int)) rfl (by decide) undB64 (by simp [IntKind.wrap, IntKind.bits, IntKind.signed]; omega)) fun _ hS => ?_
  refine seq_op hS (by decide) (runs_call (args := [.pointer (some ⟨w1.heap.size, 0, none⟩), .int .u64 ((m.2.1.toNat : Nat) : Int)]) goes20 rfl (wr_num hW (by omega) (by simp only [List.length_append, List.length_nil]; omega))) (fun v5 w5 a1 hp hS => ?_)
  obtain ⟨hW, hK5⟩ := hp
  have hB := hB.trans hK5
  have hM1 := hM1b.below hB hM1b.lt
  refine nil_ok (qx_seq (reg_seq ?_))
  refine sI hS (runs_move rfl) fun _ hS => ?_
  refine sI hS (runs_fieldK fo41_2 rfl) fun _ hS => ?_
  refine sI hS (runs_load rfl pl2 (hM1.at rfl)) fun _ hS => ?_
  refine seq_op hS (by decide) (runs_call (args := [.pointer (some ⟨w1.heap.size, 0, none⟩), .int .i64 m.2.2]) goes49 rfl (wr_int hW q3.1 q3.2 (by simp only [List.length_append, List.length_nil]; omega))) (fun v6 w6 a1 hp hS => ?_)
  obtain ⟨hW, hK6⟩ := hp
  have hB := hB.trans hK6
  refine nil_ok (qx_seq (reg_seq ?_))
  refine sI hS (runs_move rfl) fun _ hS => ?_
  refine sI hS (runs_call (args := [.pointer (some ⟨w1.heap.size, 0, none⟩)]) goes22 rfl ((wr_done hW).mono (by rintro e w3 ⟨u, rfl, rfl, rfl⟩; exact ⟨_, rfl, by rw [hrow], rfl⟩))) fun _ hS => ?_
  refine sI hS (runs_assign rfl) fun _ hS => ?_
  exact nil_ok (qx_ret (ret1 (t := 2) (by kernel_rfl) hS rfl ⟨_, rfl, rfl, hBpre0.trans (hB.mono hBpre0.size)⟩))
set_option maxHeartbeats 1000000 in
theorem browsO_any (l : List E) (hl : l.length ≤ 10000) (hf : FitsM l) (v : Value) (w : World) (hE : Edges w v l) : Ans 11 [v] w (fun u w' => w'.ownsRow w.heap.size 9 1 u l.length (((rowsM l).map S).map Value.string) ∧ Below w.heap.size w w') := by
  refine calls_qx (args := [v]) 20 Tryd.func11 rfl (by kernel_rfl) (by simp) (fun a hS => ?_)
  have hB := Below.refl w.heap.size w
  refine qx_seq (reg_seq ?_)
  refine sI hS (runs_assign rfl) fun _ hS => ?_
  refine nil_ok (qx_seq (reg_seq ?_))
  refine sI hS (runs_assign rfl) fun _ hS => ?_
  refine nil_ok (qx_seq (qx_seq (reg_seq ?_)))
  refine sI hS (runs_move rfl) fun _ hS => ?_
  refine seq_op hS (by decide) (runs_call (args := [v]) goes28 rfl (msort_any l hl v w hE)) (fun v1 w1 a1 hp hS => ?_)
  obtain ⟨hB1, hSB⟩ := hp
  have hSo := hSB.edges
  obtain ⟨A, c, rfl, hc1, hc2, hA⟩ := id hSo
  have hB := hB.trans (hB1.mono hB.size)
  refine sI hS (runs_len rfl und32) fun _ hS => ?_
  refine sI hS (runs_move rfl) fun _ hS => ?_
  refine nil_ok (?_)
  have hsl := sortM_length l
  have hfs := hf.sort
  have hBpre0 := hB
  have hB := Below.refl w1.heap.size w1
  have hSob := hSo
  refine qx_range (fun mm a w' => ∃ (i : Nat) (ov : Value), i ≤ (sortM l).length ∧ mm = (sortM l).length - i ∧ Below w1.heap.size w1 w' ∧ w'.ownsRow w1.heap.size 9 1 ov i (rowB ((sortM l).take i)) ∧ (i = 0 → ov = .slice none 0 0) ∧ Sees 20 [(9, .int .i64 (i : Int)), (8, .int .i64 (((sortM l).length : Nat) : Int)), (7, .slice A (sortM l).length c), (3, ov)] a) (sortM l).length ⟨0, _, by omega, by omega, hB, ⟨rfl, .inl ⟨rfl, rfl⟩⟩, (fun _ => rfl), hS.only _ ⟨rfl, rfl, rfl, rfl, trivial⟩⟩ ?_
  clear hS 
  rintro mm a wl1 ⟨i, ov, hi1, rfl, hBb1, hown, hz, hS⟩
  have hBsz1 := hBb1.size
  have hSo := hSob.kept hBb1
  have hB := Below.refl wl1.heap.size wl1
  refine reg_seq ?_
  by_cases hlt1 : i < (sortM l).length
  · skip
    refine sI hS (lssT rfl rfl (by omega)) fun _ hS => ?_
    refine nil_ok ⟨_, hS.eval rfl, fun h => by simp at h, fun _ => ?_⟩
    obtain ⟨x, hx⟩ : ∃ x, (sortM l)[i]? = some x := ⟨(sortM l)[i], by simp [hlt1]⟩
    obtain ⟨b, o, rfl, hbw, hr⟩ := edges_row hSo (by omega)
    have hrx := edges_at hr hx
    have hfx := hfs x (List.mem_of_getElem? hx)
    refine qx_seq (qx_block (qx_seq (reg_seq ?_)))
    refine sI hS (runs_indexAddrG (j := i) rfl rfl und32 sz41 rfl hlt1) fun _ hS => ?_
    refine sI hS (runs_loadM rfl hrx) fun _ hS => ?_
    refine seq_op hS (by decide) (runs_allocB (cs := [.int .i64 0, .int .i64 0, .int .i64 0]) zo41 rfl) (fun v3 w3 a1 hp hS => ?_)
    obtain ⟨rfl, hM3, hB3⟩ := hp
    have hLhM3 : wl1.heap.size ≤ wl1.heap.size := hB.size
    have hB := hB.trans (hB3.mono hB.size)
    refine seq_none hS (runs_storeB (cs := encE x) rfl rfl hM3 rfl rfl sz41) (fun v5 w5 a1 hp hS => ?_)
    obtain ⟨hM3, hU5⟩ := hp
    have hB := But.new hB hU5 (fun i e => by rw [e]; exact hLhM3) (Nat.le_refl _)
    refine nil_ok (reg_seq ?_)
    refine sI hS (runs_move rfl) fun _ hS => ?_
    refine sI hS (runs_loadRow rfl hM3 Tryd.underlying31 rfl (by rw [sz41]; rfl)) fun _ hS => ?_
    refine seq_op hS (by decide) (runs_call (args := [.agg (encE x).toArray]) goes29 rfl (brow_any x hfx w5)) (fun v7 w7 a1 hp hS => ?_)
    obtain ⟨rfl, hB7⟩ := hp
    have hB := hB.trans (hB7.mono hB.size)
    refine seq_op hS (by decide) (runs_oneSt (s := S (rowM x)) rfl) (fun v9 w9 a1 hp hS => ?_)
    obtain ⟨g2, rfl, hX, hB9⟩ := hp
    have hB := hB.trans (hB9.mono hB.size)
    refine seq_op hS (by decide) (push_ownSK (B := w1.heap.size) rfl (owns_kept hown hB) rfl hX (by omega) (Nat.le_trans hBsz1 hB.size) ((Nat.eq_zero_or_pos i).elim (fun h => .inr (fun g m c e => by rw [hz h] at e; cases e)) .inl)) (fun v11 w11 a1 hp hS => ?_)
    obtain ⟨hown3, hK3⟩ := hp
    refine sI hS (runs_assign rfl) fun _ hS => ?_
    refine nil_ok (reg_seq ?_)
    refine sI hS (runs_add (r := ((i + 1 : Nat) : Int)) rfl rfl (by simp [IntKind.wrap, IntKind.bits, IntKind.signed]; omega)) fun _ hS => ?_
    refine sI hS (runs_move rfl) fun _ hS => ?_
    exact nil_ok ⟨_, by omega, i + 1, v11, by omega, rfl, hBb1.trans ((hB.mono hBb1.size).trans hK3.1), by rw [rowB_snoc hx]; exact hown3, (fun h => by omega), hS.only _ ⟨rfl, rfl, rfl, rfl, trivial⟩⟩
  refine sI hS (lssF rfl rfl (by omega)) fun _ hS => ?_
  obtain rfl : i = (sortM l).length := by omega
  refine nil_ok ⟨_, hS.eval rfl, fun _ => ?_, fun h => by simp at h⟩
  have hB := hBb1
  rw [List.take_length, rowB_sort, hsl] at hown
  have hown := owns_mono hown hBpre0.size
  refine qx_seq (reg_seq ?_)
  refine sI hS (runs_move rfl) fun _ hS => ?_
  refine sI hS (runs_assign rfl) fun _ hS => ?_
  exact nil_ok (qx_ret (ret1 (t := 2) (by kernel_rfl) hS rfl ⟨_, rfl, hown, hBpre0.trans (hB.mono hBpre0.size)⟩))
theorem brows_c : RowsC := fun l v w hE hl hf => (browsO_any l hl hf v w hE).mono (by rintro e w' ⟨u, rfl, h1, h2⟩; exact ⟨_, rfl, strs_ownR h1 (by rw [List.length_map, rowsM_length]), h2⟩)
set_option maxRecDepth 100000 in
set_option maxHeartbeats 1000000 in
theorem broot_c : RootC := fun l v w hE hl hf hk => by
  refine calls_qx (args := [v]) 6 Tryd.func9 rfl (by kernel_rfl) (by simp) (fun a hS => ?_)
  refine qx_seq (reg_seq ?_)
  refine seq_op hS (by decide) alloc_hash (fun v1 w1 a1 hp1 hS => ?_)
  obtain ⟨rfl, rfl⟩ := hp1
  have hH1 := Has.new w 35 (U8 (List.replicate 32 0))
  have hB1 : Below w.heap.size w (w.alloc (.cells (U8 (List.replicate 32 0)).toArray 35)) := (Below.refl _ _).alloc (Nat.le_refl _) _
  generalize w.alloc (.cells (U8 (List.replicate 32 0)).toArray 35) = w1 at *
  have hE1 := hE.kept hB1
  have hk1 := hk.below hB1 hk.pos
  refine nil_ok (qx_seq (reg_seq ?_))
  refine seq_is hS (by decide) (runs_move rfl) (fun a1 hS => ?_)
  refine seq_op hS (by decide) (runs_call (args := [v]) goes11 rfl (brows_c l v w1 hE1 hl hf)) (fun v2 w2 a2 hp2 hS => ?_)
  obtain ⟨hR, hB2⟩ := hp2
  have hroot := root_any ((rowsM l).map S) v2 w2 hR (fun s hs => Nat.le_trans (rowsS_small hf s hs) (by omega)) (by rw [List.length_map, rowsM_length]; omega) (hk1.below hB2 hk1.pos)
  rw [rowsS_root] at hroot
  refine seq_op hS (by decide) (runs_call (args := [v2]) goes25 rfl (hash_post (fun w' => Below w2.heap.size w2 w') hroot (fun _ h => h))) (fun v3 w3 a3 hp3 hS => ?_)
  obtain ⟨rfl, hB3⟩ := hp3
  have hH3 := (hH1.below hB2 hH1.lt).below hB3 (Nat.lt_of_lt_of_le hH1.lt hB2.size)
  have hlen : (rootM l).length = 32 := rootM_len l
  refine seq_none hS (runs_storeRow (cs := (U8 (rootM l)).toArray) rfl rfl hH3 (by simp [hlen]) (agg_all _) (by rw [infHash]; simp [hlen])) (fun v6 w6 a6 hp6 hS => ?_)
  obtain ⟨rfl, rfl⟩ := hp6
  exact nil_ok (qx_ret (retRow (t := 0) (p := 2) (by kernel_rfl) hS rfl (has_setRow (cs := U8 (rootM l)) hH3) rfl undHash rfl (by rw [infHash]; simp [hlen]) ⟨_, rfl, rfl, below_row ((hB1.trans (hB2.mono hB1.size)).trans (hB3.mono (Nat.le_trans hB1.size hB2.size))) (Nat.le_refl _) _⟩))
theorem pl9t : (match Tryd.prog.underlying 9 with | some (.struct _) => true | some (.array _ _) => true | none => true | _ => false) = false := by kernel_rfl
theorem flat_len1 : ∀ (rs : List (List Nat)), (∀ r ∈ rs, r.length ≤ 30) → ((rs.map txt).flatten).length ≤ 40 * rs.length
  | [], _ => by simp
  | r :: rs, h => by
    have ih := flat_len1 rs (fun x hx => h x (by simp [hx]))
    have h1 := h r (by simp)
    have h2 := Wire.num_len10 r.length (by omega)
    simp only [List.map_cons, List.flatten_cons, List.length_append, List.length_cons, txt] at ih ⊢
    omega
theorem rowsM_small1 {l : List E} (h : FitsM l) : ∀ r ∈ rowsM l, r.length ≤ 30 := fun r hr => by
  obtain ⟨m, hm, rfl⟩ := List.mem_map.1 hr
  obtain ⟨h1, h2, h3⟩ := h m (sortM_mem.1 hm)
  exact rowM_size (by omega) (by omega) h3.1 h3.2
theorem rowsM_bytes1 (l : List E) : ∀ r ∈ rowsM l, ∀ c ∈ r, c < 256 := fun r hr => by
  obtain ⟨m, _, rfl⟩ := List.mem_map.1 hr
  exact rowM_lt m
theorem runs_lenO {L : List (Nat × Value)} {w : World} {ty t : TypeId} {x : Operand} {B n : Nat} {e : TypeId} {v : Value} {xs : List Value} (h : w.ownsRow B e 1 v n xs) (hu : Tryd.prog.underlying t = some (.slice e)) (hx : vals L x = some v) : Runs Tryd.prog (.call { callee := .builtin .len, args := #[x], argTypes := #[t] }) ty L w (Is (.int .i64 ((n : Nat) : Int)) w) := by
  rcases h.2 with ⟨rfl, h0⟩ | ⟨g, c, cur, rfl, _⟩
  · subst h0; exact runs_len hx hu
  · exact runs_len hx hu
set_option maxHeartbeats 1000000 in
theorem bput_c (hC : ChkC) : PutC := fun l v w hE hl => by
  show Ans 6 [v] w _
  refine calls_qx (args := [v]) 32 Tryd.func6 rfl (by kernel_rfl) (by simp) (fun a hS => ?_)
  have hB := Below.refl w.heap.size w
  have hEb := hE
  refine qx_seq (reg_seq ?_)
  refine sI hS (runs_assign rfl) fun _ hS => ?_
  refine sI hS (runs_assign rfl) fun _ hS => ?_
  refine nil_ok (qx_seq (qx_seq (reg_seq ?_)))
  refine sI hS (runs_move rfl) fun _ hS => ?_
  refine seq_op hS (by decide) (runs_call (args := [v]) goes8 rfl (hC l v w hE hl)) (fun v1 w1 a1 hp hS => ?_)
  obtain ⟨rfl, hB1⟩ := hp
  have hB := hB.trans (hB1.mono hB.size)
  have hE := hEb.kept hB
  refine sI hS (runs_assign rfl) fun _ hS => ?_
  refine nil_ok (qx_seq (reg_seq ?_))
  refine sI hS (runs_move rfl) fun _ hS => ?_
  by_cases hr : ¬ rightM l = true
  · skip
    refine sI hS (runs_neq (r := true) rfl rfl (by rw [chkM_bad hr]; rfl)) fun _ hS => ?_
    refine nil_ok (wp_cond_true (hS.eval rfl) (qx_seq (reg_seq ?_)))
    refine sI hS (runs_move rfl) fun _ hS => ?_
    refine sI hS (runs_assign rfl) fun _ hS => ?_
    refine sI hS (runs_assign rfl) fun _ hS => ?_
    exact nil_ok (qx_ret (ret2 (t := 2) (u := 3) (by kernel_rfl) hS rfl rfl ⟨_, rfl, by unfold putM; rw [if_neg hr]; rfl, hB⟩))
  refine sI hS (runs_neq (r := false) rfl rfl (by rw [chkM_ok (Classical.not_not.1 hr)]; rfl)) fun _ hS => ?_
  refine nil_ok (wp_cond_false (hS.eval rfl) (wp_skip (qx_seq (?_))))
  replace hr := Classical.not_not.1 hr
  obtain ⟨hok, _, h512⟩ := (rightM_iff l).1 hr
  have hf : FitsM l := fun m hm => by
    obtain ⟨a1, a2, a3, a4, a5⟩ := (okM_iff m).1 (hok m hm)
    have a6 := great_no a5
    exact ⟨⟨by omega, by omega⟩, ⟨by omega, by omega⟩, by omega, by omega⟩
  obtain ⟨A, c, rfl, hc1, hc2, hA⟩ := id hE
  have hbyt : [] ++ Wire.num l.length ++ ((rowsM l).map txt).flatten = bytesM l := by unfold bytesM; rw [List.nil_append]
  have hBpre0 := hB
  have hB := Below.refl w1.heap.size w1
  have hEb := hE
  refine reg_seq ?_
  refine seq_op hS (by decide) (runs_call (args := []) goes19 rfl (wr_new w1)) (fun v3 w3 a1 hp hS => ?_)
  obtain ⟨rfl, hW, hK3⟩ := hp
  have hB := hB.trans hK3
  have hE := hEb.kept hB
  refine sI hS (runs_assign rfl) fun _ hS => ?_
  refine nil_ok (qx_seq (reg_seq ?_))
  refine sI hS (runs_move rfl) fun _ hS => ?_
  refine sI hS (runs_move rfl) fun _ hS => ?_
  refine sI hS (runs_len rfl und32) fun _ hS => ?_
  refine sI hS (runs_convInt (r := ((l.length : Nat) : Int)) rfl (by decide) undB64 (by simp [IntKind.wrap, IntKind.bits, IntKind.signed]; omega)) fun _ hS => ?_
  refine seq_op hS (by decide) (runs_call (args := [.pointer (some ⟨w1.heap.size, 0, none⟩), .int .u64 ((l.length : Nat) : Int)]) goes20 rfl (wr_num hW (by omega) (by simp))) (fun v4 w4 a1 hp hS => ?_)
  obtain ⟨hW, hK4⟩ := hp
  have hB := hB.trans hK4
  have hE := hEb.kept hB
  refine nil_ok (qx_seq (qx_seq (reg_seq ?_)))
  refine sI hS (runs_move rfl) fun _ hS => ?_
  refine seq_op hS (by decide) (runs_call (args := [.slice A l.length c]) goes11 rfl (browsO_any l hl hf _ w4 hE)) (fun v5 w5 a1 hp hS => ?_)
  obtain ⟨hos, hB5⟩ := hp
  have hos := owns_mono hos hB.size
  have hW := hW.below hB5
  have hB := hB.trans (hB5.mono hB.size)
  refine sI hS (runs_lenO hos undStrs rfl) fun _ hS => ?_
  refine sI hS (runs_move rfl) fun _ hS => ?_
  refine nil_ok (?_)
  rw [show [] ++ Wire.num l.length = [] ++ Wire.num l.length ++ (((rowsM l).take 0).map txt).flatten by simp] at hW
  refine qx_range (fun mm a w' => ∃ (i : Nat), i ≤ l.length ∧ mm = l.length - i ∧ Below w1.heap.size w1 w' ∧ Wr w1.heap.size w' w1.heap.size ([] ++ Wire.num l.length ++ (((rowsM l).take i).map txt).flatten) ∧ w'.ownsRow w1.heap.size 9 1 (v5) l.length (((rowsM l).map S).map Value.string) ∧ Sees 32 [(22, .int .i64 (i : Int)), (21, .int .i64 ((l.length : Nat) : Int)), (20, v5), (5, .pointer (some ⟨w1.heap.size, 0, none⟩))] a) l.length ⟨0, by omega, by omega, hB, hW, hos, hS.only _ ⟨rfl, rfl, rfl, rfl, trivial⟩⟩ ?_
  clear hS 
  rintro mm a wl1 ⟨i, hi1, rfl, hBb1, hW, hos, hS⟩
  have hB := Below.refl wl1.heap.size wl1
  refine reg_seq ?_
  by_cases hlt1 : i < l.length
  · skip
    refine sI hS (lssT rfl rfl (by omega)) fun _ hS => ?_
    refine nil_ok ⟨_, hS.eval rfl, fun h => by simp at h, fun _ => ?_⟩
    have hgi : i < (rowsM l).length := by rw [rowsM_length]; exact hlt1
    obtain ⟨r, hri⟩ : ∃ r, (rowsM l)[i]? = some r := ⟨(rowsM l)[i], by simp [hgi]⟩
    obtain ⟨gr, cr, hre, _, hgr, hrr⟩ := owns_rowK hos (by omega)
    subst hre
    have hci := hrr i (.string (S r)) (by simp [List.getElem?_map, hri])
    have hrm := List.mem_of_getElem? hri
    have hr30 := rowsM_small1 hf r hrm
    have hbl : bl (S r) = r := bl_S (rowsM_bytes1 l r hrm)
    have hfl := flat_len1 ((rowsM l).take i) (fun x hx => rowsM_small1 hf x (List.mem_of_mem_take hx))
    have hn10 := Wire.num_len10 l.length (by omega)
    have htl : ((rowsM l).take i).length ≤ i := List.length_take_le _ _
    refine qx_seq (qx_block (qx_seq (reg_seq ?_)))
    refine sI hS (runs_indexAddrG (j := i) rfl rfl undStrs infStr1 rfl hlt1) fun _ hS => ?_
    refine sI hS (runs_load rfl pl9t (by rw [Nat.mul_one]; exact hci)) fun _ hS => ?_
    refine sI hS (runs_assign rfl) fun _ hS => ?_
    refine nil_ok (reg_seq ?_)
    refine sI hS (runs_move rfl) fun _ hS => ?_
    refine sI hS (runs_move rfl) fun _ hS => ?_
    refine seq_op hS (by decide) (runs_call (args := [.pointer (some ⟨w1.heap.size, 0, none⟩), .string (S r)]) goes21 rfl (wrk_text hW (by rw [S_size]; omega) (by simp only [List.length_append, List.length_nil]; omega))) (fun v6 w6 a1 hp hS => ?_)
    obtain ⟨hW, hK6, hO6⟩ := hp
    have hos := owns_ko hos hO6 (by decide) (by decide)
    have hB := hBb1.trans hK6
    refine nil_ok (reg_seq ?_)
    refine sI hS (runs_add (r := ((i + 1 : Nat) : Int)) rfl rfl (by simp [IntKind.wrap, IntKind.bits, IntKind.signed]; omega)) fun _ hS => ?_
    refine sI hS (runs_move rfl) fun _ hS => ?_
    exact nil_ok ⟨_, by omega, i + 1, by omega, rfl, hB, by rw [List.take_add_one, hri, Option.toList_some, List.map_append, List.flatten_append, ← List.append_assoc, show ([r].map txt).flatten = txt (bl (S r)) by rw [hbl]; simp]; exact hW, hos, hS.only _ ⟨rfl, rfl, rfl, rfl, trivial⟩⟩
  refine sI hS (lssF rfl rfl (by omega)) fun _ hS => ?_
  obtain rfl : i = l.length := by omega
  refine nil_ok ⟨_, hS.eval rfl, fun _ => ?_, fun h => by simp at h⟩
  have hB := hBb1
  rw [List.take_of_length_le (by rw [rowsM_length]; exact Nat.le_refl _)] at hW
  refine qx_seq (reg_seq ?_)
  refine sI hS (runs_move rfl) fun _ hS => ?_
  refine sI hS (runs_call (args := [.pointer (some ⟨w1.heap.size, 0, none⟩)]) goes22 rfl ((wr_done hW).mono (by rintro e w3 ⟨u, rfl, rfl, rfl⟩; exact ⟨_, rfl, by rw [hbyt], rfl⟩))) fun _ hS => ?_
  refine sI hS (runs_assign rfl) fun _ hS => ?_
  refine sI hS (runs_assign rfl) fun _ hS => ?_
  exact nil_ok (qx_ret (ret2 (t := 2) (u := 3) (by kernel_rfl) hS rfl rfl ⟨_, rfl, by unfold putM chkM; rw [if_pos hr, if_pos hr], hBpre0.trans (hB.mono hBpre0.size)⟩))
end Go.Proofs.YthkbnbnfjnliaaaDoor
