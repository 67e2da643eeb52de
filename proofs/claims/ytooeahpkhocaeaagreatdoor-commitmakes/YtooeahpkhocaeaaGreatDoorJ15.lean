/- The document's own Of: the whole. Conditions: at most 1000 bytes. -/
import Derived.Test.YtooeahpkhocaeaaGreatDoorOf5
import Derived.Test.YtooeahpkhocaeaaGreatDoorEngP
import Derived.Test.YtooeahpkhocaeaaGreatDoorTTop
import Derived.ArgAppend
namespace Go.Proofs.YtooeahpkhocaeaaGreatDoor
open Go.RowKit
set_option maxRecDepth 100000

theorem runs_append_byte {base : Nat} {V : World} {v : Value} {l : List Nat} {L : List (Nat × Value)} {ty : TypeId} {s y : Operand} {ad : Addr} {c : Nat} (hs : vals L s = some v) (h : OwnB base V v l) (x : Nat) (hy : vals L y = some (.slice (some ad) 1 c)) (hx : V.cell? ad = some (.int .u8 (x : Int))) (hn : l.length < 1000000) (hB : base ≤ V.heap.size) :
    Runs Tryz.prog (.call { callee := .builtin .append, args := #[s, y], argTypes := #[65, 65] }) ty L V (fun v' V' => OwnB base V' v' (l ++ [x]) ∧ Below base V V') := fun o a K Q ho _ hL hK => by
  have e1 := hL s (by simp [Op.operands, Call.operands]) v hs
  have e2 := hL y (by simp [Op.operands, Call.operands]) _ hy
  obtain ⟨v', V', hrun, r1, r2⟩ := run_append_byte h x ad c o.type hx hn hB
  unfold Oper.wp
  simp [execOp, ho, resolve, invoke, builtin, e1, e2, hrun, Result.andThen]
  exact hK _ _ ⟨r1, r2⟩
theorem two_run {L : List (Nat × Value)} {w : World} {ty : TypeId} {ts : Array TypeId} {X : Operand} {i : Int} (m : Nat) (hx : vals L X = some (.int .i64 i)) (hi : i = (m : Int)) (hm : m < 64) :
    Runs Tryz.prog (.call { callee := .value (.func 79), args := #[X], argTypes := ts }) ty L w (Is (.int .u64 ((2 ^ m : Nat) : Int)) w) := by
  subst hi
  refine runs_call (args := [.int .i64 (m : Int)]) goesTwo (by simp [hx]) ?_
  refine (two_any m hm w).mono ?_
  rintro e w' ⟨rfl, rfl⟩
  exact ⟨_, rfl, rfl, rfl⟩
theorem conv_range {w : World} {g : Nat} {x : List Nat} (h : w.rangeAt g 0 (U8 x)) (m c : Nat) (hm : x.length = m) : Sem.run Tryz.prog (convert 65 9 (.slice (some ⟨g, 0, none⟩) m c)) w = .ok (.string (S x)) w := by
  subst hm
  have := run_convert_bytes_arg (P := Tryz.prog) (w := w) 65 5 und27 (by kernel_rfl) g 0 x.length c (x.map fun n : Nat => (n : Int)) (by simp) (fun i hi => by
    rw [h i _ (U8_get hi)]
    simp [hi]) 9 und9
  rw [this]
  simp [strOfNums, S]
def zs (n : Nat) : Nat := (119 - n % 64) % 64
theorem zs_lt (n : Nat) : zs n < 64 := Nat.mod_lt _ (by omega)
theorem zs_at (n k : Nat) (h : k ≤ zs n) : ((n + 1 + k) % 64 = 56 ↔ k = zs n) := by
  unfold zs at *
  omega
def padded (l : List Nat) (k : Nat) : List Nat := l ++ 128 :: List.replicate k 0
theorem padded_length (l : List Nat) (k : Nat) : (padded l k).length = l.length + 1 + k := by simp [padded]; omega
theorem padded_succ (l : List Nat) (k : Nat) : padded l k ++ [0] = padded l (k + 1) := by
  unfold padded
  rw [List.append_assoc, List.cons_append, ← List.replicate_succ']
theorem be8_step (x t : Nat) (ht : t < 8) : (Sha.be8 x).take (7 - t) ++ [x / 2 ^ (8 * t) % 256] = (Sha.be8 x).take (8 - t) := by
  have h : t = 0 ∨ t = 1 ∨ t = 2 ∨ t = 3 ∨ t = 4 ∨ t = 5 ∨ t = 6 ∨ t = 7 := by omega
  rcases h with rfl | rfl | rfl | rfl | rfl | rfl | rfl | rfl <;> simp [Sha.be8]
/-- The bytes with the first of the ending's last eight. -/
def ended (l : List Nat) (m : Nat) : List Nat := padded l (zs l.length) ++ (Sha.be8 (8 * l.length)).take (8 - m)
theorem ended_length (l : List Nat) (m : Nat) : (ended l m).length = l.length + 1 + zs l.length + (8 - m) := by
  unfold ended
  rw [List.length_append, padded_length, List.length_take]
  simp [Sha.be8]
theorem ended_step (l : List Nat) (t : Nat) (ht : t < 8) : ended l (t + 1) ++ [8 * l.length / 2 ^ (8 * t) % 256] = ended l t := by
  unfold ended
  rw [List.append_assoc, show 8 - (t + 1) = 7 - t by omega, be8_step _ _ ht]
theorem ended_all (l : List Nat) : ended l 0 = l ++ Sha.ending l.length := by
  unfold ended padded Sha.ending zs
  simp [Sha.be8]
set_option maxRecDepth 100000 in
set_option maxHeartbeats 1000000 in
theorem of_pad (N R : Act → World → Prop) (X : Nat → Act → World → Prop) (s : ByteArray) (v : Value) (w0 w : World) (a : Act) (hs : s.size ≤ 1000) (hS : Sees 304 [(3, v), (0, .string s)] a) (hO : OwnB w0.heap.size w v (padded (bl s) 0)) (hB : Below w0.heap.size w0 w)
    (h : ∀ a' w' v', Sees 304 [(3, v'), (0, .string s)] a' → OwnB w0.heap.size w' v' (ended (bl s) 8) → Below w0.heap.size w0 w' → N a' w') :
    (ofBlk 0).wp Tryz.prog (Qx N X R) a w := by
  have hbl := bl_length s
  have hzl := zs_lt s.size
  refine qx_for (fun m a w => ∃ k v, k ≤ zs s.size ∧ m = zs s.size - k ∧ Sees 304 [(3, v), (0, .string s)] a ∧ OwnB w0.heap.size w v (padded (bl s) k) ∧ Below w0.heap.size w0 w) (zs s.size) ⟨0, v, by omega, rfl, hS, hO, hB⟩ ?_
  rintro m a w ⟨k, v, hk, rfl, hS, hO, hB⟩
  obtain ⟨g, cap, rfl, _⟩ := hO.cell
  have hlen : (padded (bl s) k).length = s.size + 1 + k := by rw [padded_length, hbl]
  have hz := zs_at s.size k hk
  refine reg_seq ?_
  refine seq_is hS (by decide) (runs_move rfl) (fun a1 hS => ?_)
  refine seq_is hS (by decide) (runs_len rfl undBytes) (fun a1 hS => ?_)
  refine seq_is hS (by decide) (runs_rem rfl rfl (by decide) (rem64 _ 64 64 rfl)) (fun a1 hS => ?_)
  refine seq_is hS (by decide) (runs_neq rfl rfl rfl) (fun a1 hS => ?_)
  refine nil_ok ⟨_, hS.eval rfl, fun hf => ?_, fun htr => ?_⟩
  · have hkz : k = zs s.size := by
      apply hz.1
      have : (((padded (bl s) k).length % 64 : Nat) : Int) = 56 := by simpa using hf
      omega
    refine h a1 w _ (hS.only _ ⟨rfl, rfl, trivial⟩) ?_ hB
    have : ended (bl s) 8 = padded (bl s) k := by unfold ended; rw [hbl, ← hkz]; simp
    rw [this]; exact hO
  · have hkz : k ≠ zs s.size := fun e => by
      have := hz.2 e
      rw [hlen, this] at htr
      simp at htr
    refine qx_block (reg_seq ?_)
    obtain ⟨i0, hi, hz0, hzs, hzb⟩ := info_parts info5b
    refine seq_is hS (by decide) (runs_move rfl) (fun a1 hS => ?_)
    refine seq_op hS (by decide) (runs_buildSlice (pv := [(0, .int .u8 0)]) rfl undBytes hi hz0 hzs (by omega) (by omega) (cells := #[.int .u8 0]) (by kernel_rfl)) (fun v w1 a1 hp hS => ?_)
    obtain ⟨rfl, rfl⟩ := hp
    refine seq_op hS (by decide) (runs_append_byte rfl (hO.kept ((Below.refl w.heap.size w).alloc (Nat.le_refl _) _)) 0 rfl ((Has.new w 5 [.int .u8 0]).cell 0) (by rw [hlen]; omega) (by have := hB.size; simp; omega)) (fun v w2 a1 hp hS => ?_)
    obtain ⟨hO2, hb2⟩ := hp
    rw [padded_succ] at hO2
    refine seq_is hS (by decide) (runs_assign rfl) (fun a1 hS => ?_)
    exact nil_ok ⟨zs s.size - (k + 1), by omega, k + 1, v, by omega, rfl, hS.only _ ⟨rfl, rfl, trivial⟩, hO2, (hB.alloc hB.size _).trans hb2⟩
set_option maxRecDepth 100000 in
set_option maxHeartbeats 1000000 in
theorem of_bits (N R : Act → World → Prop) (X : Nat → Act → World → Prop) (s : ByteArray) (v : Value) (w0 w : World) (a : Act) (hs : s.size ≤ 1000) (hS : Sees 304 [(3, v), (4, .int .u64 ((8 * s.size : Nat) : Int)), (5, .int .i64 7)] a) (hO : OwnB w0.heap.size w v (ended (bl s) 8)) (hB : Below w0.heap.size w0 w)
    (h : ∀ a' w' v', Sees 304 [(3, v')] a' → OwnB w0.heap.size w' v' (bl s ++ Sha.ending s.size) → Below w0.heap.size w0 w' → N a' w') :
    (ofBlk 2).wp Tryz.prog (Qx N X R) a w := by
  have hbl := bl_length s
  have hzl := zs_lt s.size
  refine qx_for (fun m a w => ∃ k v, k ≤ 8 ∧ m = k ∧ Sees 304 [(3, v), (4, .int .u64 ((8 * s.size : Nat) : Int)), (5, .int .i64 ((k : Int) - 1))] a ∧ OwnB w0.heap.size w v (ended (bl s) k) ∧ Below w0.heap.size w0 w) 8 ⟨8, v, by omega, rfl, by rw [show ((8 : Nat) : Int) - 1 = 7 from rfl]; exact hS, hO, hB⟩ ?_
  rintro m a w ⟨k, v, hk, hmk, hS, hO, hB⟩
  refine reg_seq ?_
  refine seq_is hS (by decide) (runs_move rfl) (fun a1 hS => ?_)
  refine seq_is hS (by decide) (runs_geq rfl rfl rfl) (fun a1 hS => ?_)
  refine nil_ok ⟨_, hS.eval rfl, fun hf => ?_, fun htr => ?_⟩
  · have : k = 0 := by simp at hf; omega
    subst this
    rw [ended_all, hbl] at hO
    exact h a1 w v (hS.only _ ⟨rfl, trivial⟩) hO hB
  · obtain ⟨t, rfl⟩ : ∃ t, k = t + 1 := ⟨k - 1, by simp at htr; omega⟩
    have hlen := ended_length (bl s) (t + 1)
    have hst := ended_step (bl s) t (by omega)
    rw [hbl] at hst hlen
    have hle := Nat.div_le_self (8 * s.size) (2 ^ (8 * t))
    have hp0 : 0 < 2 ^ (8 * t) := Nat.pow_pos (by omega)
    refine qx_seq (qx_block (reg_seq ?_))
    refine seq_is hS (by decide) (runs_move rfl) (fun a1 hS => ?_)
    refine seq_is hS (by decide) (runs_move rfl) (fun a1 hS => ?_)
    refine seq_is hS (by decide) (runs_move rfl) (fun a1 hS => ?_)
    refine seq_is hS (by decide) (runs_mul rfl rfl ((IntWalk.i64_in _ (by omega)).trans (show _ = ((8 * t : Nat) : Int) by omega))) (fun a1 hS => ?_)
    refine seq_is hS (by decide) (two_run (8 * t) rfl rfl (by omega)) (fun a1 hS => ?_)
    generalize 2 ^ (8 * t) = p at *
    refine seq_is hS (by decide) (runs_quo rfl rfl (by omega) (quo64 (8 * s.size) p p rfl (by omega))) (fun a1 hS => ?_)
    refine seq_is hS (by decide) (runs_rem rfl rfl (by decide) (rem64 (8 * s.size / p) 256 256 rfl)) (fun a1 hS => ?_)
    refine seq_is hS (by decide) (runs_convInt rfl rfl undByte (IntWalk.u8_in _ (by omega))) (fun a1 hS => ?_)
    generalize 8 * s.size / p % 256 = r at *
    obtain ⟨i0, hi, hz0, hzs, hzb⟩ := info_parts info5b
    refine seq_op hS (by decide) (runs_buildSlice (pv := [(0, .int .u8 (r : Int))]) rfl undBytes hi hz0 hzs (by omega) (by omega) (cells := #[.int .u8 (r : Int)]) (by kernel_rfl)) (fun v w1 a1 hp hS => ?_)
    obtain ⟨rfl, rfl⟩ := hp
    refine seq_op hS (by decide) (runs_append_byte rfl (hO.kept ((Below.refl w.heap.size w).alloc (Nat.le_refl _) _)) r rfl ((Has.new w 5 [.int .u8 (r : Int)]).cell 0) (by omega) (by have := hB.size; simp; omega)) (fun v w2 a1 hp hS => ?_)
    obtain ⟨hO2, hb2⟩ := hp
    rw [hst] at hO2
    refine seq_is hS (by decide) (runs_assign rfl) (fun a1 hS => ?_)
    refine nil_ok (reg_seq ?_)
    refine seq_is hS (by decide) (runs_move rfl) (fun a1 hS => ?_)
    refine seq_is hS (by decide) (runs_sub rfl rfl ((IntWalk.i64_in _ (by omega)).trans (show _ = (t : Int) - 1 by omega))) (fun a1 hS => ?_)
    refine seq_is hS (by decide) (runs_assign rfl) (fun a1 hS => ?_)
    exact nil_ok ⟨t, by omega, t, v, by omega, rfl, hS.only _ ⟨rfl, rfl, rfl, trivial⟩, hO2, (hB.alloc hB.size _).trans hb2⟩
set_option maxRecDepth 100000 in
set_option maxHeartbeats 1000000 in
theorem refof_any (s : ByteArray) (w : World) (hs : s.size ≤ 1000) : Calls Tryz.prog 63 #[.string s] w fun e w' => e = .returned (.string (S (Sha.sha (bl s)))) ∧ Below w.heap.size w w' := by
  obtain ⟨W1, c1, hcv, hz1, hB1, hO1⟩ := conv_own w s (by unfold maxLen; omega)
  obtain ⟨i5, hi5, hz5, hzs5, hzb5⟩ := info_parts info5b
  obtain ⟨i0, hi, hz0, hzs, hzb⟩ := info_parts infU64b
  have hbl := bl_length s
  refine calls_qx (args := [.string s]) 304 Tryz.func63 rfl (by kernel_rfl) (by simp) (fun a hS => ?_)
  refine qx_seq (reg_seq ?_)
  refine seq_is hS (by decide) (runs_assign rfl) (fun a1 hS => ?_)
  refine nil_ok (qx_seq (reg_seq ?_))
  refine seq_is hS (by decide) (runs_move rfl) (fun a1 hS => ?_)
  refine seq_is hS (by decide) (runs_conv rfl hcv) (fun a1 hS => ?_)
  refine seq_op hS (by decide) (runs_buildSlice (pv := [(0, .int .u8 128)]) rfl undBytes hi5 hz5 hzs5 (by omega) (by omega) (cells := #[.int .u8 128]) (by kernel_rfl)) (fun v w1 a1 hp hS => ?_)
  obtain ⟨rfl, rfl⟩ := hp
  refine seq_op hS (by decide) (runs_append_byte rfl (hO1.kept ((Below.refl W1.heap.size W1).alloc (Nat.le_refl _) _)) 128 rfl ((Has.new W1 5 [.int .u8 128]).cell 0) (by rw [hbl]; omega) (by simp; omega)) (fun v w2 a1 hp hS => ?_)
  obtain ⟨hO2, hb2⟩ := hp
  refine seq_is hS (by decide) (runs_assign rfl) (fun a1 hS => ?_)
  have hB2 : Below w.heap.size w w2 := (hB1.alloc (by omega) _).trans (hb2.mono (by simp))
  refine nil_ok (qx_seq ?_)
  refine of_pad _ _ _ s v w w2 a1 hs (hS.only _ ⟨rfl, rfl, trivial⟩) hO2 hB2 ?_
  intro a3 w3 v3 hS hO3 hB3
  refine qx_seq (reg_seq ?_)
  refine seq_is hS (by decide) (runs_move rfl) (fun a1 hS => ?_)
  refine seq_is hS (by decide) (runs_lens rfl und9) (fun a1 hS => ?_)
  refine seq_is hS (by decide) (runs_mul rfl rfl ((IntWalk.i64_in _ (by omega)).trans (show _ = ((8 * s.size : Nat) : Int) by omega))) (fun a1 hS => ?_)
  refine seq_is hS (by decide) (runs_convInt rfl rfl undU64 (IntWalk.u64_in _ (by omega))) (fun a1 hS => ?_)
  refine seq_is hS (by decide) (runs_assign rfl) (fun a1 hS => ?_)
  refine nil_ok (qx_seq (qx_seq (reg_seq ?_)))
  refine seq_is hS (by decide) (runs_assign rfl) (fun a1 hS => ?_)
  refine nil_ok ?_
  refine of_bits _ _ _ s v3 w w3 a1 hs (hS.only _ ⟨rfl, rfl, rfl, trivial⟩) hO3 hB3 ?_
  intro a4 w4 v4 hS hO4 hB4
  obtain ⟨g2, cap2, rfl, hg2b, hg2, hM4, hmc, hcm⟩ := hO4.cell
  have hby : Sha.Bytes (bl s ++ Sha.ending s.size) := bytes_ending (bl_bytes s) _
  have hln : (bl s ++ Sha.ending s.size).length = s.size + 1 + zs s.size + 8 := by
    have := ended_length (bl s) 0
    rw [ended_all, hbl] at this
    omega
  have hzz := zs_at s.size (zs s.size) (Nat.le_refl _)
  have hzl := zs_lt s.size
  obtain ⟨nb, hnb⟩ : ∃ nb, (bl s ++ Sha.ending s.size).length = 64 * nb := ⟨(s.size + 1 + zs s.size + 8) / 64, by omega⟩
  have hrun : Sha.sha (bl s) = (Sha.run nb Sha.init (bl s ++ Sha.ending s.size)).list.flatMap Sha.be4 := by
    unfold Sha.sha
    rw [hbl, hnb, show 64 * nb / 64 = nb by omega]
    rfl
  rw [hrun]
  generalize bl s ++ Sha.ending s.size = M at *
  refine qx_seq (reg_seq ?_)
  refine seq_op hS (by decide) (runs_call (args := []) (Post := fun v w' => v = .slice (some ⟨w4.heap.size, 0, none⟩) 64 64 ∧ w' = w4.alloc (.cells (U64 Sha.K).toArray tyU64)) goesConstants rfl ((constants_any w4).mono (by rintro e w' ⟨rfl, rfl⟩; exact ⟨_, rfl, rfl, rfl⟩))) (fun v w5 a5 hp hS => ?_)
  obtain ⟨rfl, rfl⟩ := hp
  refine seq_is hS (by decide) (runs_assign rfl) (fun a1 hS => ?_)
  refine nil_ok (qx_seq (reg_seq ?_))
  have hK5 := (Has.new w4 tyU64 (U64 Sha.K))
  have hB5 : Below w4.heap.size w4 (w4.alloc (.cells (U64 Sha.K).toArray tyU64)) := (Below.refl _ _).alloc (Nat.le_refl _) _
  have hsz5 : (w4.alloc (.cells (U64 Sha.K).toArray tyU64)).heap.size = w4.heap.size + 1 := by simp
  generalize w4.alloc (.cells (U64 Sha.K).toArray tyU64) = w5 at *
  refine seq_op hS (by decide) (runs_buildSlice (pv := [(0, .int .u64 1779033703), (1, .int .u64 3144134277), (2, .int .u64 1013904242), (3, .int .u64 2773480762), (4, .int .u64 1359893119), (5, .int .u64 2600822924), (6, .int .u64 528734635), (7, .int .u64 1541459225)]) rfl undU64s hi hz0 hzs (by omega) (by omega) (cells := (U64 Sha.init.list).toArray) (by kernel_rfl)) (fun v w6 a6 hp hS => ?_)
  obtain ⟨rfl, rfl⟩ := hp
  refine seq_is hS (by decide) (runs_assign rfl) (fun a1 hS => ?_)
  refine nil_ok (qx_seq (qx_seq (reg_seq ?_)))
  refine seq_is hS (by decide) (runs_assign rfl) (fun a1 hS => ?_)
  refine nil_ok ?_
  have hH6 := Has.new w5 tyU64 (U64 Sha.init.list)
  have hB6 : Below w5.heap.size w5 (w5.alloc (.cells (U64 Sha.init.list).toArray tyU64)) := (Below.refl _ _).alloc (Nat.le_refl _) _
  have hsz6 : (w5.alloc (.cells (U64 Sha.init.list).toArray tyU64)).heap.size = w5.heap.size + 1 := by simp
  have hwB6 : Below w.heap.size w (w5.alloc (.cells (U64 Sha.init.list).toArray tyU64)) := (hB4.trans (hB5.mono hB4.size)).trans (hB6.mono (by have := hB4.size; omega))
  have hK6 : (w5.alloc (.cells (U64 Sha.init.list).toArray tyU64)).rangeAt w4.heap.size 0 (U64 Sha.K) := by
    have := (hK5.below hB6 (by omega)).range 0 (U64 Sha.K).length
    rwa [List.drop_zero, List.take_length] at this
  generalize w5.alloc (.cells (U64 Sha.init.list).toArray tyU64) = w6 at *
  refine of_blocks _ _ _ M nb g2 w4.heap.size w5.heap.size M.length cap2 w6 a1 rfl hnb hmc (by omega) hby (by omega) (by omega) (by omega) (by omega) (hS.only _ ⟨rfl, rfl, rfl, rfl, trivial⟩) (range_below (range_below hM4 hB5 hg2) hB6 (by omega)) hK6 hH6 ?_
  intro a7 w7 hG7 hS hh7
  have hwB7 : Below w.heap.size w w7 := below_grown hwB6 hG7 (fun g hg => by injection hg with hg; have := hB4.size; omega) hwB6.size
  have hok : (Sha.run nb Sha.init M).Ok := Sha.run_ok nb Sha.init_ok
  generalize Sha.run nb Sha.init M = st at *
  refine qx_seq (reg_seq ?_)
  refine seq_op hS (by decide) (runs_buildNone undBytes hi5) (fun v w8 a8 hp hS => ?_)
  obtain ⟨rfl, rfl⟩ := hp
  refine seq_is hS (by decide) (runs_assign rfl) (fun a1 hS => ?_)
  refine nil_ok (qx_seq (qx_seq (reg_seq ?_)))
  refine seq_is hS (by decide) (runs_assign rfl) (fun a1 hS => ?_)
  refine nil_ok ?_
  have hall : ∀ i, st.list.getD i 0 < 4294967296 := fun i => by
    have h : i = 0 ∨ i = 1 ∨ i = 2 ∨ i = 3 ∨ i = 4 ∨ i = 5 ∨ i = 6 ∨ i = 7 ∨ 8 ≤ i := by omega
    rcases h with rfl | rfl | rfl | rfl | rfl | rfl | rfl | rfl | h
    · exact hok.a
    · exact hok.b
    · exact hok.c
    · exact hok.d
    · exact hok.e
    · exact hok.f
    · exact hok.g
    · exact hok.h
    · rw [List.getD_eq_getElem?_getD, List.getElem?_eq_none (by simpa [Sha.St.list] using h)]; simp
  refine of_out _ _ _ st.list w5.heap.size _ w7 _ a1 rfl hall (by simp) hh7.lt (hS.only _ ⟨rfl, rfl, rfl, trivial⟩) hh7 (World.ownsRow_made w7 #[] 0 (Nat.le_refl _) (by unfold maxLen; omega) rfl) ((Below.refl _ _).alloc (Nat.le_refl _) _) ?_
  intro a9 w9 v9 hne9 hS hown9 hB9
  obtain ⟨g9, c9, rfl, _, _, _, _, hr9⟩ := own_form hown9 hne9
  refine qx_seq (reg_seq ?_)
  refine seq_is hS (by decide) (runs_move rfl) (fun a1 hS => ?_)
  refine seq_is hS (by decide) (runs_conv rfl (conv_range hr9 32 c9 (be4_length _))) (fun a1 hS => ?_)
  refine seq_is hS (by decide) (runs_assign rfl) (fun a1 hS => ?_)
  refine nil_ok (qx_ret ?_)
  exact ret1 (t := 2) (by kernel_rfl) hS rfl ⟨rfl, hwB7.trans (hB9.mono hwB7.size)⟩
end Go.Proofs.YtooeahpkhocaeaaGreatDoor
/- The walk of TreeTwo, and Few. Conditions: the table of constants lies as it was laid. -/
namespace Go.Proofs.YtooeahpkhocaeaaGreatDoor
open Go.RowKit
set_option maxRecDepth 100000

section
variable {P : Program} {L : List (Nat × Value)} {w : World} {ty : TypeId}
/-- x[:k] -/
theorem runs_sliceTo {t e : TypeId} {x hi : Operand} {g o' m c k : Nat} {i : Int} (hx : vals L x = some (.slice (some ⟨g, o', none⟩) m c)) (hhi : vals L hi = some (.int .i64 i)) (hi' : i = (k : Int)) (hu : P.underlying t = some (.slice e)) (hs : (P.info? e).isSome = true) (hkc : k ≤ c) :
    Runs P (.slice t x none (some hi) none) ty L w (Is (.slice (some ⟨g, o', none⟩) k c) w) := fun o a K Q ho _ hL hK => by
  have ex := hL x (by simp [Op.operands]) _ hx
  have eh := hL hi (by simp [Op.operands]) _ hhi
  subst hi'
  obtain ⟨ie, hie⟩ := Option.isSome_iff_exists.1 hs
  have hadd : (⟨g, o', none⟩ : Addr).add 0 = ⟨g, o', none⟩ := rfl
  unfold Oper.wp
  have : (execOp a.eval o).run P w = .ok (.value (.slice (some ⟨g, o', none⟩) k c)) w := by
    simp [execOp, ho, ex, eh, Instr.sliceAt, run_underlying hu, Instr.slice, Instr.sliceBounds, Instr.sliceBound, asIntOf, hkc, sizeOf, typeInfo, hie, hadd]
  rw [this]
  exact hK _ _ ⟨rfl, rfl⟩
/-- x[k:] -/
theorem runs_sliceFrom {t e : TypeId} {x lo : Operand} {g o' m c l : Nat} {i : Int} (hx : vals L x = some (.slice (some ⟨g, o', none⟩) m c)) (hlo : vals L lo = some (.int .i64 i)) (hi' : i = (l : Int)) (hu : P.underlying t = some (.slice e)) (hs : (P.info? e).map (·.size) = some 1) (hlm : l < m) (hmc : m ≤ c) :
    Runs P (.slice t x (some lo) none none) ty L w (Is (.slice (some ⟨g, o' + l, none⟩) (m - l) (c - l)) w) := fun o a K Q ho _ hL hK => by
  have ex := hL x (by simp [Op.operands]) _ hx
  have el := hL lo (by simp [Op.operands]) _ hlo
  subst hi'
  obtain ⟨ie, hie⟩ : ∃ ie, P.info? e = some ie := by
    cases h : P.info? e with
    | none => rw [h] at hs; cases hs
    | some ie => exact ⟨ie, rfl⟩
  have hsz : ie.size = 1 := by rw [hie] at hs; simpa using hs
  have hadd : (⟨g, o', none⟩ : Addr).add l = ⟨g, o' + l, none⟩ := by unfold Addr.add; split <;> simp_all
  have h3 : ¬ c = l := by omega
  have h4 : l ≤ m := by omega
  have h5 : l ≤ c := by omega
  unfold Oper.wp
  have : (execOp a.eval o).run P w = .ok (.value (.slice (some ⟨g, o' + l, none⟩) (m - l) (c - l))) w := by
    simp [execOp, ho, ex, el, Instr.sliceAt, run_underlying hu, Instr.slice, Instr.sliceBounds, Instr.sliceBound, asIntOf, h4, sizeOf, typeInfo, hie, hsz, h3, hadd]
  rw [this]
  exact hK _ _ ⟨rfl, rfl⟩
end
end Go.Proofs.YtooeahpkhocaeaaGreatDoor
