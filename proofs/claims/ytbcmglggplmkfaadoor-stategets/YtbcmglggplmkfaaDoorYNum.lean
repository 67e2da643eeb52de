/- Layer 10: natural and numbers: five numbers, each read by its own function. Conditions: none of our own. -/
import Derived.Test.YtbcmglggplmkfaaDoorJM
import Derived.Test.YtbcmglggplmkfaaDoorJI
import Derived.Test.YtbcmglggplmkfaaDoorYMath
namespace Go.Proofs.YtbcmglggplmkfaaDoor
open Go.RowKit
set_option maxRecDepth 100000

theorem goes14 : Goes Tryd.prog 14 := goes_of Tryd.func14 (by kernel_rfl) rfl
theorem goes33 : Goes Tryd.prog 33 := goes_of Tryd.func33 (by kernel_rfl) rfl
theorem goes34 : Goes Tryd.prog 34 := goes_of Tryd.func34 (by kernel_rfl) rfl
theorem undFn : Tryd.prog.underlying 84 = some (.slice 61) := by kernel_rfl
theorem undI64s : Tryd.prog.underlying 58 = some (.slice 2) := by kernel_rfl
theorem und2n : Tryd.prog.underlying 2 = some (.int .i64) := by kernel_rfl
theorem infI64 : (Tryd.prog.info? 2).map (fun i => (i.zero, i.size, i.bytes)) = some (some (.int .i64 0), 1, 8) := by kernel_rfl
theorem infFn : (Tryd.prog.info? 61).map (fun i => (i.zero, i.size, i.bytes)) = some (some .nilFunc, 1, 8) := by kernel_rfl
theorem s1_2n : (Tryd.prog.info? 2).map (·.size) = some 1 := by kernel_rfl
theorem s1_fn : (Tryd.prog.info? 61).map (·.size) = some 1 := by kernel_rfl
theorem plFn : (match Tryd.prog.underlying 61 with | some (.struct _) => true | some (.array _ _) => true | none => true | _ => false) = false := by kernel_rfl
theorem pl2n : (match Tryd.prog.underlying 2 with | some (.struct _) => true | some (.array _ _) => true | none => true | _ => false) = false := by kernel_rfl
/-- A number of 64 bits as one that may be below 0, by its bits. -/
def sgX (n : Nat) : Int := if n < 9223372036854775808 then (n : Int) else (n : Int) - 18446744073709551616
theorem sgX_small {n : Nat} (h : n < 9223372036854775808) : sgX n = (n : Int) := if_pos h
theorem sgX_wrap {n : Nat} (h : n < 18446744073709551616) : IntKind.i64.wrap (n : Int) = sgX n := by
  unfold sgX
  by_cases h1 : n < 9223372036854775808
  · rw [if_pos h1]; simp [IntKind.wrap, IntKind.bits, IntKind.signed]; omega
  · rw [if_neg h1]; simp [IntKind.wrap, IntKind.bits, IntKind.signed]; omega
/-- How the i-th of the five numbers is read, and what it comes to. -/
def fvX (i : Nat) : Value := if i = 1 ∨ i = 4 then .func (.func 35) #[] #[] else .func (.func 34) #[] #[]
def cvX (i n : Nat) : Int := if i = 1 ∨ i = 4 then Wire.unfold_ n else sgX n
def fvsX : List Value := [fvX 0, fvX 1, fvX 2, fvX 3, fvX 4]
theorem fvsX_at {i : Nat} (h : i < 5) : fvsX[i]? = some (fvX i) := by
  obtain rfl | rfl | rfl | rfl | rfl : i = 0 ∨ i = 1 ∨ i = 2 ∨ i = 3 ∨ i = 4 := by omega
  all_goals rfl
def rowN : Nat → List Nat → List Value
  | _, [] => []
  | k, n :: ns => .int .i64 (cvX k n) :: rowN (k + 1) ns
theorem rowN_snoc : ∀ (k : Nat) (ns : List Nat) (n : Nat), rowN k (ns ++ [n]) = rowN k ns ++ [.int .i64 (cvX (k + ns.length) n)]
  | k, [], n => rfl
  | k, m :: ns, n => by
    simp only [List.cons_append, rowN, List.length_cons, rowN_snoc (k + 1) ns n]
    rw [show k + 1 + ns.length = k + (ns.length + 1) by omega]
theorem rdn_snoc : ∀ (k : Nat) (s : ByteArray) (e : Nat), rdn (k + 1) s e = ((rdn k s e).1 ++ [(numRes (rdn k s e).2.1 (rdn k s e).2.2).1], (numRes (rdn k s e).2.1 (rdn k s e).2.2).2)
  | 0, s, e => rfl
  | k + 1, s, e => by
    have ih := rdn_snoc k (numRes s e).2.1 (numRes s e).2.2
    rw [rdn, ih]
    rfl
theorem rdn_length : ∀ (k : Nat) (s : ByteArray) (e : Nat), (rdn k s e).1.length = k
  | 0, _, _ => rfl
  | k + 1, s, e => by simp [rdn, rdn_length k]
theorem num64r (s : ByteArray) (e : Nat) : (numRes s e).1 < 18446744073709551616 := num_in64 s e
theorem fr_but {w w' : World} {b : Nat} (h : Fr b nul w w') : But (fun i => i = b) w w' := ⟨h.os, h.tape, h.output, h.size, fun k hk hn => h.block k hk hn (by simp [nul, Value.ownBlock])⟩
/-- A reader's turn: what it holds behind it, and that nothing else has turned. -/
def Rdd (w : World) (b : Nat) (s : ByteArray) (e : Nat) (w' : World) : Prop := In w' b s e ∧ But (fun i => i = b) w w'
theorem rdd_num {b e : Nat} {w : World} {s : ByteArray} (h : In w b s e) : Ans 54 [.pointer (some ⟨b, 0, none⟩)] w (fun u w' => u = .int .u64 ((numRes s e).1 : Int) ∧ Rdd w b (numRes s e).2.1 (numRes s e).2.2 w') :=
  (inNum_any b s e w h).mono (by rintro x w' ⟨rfl, k⟩; exact ⟨_, rfl, rfl, k.1, fr_but k.2⟩)
theorem rdd_int {b e : Nat} {w : World} {s : ByteArray} (h : In w b s e) : Ans 35 [.pointer (some ⟨b, 0, none⟩)] w (fun u w' => u = .int .i64 (Wire.unfold_ (numRes s e).1) ∧ Rdd w b (numRes s e).2.1 (numRes s e).2.2 w') :=
  (inInt_any b s e w h).mono (by rintro x w' ⟨rfl, k⟩; exact ⟨_, rfl, rfl, k.1, fr_but k.2⟩)
theorem rdd_end {b e : Nat} {w : World} {s : ByteArray} (h : In w b s e) : Ans 53 [.pointer (some ⟨b, 0, none⟩)] w (Is (.int .i64 (endOf s e : Int)) w) :=
  (end_anyw b s e w h).mono (by rintro x w' ⟨rfl, rfl⟩; exact ⟨_, rfl, rfl, rfl⟩)
set_option maxHeartbeats 1000000 in
theorem natural_any {b e : Nat} {w : World} {s : ByteArray} (h : In w b s e) : Ans 34 [.pointer (some ⟨b, 0, none⟩)] w (fun u w' => u = .int .i64 (sgX (numRes s e).1) ∧ Rdd w b (numRes s e).2.1 (numRes s e).2.2 w') := by
  refine calls_qx (args := [.pointer (some ⟨b, 0, none⟩)]) 6 Tryd.func34 rfl (by kernel_rfl) (by simp) (fun a hS => ?_)
  refine qx_seq (reg_seq ?_)
  refine sI hS (runs_assign rfl) fun _ hS => ?_
  refine nil_ok (qx_seq (reg_seq ?_))
  refine sI hS (runs_move rfl) fun _ hS => ?_
  refine seq_op hS (by decide) (runs_call (args := [.pointer (some ⟨b, 0, none⟩)]) goes54 rfl (rdd_num h)) (fun v1 w1 a1 hp hS => ?_)
  obtain ⟨rfl, hD⟩ := hp
  refine sI hS (runs_convInt rfl (by decide) und2n (sgX_wrap (num64r s e))) fun _ hS => ?_
  refine sI hS (runs_assign rfl) fun _ hS => ?_
  exact nil_ok (qx_ret (ret1 (t := 2) (by kernel_rfl) hS rfl ⟨_, rfl, rfl, hD⟩))
section
variable {L : List (Nat × Value)} {w : World} {ty : TypeId}
theorem runs_readX {f x : Operand} {b e i : Nat} {s : ByteArray} {ts : Array TypeId} (hf : vals L f = some (fvX i)) (hx : vals L x = some (.pointer (some ⟨b, 0, none⟩))) (h : In w b s e) :
    Runs Tryd.prog (.call { callee := .value f, args := #[x], argTypes := ts }) ty L w (fun u w' => u = .int .i64 (cvX i (numRes s e).1) ∧ Rdd w b (numRes s e).2.1 (numRes s e).2.2 w') := by
  unfold fvX at hf
  unfold cvX
  by_cases hi : i = 1 ∨ i = 4
  · rw [if_pos hi] at hf ⊢
    exact runs_callv (args := [.pointer (some ⟨b, 0, none⟩)]) (caps := []) goes35 hf (by simp [hx]) (rdd_int h)
  · rw [if_neg hi] at hf ⊢
    exact runs_callv (args := [.pointer (some ⟨b, 0, none⟩)]) (caps := []) goes34 hf (by simp [hx]) (natural_any h)
theorem runs_oneI64 {x : Operand} {n : Int} (hx : vals L x = some (.int .i64 n)) : Runs Tryd.prog (.buildSlice 58 1 #[(0, x)]) ty L w (fun v w' => ∃ g2, v = .slice (some ⟨g2, 0, none⟩) 1 1 ∧ Has w' g2 2 [.int .i64 n] ∧ Below w.heap.size w w') := by
  obtain ⟨i48, hi48, hz48, hs48, hb48⟩ := info_parts infI64
  exact (runs_buildSliceG (sz := 1) (pv := [(0, .int .i64 n)]) (by simp [hx]) undI64s hi48 hz48 hs48 (by omega) (by omega) (cells := #[.int .i64 n]) (by kernel_rfl)).mono (by rintro v w5 ⟨rfl, rfl⟩; exact ⟨_, rfl, Has.new w 2 [.int .i64 n], (Below.refl _ _).alloc (Nat.le_refl _) _⟩)
theorem push_ownI64 {B n g2 : Nat} {s x : Operand} {sv : Value} {xs : List Value} {t : Int} (hs : vals L s = some sv) (hown : w.ownsRow B 2 1 sv n xs) (hx : vals L x = some (.slice (some ⟨g2, 0, none⟩) 1 1)) (hX : Has w g2 2 [.int .i64 t]) (hn : n ≤ 10000) (hB : B ≤ w.heap.size) (hcap : 0 < n ∨ ∀ g m c, sv = .slice (some g) m c → c = 0) :
    Runs Tryd.prog (.call { callee := .builtin .append, args := #[s, x], argTypes := #[58, 58] }) ty L w (fun u w2 => w2.ownsRow B 2 1 u (n + 1) (xs ++ [.int .i64 t]) ∧ KR 2 1 B (xs ++ [.int .i64 t]) w w2) := by
  obtain ⟨i48, hi48, hz48, hs48, hb48⟩ := info_parts infI64
  exact (push_own1 undI64s hi48 hz48 hs48 hb48 rfl (by omega) (by omega) hs hown hx hX rfl (by simp [Value.oneCell']) hn hB hcap).mono (by rintro u w2 ⟨_, h2, h3⟩; exact ⟨h2, h3⟩)
theorem runs_fvsX : Runs Tryd.prog (.buildSlice 84 5 #[(0, .func 34), (1, .func 35), (2, .func 34), (3, .func 34), (4, .func 35)]) ty L w (fun v w' => ∃ g2, v = .slice (some ⟨g2, 0, none⟩) 5 5 ∧ Has w' g2 61 fvsX ∧ Below w.heap.size w w') := by
  obtain ⟨i48, hi48, hz48, hs48, hb48⟩ := info_parts infFn
  exact (runs_buildSliceG (sz := 1) (pv := [(0, fvX 0), (1, fvX 1), (2, fvX 2), (3, fvX 3), (4, fvX 4)]) rfl undFn hi48 hz48 hs48 (by omega) (by omega) (cells := fvsX.toArray) (by kernel_rfl)).mono (by rintro v w5 ⟨rfl, rfl⟩; exact ⟨_, rfl, Has.new w 61 fvsX, (Below.refl _ _).alloc (Nat.le_refl _) _⟩)
end
set_option maxHeartbeats 1000000 in
theorem numbers_any (s : ByteArray) (g : Nat) (w : World) (hF : Has w g 61 fvsX) : Ans 33 [.string s, .slice (some ⟨g, 0, none⟩) 5 5] w (fun u w' => ∃ v, u = .tuple #[v, .int .i64 ((endOf (rdn 5 s 0).2.1 (rdn 5 s 0).2.2 : Nat) : Int)] ∧ w'.ownsRow w.heap.size 2 1 v 5 (rowN 0 (rdn 5 s 0).1) ∧ Below w.heap.size w w') := by
  refine calls_qx (args := [.string s, .slice (some ⟨g, 0, none⟩) 5 5]) 28 Tryd.func33 rfl (by kernel_rfl) (by simp) (fun a hS => ?_)
  have hB := Below.refl w.heap.size w
  have hFb := hF
  refine qx_seq (reg_seq ?_)
  refine sI hS (runs_assign rfl) fun _ hS => ?_
  refine sI hS (runs_assign rfl) fun _ hS => ?_
  refine nil_ok (qx_seq (reg_seq ?_))
  refine sI hS (runs_move rfl) fun _ hS => ?_
  refine seq_op hS (by decide) (runs_call (args := [.string s]) goes52 rfl (rd_new s w)) (fun v1 w1 a1 hp hS => ?_)
  obtain ⟨rfl, hR, hB1⟩ := hp
  have hI := hR.2.2
  have hB := hB.trans (hB1.mono hB.size)
  have hF := hFb.below hB hFb.lt
  refine sI hS (runs_assign rfl) fun _ hS => ?_
  refine nil_ok (qx_seq (reg_seq ?_))
  refine sI hS (runs_assign rfl) fun _ hS => ?_
  refine nil_ok (qx_seq (qx_seq (reg_seq ?_)))
  refine sI hS (runs_move rfl) fun _ hS => ?_
  refine sI hS (runs_len rfl undFn) fun _ hS => ?_
  refine sI hS (runs_move rfl) fun _ hS => ?_
  refine nil_ok (?_)
  refine qx_range (fun mm a w' => ∃ (i : Nat) (ov : Value), i ≤ 5 ∧ mm = 5 - i ∧ Below w.heap.size w w' ∧ w'.ownsRow w.heap.size 2 1 ov i (rowN 0 (rdn i s 0).1) ∧ (i = 0 → ov = .slice none 0 0) ∧ In w' w.heap.size (rdn i s 0).2.1 (rdn i s 0).2.2 ∧ Sees 28 [(14, .int .i64 (i : Int)), (13, .int .i64 5), (12, .slice (some ⟨g, 0, none⟩) 5 5), (7, ov), (6, .pointer (some ⟨w.heap.size, 0, none⟩))] a) 5 ⟨0, _, by omega, by omega, hB, ⟨rfl, .inl ⟨rfl, rfl⟩⟩, (fun _ => rfl), hI, hS.only _ ⟨rfl, rfl, rfl, rfl, rfl, trivial⟩⟩ ?_
  clear hS 
  rintro mm a wl1 ⟨i, ov, hi1, rfl, hBb1, hown, hz, hI, hS⟩
  have hF := hFb.below hBb1 hFb.lt
  have hB := Below.refl wl1.heap.size wl1
  refine reg_seq ?_
  by_cases hlt1 : i < 5
  · skip
    refine sI hS (lssT rfl rfl (by omega)) fun _ hS => ?_
    refine nil_ok ⟨_, hS.eval rfl, fun h => by simp at h, fun _ => ?_⟩
    have hwl : w.heap.size < wl1.heap.size := Has.lt hI
    refine qx_seq (qx_block (qx_seq (reg_seq ?_)))
    refine sI hS (runs_indexAddrG (j := i) rfl rfl undFn s1_fn rfl hlt1) fun _ hS => ?_
    refine sI hS (runs_load rfl plFn (by rw [show 0 + i * 1 = i by omega]; exact hF.at (fvsX_at hlt1))) fun _ hS => ?_
    refine sI hS (runs_assign rfl) fun _ hS => ?_
    refine nil_ok (reg_seq ?_)
    refine sI hS (runs_move rfl) fun _ hS => ?_
    refine sI hS (runs_move rfl) fun _ hS => ?_
    refine sI hS (runs_move rfl) fun _ hS => ?_
    have hIo := hI
    refine seq_op hS (by decide) (runs_readX (i := i) rfl rfl hI) (fun v3 w3 a1 hp hS => ?_)
    obtain ⟨rfl, hI, hU3⟩ := hp
    have hown := owns_but hown hU3 (fun i old ho e => by subst e; exact has_ne ho hIo (by decide) rfl)
    have hB := But.new hBb1 hU3 (fun i e => by rw [e]; exact Nat.le_refl _) (Nat.le_refl _)
    refine seq_op hS (by decide) (runs_oneI64 rfl) (fun v4 w4 a1 hp hS => ?_)
    obtain ⟨g2, rfl, hX, hB4⟩ := hp
    have hown := owns_kept hown hB4
    have hI := Has.below hI hB4 (Has.lt hI)
    have hB := hB.trans (hB4.mono hB.size)
    refine seq_op hS (by decide) (push_ownI64 (B := w.heap.size) rfl hown rfl hX (by omega) hB.size ((Nat.eq_zero_or_pos i).elim (fun h => .inr (fun g m c e => by rw [hz h] at e; cases e)) .inl)) (fun v5 w5 a1 hp hS => ?_)
    obtain ⟨hown, hK5⟩ := hp
    have hI := hK5.2.2.1 _ _ _ (by decide) hI
    have hB := hB.trans hK5.1
    refine sI hS (runs_assign rfl) fun _ hS => ?_
    refine nil_ok (reg_seq ?_)
    refine sI hS (runs_add (r := ((i + 1 : Nat) : Int)) rfl rfl (by simp [IntKind.wrap, IntKind.bits, IntKind.signed]; omega)) fun _ hS => ?_
    refine sI hS (runs_move rfl) fun _ hS => ?_
    exact nil_ok ⟨_, by omega, i + 1, v5, by omega, rfl, hB, by rw [rdn_snoc, rowN_snoc, rdn_length, Nat.zero_add]; exact hown, (fun h => by omega), by rw [rdn_snoc]; exact hI, hS.only _ ⟨rfl, rfl, rfl, rfl, rfl, trivial⟩⟩
  refine sI hS (lssF rfl rfl (by omega)) fun _ hS => ?_
  obtain rfl : i = 5 := by omega
  refine nil_ok ⟨_, hS.eval rfl, fun _ => ?_, fun h => by simp at h⟩
  have hB := hBb1
  refine qx_seq (reg_seq ?_)
  refine sI hS (runs_move rfl) fun _ hS => ?_
  refine sI hS (runs_move rfl) fun _ hS => ?_
  refine sI hS (runs_call (args := [.pointer (some ⟨w.heap.size, 0, none⟩)]) goes53 rfl (rdd_end hI)) fun _ hS => ?_
  refine sI hS (runs_assign rfl) fun _ hS => ?_
  refine sI hS (runs_assign rfl) fun _ hS => ?_
  exact nil_ok (qx_ret (ret2 (t := 4) (u := 5) (by kernel_rfl) hS rfl rfl ⟨_, rfl, _, rfl, hown, hB⟩))
end Go.Proofs.YtbcmglggplmkfaaDoor
