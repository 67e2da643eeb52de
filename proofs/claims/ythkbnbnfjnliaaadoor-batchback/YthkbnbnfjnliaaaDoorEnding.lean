/- The contract of hash.ending: what stands behind so many bytes. Conditions: fewer than 2 to the 60 bytes. -/
import Derived.Test.YthkbnbnfjnliaaaDoorWords
namespace Go.Proofs.YthkbnbnfjnliaaaDoor
open Go.RowKit

theorem und27 : Tryd.prog.underlying 71 = some (.slice 5) := by kernel_rfl
theorem info5' : (Tryd.prog.info? 5).map (fun i => (i.zero, i.size, i.bytes)) = some (some (.int .u8 0), 1, 1) := by kernel_rfl
theorem info5 : ∃ i, Tryd.prog.info? 5 = some i ∧ i.zero = some (.int .u8 0) ∧ i.size = 1 ∧ i.bytes = 1 := by
  have h := info5'
  cases hq : Tryd.prog.info? 5 with
  | none => rw [hq] at h; cases h
  | some i =>
    rw [hq] at h
    simp only [Option.map_some, Option.some.injEq, Prod.mk.injEq] at h
    exact ⟨i, rfl, h.1, h.2.1, h.2.2⟩
theorem below_of_grown {B : Nat} {a w w' : World} {row : Option Nat} (h : Below B a w) (hg : w.grownBy w' row) (hr : ∀ g, row = some g → B ≤ g) (hB : B ≤ w.heap.size) : Below B a w' :=
  ⟨hg.os.trans h.os, hg.tape.trans h.tape, hg.output.trans h.output, Nat.le_trans h.size hg.size, fun i hi => (hg.block i (by omega) (fun e => by have := hr i e.symm; omega)).trans (h.block i hi)⟩
/-- append(s, x...) on []byte, s the call's own. -/
theorem wpList_app8 {ops : Array Oper} {rest : List Oper} {o : Oper} {a : Act} {w : World} {Q : Exit → Act → World → Prop} (hgd : o.guard = none) (s x : Operand)
    (ho : o.op = .call { callee := .builtin .append, args := #[s, x], argTypes := #[71, 71] }) (base : Nat)
    (v : Value) (n : Nat) (xs : List Nat) (hs : a.eval s = v) (hown : w.ownsRow base 5 1 v n (U8 xs))
    (g m c : Nat) (news : List Nat) (hx : a.eval x = .slice (some ⟨g, 0, none⟩) m c) (hl : news.length = m) (hnews : w.rangeAt g 0 (U8 news))
    (h63 : n + m ≤ 16777216) (hbase : base ≤ w.heap.size)
    (h : ∀ v' w', Hid (w'.ownsRow base 5 1 v' (n + m) (U8 (xs ++ news))) → Hid (∀ a, Below base a w → Below base a w') → wpList Tryd.prog ops Q rest (a.put o.dst v') w') : wpList Tryd.prog ops Q (o :: rest) a w := by
  obtain ⟨i5, hi5, hz5, hs5, hb5⟩ := info5
  refine wpList_append_own w hgd s x 71 ho base 5 i5 (.int .u8 0) 1 1 und27 hi5 hz5 hs5 hb5 rfl (by omega) v n _ hs hown ⟨g, 0, none⟩ m c (U8 news) hx (by simp [hl]) (fun j u hu => ?_) (U8_one _) (by unfold maxLen; omega) (by omega) hbase ?_
  · rw [Addr.add_mid]; exact hnews j u hu
  · intro v' w' h1 h2 _
    refine h v' w' (by rw [U8_append]; exact h1) (fun b hb => below_of_grown hb h2 (fun g hg => (hown.lt g hg).1) hbase)
theorem rangeAt_new (w : World) (t : TypeId) (o : Array Value) (g : Nat) (l : List Nat) (ho : o = (U8 l).toArray) (hg : g = w.heap.size) : (w.alloc (.cells o t)).rangeAt g 0 (U8 l) := by
  have := (Has.new' w t (U8 l) o g ho hg).range 0 (U8 l).length
  rw [List.drop_zero, List.take_length] at this
  exact this
theorem be8_get (c k : Nat) (h : k < 8) : (Sha.be8 c).take (k + 1) = (Sha.be8 c).take k ++ [c / 2 ^ (56 - 8 * k) % 256] := by
  match k, h with
  | 0, _ => simp [Sha.be8]
  | 1, _ => simp [Sha.be8]
  | 2, _ => simp [Sha.be8]
  | 3, _ => simp [Sha.be8]
  | 4, _ => simp [Sha.be8]
  | 5, _ => simp [Sha.be8]
  | 6, _ => simp [Sha.be8]
  | 7, _ => simp [Sha.be8]
/-- make([]byte, n, c). -/
theorem make_bytes (w : World) (kl kc : IntKind) (n c : Nat) (h : n ≤ c) (hc : c ≤ 65536) :
    (Instr.makeSlice 71 (.int kl (n : Int)) (.int kc (c : Int))).run Tryd.prog w = .ok (.slice (some ⟨w.heap.size, 0, none⟩) n c) (w.alloc (.cells (U8 (List.replicate c 0)).toArray 5)) := by
  obtain ⟨i, hi, hz, hs, hb⟩ := info5
  have := run_make (P := Tryd.prog) w 71 5 i _ und27 hi hz kl kc n c (by omega) (by omega) (by rw [hb]; omega) (by omega)
  rw [this]
  simp only [Int.toNat_natCast, hs, Nat.mul_one]
  have e : madeCells (Value.int IntKind.u8 0).cells c = (U8 (List.replicate c 0)).toArray := by
    apply Array.ext'
    show (madeCells #[Value.int IntKind.u8 0] c).toList = _
    rw [toList_madeCells_one]
    simp [U8]
  rw [e]

set_option maxRecDepth 100000 in
set_option maxHeartbeats 1000000 in
theorem ending_any (n : Nat) (hn : n < 1152921504606846976) (w : World) :
    Calls Tryd.prog 92 #[.int .u64 (n : Int)] w fun e w' => ∃ v, e = .returned v ∧ w'.ownsRow w.heap.size 5 1 v (Sha.ending n).length (U8 (Sha.ending n)) ∧ Below w.heap.size w w' := by
  obtain ⟨z, hz⟩ : ∃ z, z = (119 - n % 64) % 64 := ⟨_, rfl⟩
  have HN := Lib.hid hn
  have hmk : ∀ W : World, (Instr.makeSlice 71 (.int .u64 (1 + (z : Int))) (.int .u64 (1 + (z : Int) + 8))).run Tryd.prog W = .ok (.slice (some ⟨W.heap.size, 0, none⟩) (1 + z) (1 + z + 8)) (W.alloc (.cells (U8 (List.replicate (1 + z + 8) 0)).toArray 5)) := fun W => by
    have := make_bytes W .u64 .u64 (1 + z) (1 + z + 8) (by omega) (by omega)
    simpa using this
  have e1 : (119 - (n : Int) % 64) % 64 = (z : Int) := by omega
  obtain ⟨c, hc⟩ : ∃ c, c = 8 * n := ⟨_, rfl⟩
  have hw8 : IntKind.u64.wrap (8 * (n : Int)) = (c : Int) := by rw [IntKind.wrap_u64]; omega
  have HC := Lib.hid hc
  have HZ := Lib.hid hz
  clear hz hn hc
  have hz64 : z < 64 := by have := HZ.out; omega
  have h0 : ∀ W, Has W w.heap.size 5 ((U8 (List.replicate (1 + z + 8) 0)).set 0 (Value.int IntKind.u8 128)) → W.ownsRow w.heap.size 5 1 (.slice (some ⟨w.heap.size, 0, none⟩) (1 + z) (1 + z + 8)) (1 + z) (U8 (128 :: List.replicate z 0 ++ (Sha.be8 c).take 0)) := fun W hW => by
    refine ⟨by simp [U8]; omega, .inr ⟨w.heap.size, 1 + z + 8, _, rfl, Nat.le_refl _, hW, by omega, by unfold maxLen; omega, by simp, ?_⟩⟩
    simp only [Nat.mul_one]
    rw [show (1 + z + 8) = (z + 8) + 1 by omega, List.replicate_succ, show 1 + z = z + 1 by omega]
    simp [U8, show min z (z + 8) = z by omega]
  have H0 := Lib.hid h0
  clear h0
  go_enter Tryd.func92, Tryd.ntmps92
  go_wp2
  simp only [e1]
  go_loopw [4, 21] (fun v i V => ∃ k : Nat, k ≤ 8 ∧ i = .int .i64 (k : Int) ∧ V.ownsRow w.heap.size 5 1 v (1 + z + k) (U8 (128 :: List.replicate z 0 ++ (Sha.be8 c).take k)) ∧ Below w.heap.size w V) (fun _ i _ => 8 - (intOf i).toNat)
  case atStart => exact ⟨0, by omega, rfl, H0.out _ (Has.new _ _ _), (Below.refl _ _).alloc (Nat.le_refl _) _⟩
  case round =>
    clear H0 e1 hmk hw8
    obtain ⟨k, hk, rfl, hown, hbel⟩ := hrel
    have HB := Lib.hid hbel
    have HO := Lib.hid hown
    clear hbel hown
    by_cases hlt : k < 8
    · have HV := Lib.hid (be8_get c k hlt)
      obtain ⟨x, hx⟩ : ∃ x : Nat, x = c / 2 ^ (56 - 8 * k) % 256 := ⟨_, rfl⟩
      have hxe : (c : Int) / 2 ^ (56 - 8 * k) % 256 = (x : Int) := by rw [hx]; simp
      have HX := Lib.hid hx
      clear hx
      go_wp2_with (at_builtin; refine wpList_app8 rfl (.tmp 24) (.tmp 31) rfl w.heap.size _ (1 + z + k) _ rfl (HO.out.alloc _) wr.heap.size 1 1 [x] rfl rfl (rangeAt_new _ _ _ _ _ rfl rfl) (by omega) (by have := HB.out.size; simp; omega) ?_; intro v' w' HO' HB'; clear HO)
      refine ⟨⟨k + 1, by omega, by go_num, ?_, HB'.out w (HB.out.alloc (by have := HB.out.size; omega) _)⟩, by simp [intOf]; omega⟩
      rw [HV.out, ← HX.out, ← List.append_assoc]
      exact HO'.out
    · go_wp2
      go_ret
      refine ⟨_, rfl, ?_, HB.out⟩
      have e : Sha.ending n = 128 :: List.replicate z 0 ++ (Sha.be8 c).take k := by
        rw [HZ.out, HC.out, show k = 8 by omega]; rfl
      have el : (Sha.ending n).length = 1 + z + k := by
        rw [e, show k = 8 by omega]; simp [Sha.be8]; omega
      rw [el, e]
      exact HO.out

end Go.Proofs.YthkbnbnfjnliaaaDoor
