/- Layer 11: the program's Get, by what Put answers. Conditions: at most 10000 bytes. -/
import Derived.Test.YthkbnbnfjnliaaaDoorBCheck
import Derived.Test.YthkbnbnfjnliaaaDoorJ35
import Derived.Test.YthkbnbnfjnliaaaDoorYBTaken
namespace Go.Proofs.YthkbnbnfjnliaaaDoor
open Go.RowKit
set_option maxRecDepth 100000

theorem goes12 : Goes Tryd.prog 12 := goes_of Tryd.func12 (by kernel_rfl) rfl
theorem goes13 : Goes Tryd.prog 13 := goes_of Tryd.func13 (by kernel_rfl) rfl
theorem goes15 : Goes Tryd.prog 15 := goes_of Tryd.func15 (by kernel_rfl) rfl
theorem goes17 : Goes Tryd.prog 17 := goes_of Tryd.func17 (by kernel_rfl) rfl
theorem goes35 : Goes Tryd.prog 35 := goes_of Tryd.func35 (by kernel_rfl) rfl
theorem undErs : Tryd.prog.underlying 68 = some (.slice 24) := by kernel_rfl
theorem infErn : (Tryd.prog.info? 24).map (fun i => (i.zero, i.size, i.bytes)) = some (some (.int .i64 0), 1, 8) := by kernel_rfl
theorem szErn : (Tryd.prog.info? 24).map (·.size) = some 1 := by kernel_rfl
theorem plErn : (match Tryd.prog.underlying 24 with | some (.struct _) => true | some (.array _ _) => true | none => true | _ => false) = false := by kernel_rfl
theorem pl22 : (match Tryd.prog.underlying 23 with | some (.struct _) => true | some (.array _ _) => true | none => true | _ => false) = false := by kernel_rfl
theorem s1_22 : (Tryd.prog.info? 23).map (·.size) = some 1 := by kernel_rfl
theorem s1_3 : (Tryd.prog.info? 3).map (·.size) = some 1 := by kernel_rfl
theorem s1_2 : (Tryd.prog.info? 2).map (·.size) = some 1 := by kernel_rfl
theorem zo22 : zeroOf Tryd.prog 23 = some (.slice none 0 0) := by kernel_rfl
theorem end_if (cur : ByteArray) (er : Nat) : (if er ≠ 0 then er else endOf cur er) = endOf cur er := by
  unfold endOf
  by_cases h : er = 0
  · rw [if_neg (by simp [h])]
  · rw [if_pos h, if_neg (fun e => h e.1)]
theorem end_more {cur : ByteArray} (hm : endOf cur 0 ≠ 0) : endOf cur 0 = 22 ∧ bl cur ≠ [] := by
  unfold endOf at hm ⊢
  split at hm
  · rename_i h2
    refine ⟨if_pos h2, fun e => ?_⟩
    have h : (bl cur).length = 0 := by rw [e]; rfl
    rw [bl_length] at h
    have := h2.2
    omega
  · exact absurd rfl hm
theorem end_none {cur : ByteArray} (hm : endOf cur 0 = 0) : bl cur = [] := by
  unfold endOf at hm
  split at hm
  · cases hm
  · rename_i h2; exact List.length_eq_zero_iff.1 (by rw [bl_length]; exact Nat.eq_zero_of_not_pos (fun h3 => h2 ⟨rfl, h3⟩))
theorem rdRt_e {l : List Nat} (h : (rdk 3 l).2.2 ≠ 0) : rdRt l = ((0, 0, 0), (rdk 3 l).2.2) := by unfold rdRt; rw [if_pos h]
theorem rdRt_m {l : List Nat} (h : (rdk 3 l).2.2 = 0) (h2 : (rdk 3 l).2.1 ≠ []) : rdRt l = ((0, 0, 0), 22) := by unfold rdRt; rw [if_neg (by simp [h]), if_pos h2]
theorem rdRt_k {l : List Nat} (h : (rdk 3 l).2.2 = 0) (h2 : (rdk 3 l).2.1 = []) : rdRt l = (takenR (rdk 3 l).1, 0) := by unfold rdRt; rw [if_neg (by simp [h]), if_neg (by simp [h2])]
theorem rdn_end3 {s : ByteArray} : (endOf (rdn 3 s 0).2.1 (rdn 3 s 0).2.2 ≠ 0 → rdRt (bl s) = ((0, 0, 0), endOf (rdn 3 s 0).2.1 (rdn 3 s 0).2.2)) ∧ (endOf (rdn 3 s 0).2.1 (rdn 3 s 0).2.2 = 0 → rdRt (bl s) = (takenR (rdn 3 s 0).1, 0)) := by
  obtain ⟨h1, h2⟩ := rdn_rdk 3 s
  by_cases h : (rdk 3 (bl s)).2.2 = 0
  · obtain ⟨a, b, c⟩ := h1 h
    have hl : (bl (rdn 3 s 0).2.1).length = (rdn 3 s 0).2.1.size := bl_length _
    unfold endOf
    rw [c]
    by_cases hz : 0 < (rdn 3 s 0).2.1.size
    · rw [if_pos ⟨rfl, hz⟩]
      refine ⟨fun _ => rdRt_m h (fun e => ?_), fun e => by cases e⟩
      rw [← b] at e; rw [e] at hl; simp at hl; omega
    · rw [if_neg (fun e => hz e.2)]
      refine ⟨fun e => absurd rfl e, fun _ => ?_⟩
      have e : bl (rdn 3 s 0).2.1 = [] := List.length_eq_zero_iff.1 (by omega)
      rw [b] at e
      rw [a]; exact rdRt_k h e
  · have e := h2 h
    have e2 : endOf (rdn 3 s 0).2.1 (rdn 3 s 0).2.2 = (rdk 3 (bl s)).2.2 := by unfold endOf; rw [e, if_neg (fun x => h x.1)]
    rw [e2]
    exact ⟨fun _ => rdRt_e h, fun x => absurd x h⟩
theorem rdRt_snd (s : ByteArray) : (rdRt (bl s)).2 = endOf (rdn 3 s 0).2.1 (rdn 3 s 0).2.2 := by
  by_cases h : endOf (rdn 3 s 0).2.1 (rdn 3 s 0).2.2 = 0
  · rw [rdn_end3.2 h, h]
  · rw [rdn_end3.1 h]
theorem rdRt_fst {s : ByteArray} (h : (rdRt (bl s)).2 = 0) : (rdRt (bl s)).1 = takenR (rdn 3 s 0).1 := by
  rw [rdRt_snd] at h; rw [rdn_end3.2 h]
theorem num64t {s : ByteArray} {x : Nat} {a : Nat × ByteArray × Nat} (h : numRes s x = a) : a.1 < 18446744073709551616 := h ▸ num_in64 s x
/-- What the first number of a batch tells. -/
theorem numRes_f {s cur0 : ByteArray} {nn er : Nat} (h : numRes s 0 = (nn, cur0, er)) : er = (Wire.rd (bl s)).2.2 ∧ (er = 0 → nn = (Wire.rd (bl s)).1 ∧ bl cur0 = (bl s).drop (Wire.rd (bl s)).2.1) ∧ (er ≠ 0 → nn = 0) ∧ nn < 18446744073709551616 ∧ cur0.size ≤ s.size := by
  have h64 := num_in64 s 0
  obtain ⟨h1, h2⟩ := numRes0 s
  rw [h] at h64 h1 h2
  have e : numRes s 0 = numRes s 0 := rfl
  conv at e => lhs; rw [h]
  unfold numRes at e
  rw [if_neg (by simp)] at e
  refine ⟨h1, fun e0 => h2 (h1 ▸ e0), fun e0 => ?_, h64, ?_⟩
  · by_cases hr : (Wire.rd (bl s)).2.2 = 0
    · exact absurd (h1.trans hr) e0
    · rw [if_neg hr] at e; simp only [Prod.mk.injEq] at e; exact e.1
  · by_cases hr : (Wire.rd (bl s)).2.2 = 0
    · have h3 := congrArg List.length (h2 hr).2
      rw [bl_length, List.length_drop, bl_length] at h3; simp only at h3; omega
    · rw [if_neg hr] at e; simp only [Prod.mk.injEq] at e; rw [e.2.1]; exact Nat.le_refl _
/-- What is known of bytes that were read, to their end or to what was wrong. -/
def GotG (s : ByteArray) (r : Nat) (ms : List E) : Prop := (r ≠ 0 ∧ getM (bl s) = ([], r)) ∨ (r = 0 ∧ (Wire.rd (bl s)).2.2 = 0 ∧ ¬ 512 < (Wire.rd (bl s)).1 ∧ rdBt (Wire.rd (bl s)).1 ((bl s).drop (Wire.rd (bl s)).2.1) = (ms, [], 0))
theorem getM_e1t {l : List Nat} (h : (Wire.rd l).2.2 ≠ 0) : getM l = ([], (Wire.rd l).2.2) := by unfold getM; rw [if_pos h]
theorem getM_e2t {l : List Nat} (h : (Wire.rd l).2.2 = 0) (h2 : 512 < (Wire.rd l).1) : getM l = ([], 110) := by unfold getM; rw [if_neg (by simp [h]), if_pos h2]
theorem got_end {s cur0 cur : ByteArray} {nn er : Nat} {ms : List E} (hnr : numRes s 0 = (nn, cur0, er)) (hbig : ¬ 512 < nn) (hall : rdBt nn (bl cur0) = (ms, bl cur, 0)) : GotG s (endOf cur er) ms := by
  obtain ⟨h1, h2, h3, _, _⟩ := numRes_f hnr
  by_cases he : er = 0
  · obtain ⟨h4, h5⟩ := h2 he
    rw [he] at h1 ⊢
    rw [h4, h5] at hall
    rw [h4] at hbig
    by_cases hm : endOf cur 0 = 0
    · rw [end_none hm] at hall; exact .inr ⟨hm, h1.symm, hbig, hall⟩
    · obtain ⟨h6, h7⟩ := end_more hm
      exact .inl ⟨hm, by rw [h6]; exact takenM_more h1.symm hbig hall h7⟩
  · have e : endOf cur er = er := by unfold endOf; rw [if_neg (fun e => he e.1)]
    rw [e]
    exact .inl ⟨he, by rw [h1] at he ⊢; exact getM_e1t he⟩
theorem got_big {s cur0 : ByteArray} {nn er : Nat} (hnr : numRes s 0 = (nn, cur0, er)) (hbig : 512 < nn) : GotG s 110 [] := by
  obtain ⟨h1, h2, h3, _, _⟩ := numRes_f hnr
  have he : er = 0 := Classical.byContradiction (fun e => by have := h3 e; omega)
  exact .inl ⟨by decide, getM_e2t (h1 ▸ he) (by rw [← (h2 he).1]; exact hbig)⟩
theorem got_err {s cur0 cur : ByteArray} {nn er i ee : Nat} {ms ms' : List E} (hnr : numRes s 0 = (nn, cur0, er)) (hbig : ¬ 512 < nn) (hi : i < nn) (h : RdMt nn (bl cur0) i ms (bl cur)) (hee : ee = if (rdT 40 (bl cur)).2.2 ≠ 0 then (rdT 40 (bl cur)).2.2 else (rdRt (rdT 40 (bl cur)).1).2) (h0 : ee ≠ 0) : GotG s ee ms' := by
  obtain ⟨h1, h2, h3, _, _⟩ := numRes_f hnr
  have he : er = 0 := Classical.byContradiction (fun e => by have := h3 e; omega)
  obtain ⟨h4, h5⟩ := h2 he
  refine .inl ⟨h0, takenM_err (h1 ▸ he) (by rw [← h4]; exact hbig) ?_ h0⟩
  rw [← h4, ← h5]
  by_cases ht : (rdT 40 (bl cur)).2.2 = 0
  · rw [if_neg (by simp [ht])] at hee
    rw [hee] at h0 ⊢
    exact h.errR hi ht h0
  · rw [if_pos ht] at hee
    rw [hee]
    exact h.errT hi ht
theorem in_kept {w w' : World} {b e : Nat} {s : ByteArray} (h : In w b s e) (k : Below w.heap.size w w') : In w' b s e := Has.below h k (Has.lt h)
section
variable {L : List (Nat × Value)} {w : World} {ty : TypeId}
theorem runs_twoE {x y : Operand} {p q : Int} (hx : vals L x = some (.int .i64 p)) (hy : vals L y = some (.int .i64 q)) : Runs Tryd.prog (.buildSlice 68 2 #[(0, x), (1, y)]) ty L w (fun v w' => ∃ g2, v = .slice (some ⟨g2, 0, none⟩) 2 2 ∧ Has w' g2 24 [.int .i64 p, .int .i64 q] ∧ Below w.heap.size w w') := by
  obtain ⟨i48, hi48, hz48, hs48, hb48⟩ := info_parts infErn
  exact (runs_buildSliceG (sz := 1) (pv := [(0, .int .i64 p), (1, .int .i64 q)]) (by simp [hx, hy]) undErs hi48 hz48 hs48 (by omega) (by omega) (cells := #[.int .i64 p, .int .i64 q]) (by kernel_rfl)).mono (by rintro v w5 ⟨rfl, rfl⟩; exact ⟨_, rfl, Has.new w 24 [.int .i64 p, .int .i64 q], (Below.refl _ _).alloc (Nat.le_refl _) _⟩)
theorem push_ownMB {B n g2 : Nat} {s x : Operand} {sv : Value} {xs : List Value} {e : E} (hs : vals L s = some sv) (hown : w.ownsRow B 31 3 sv n xs) (hx : vals L x = some (.slice (some ⟨g2, 0, none⟩) 1 1)) (hX : Has w g2 31 (encE e)) (hn : n ≤ 10000) (hB : B ≤ w.heap.size) (hcap : 0 < n ∨ ∀ g m c, sv = .slice (some g) m c → c = 0) :
    Runs Tryd.prog (.call { callee := .builtin .append, args := #[s, x], argTypes := #[23, 23] }) ty L w (fun u w2 => (∃ g3 c3, u = .slice (some ⟨g3, 0, none⟩) (n + 1) c3) ∧ w2.ownsRow B 31 3 u (n + 1) (xs ++ encE e) ∧ KR 31 3 B (xs ++ encE e) w w2) := by
  obtain ⟨i48, hi48, hz48, hs48, hb48⟩ := info_parts inf48
  exact push_own1 und32 hi48 hz48 hs48 hb48 rfl (by omega) (by omega) hs hown hx hX rfl (by simp [encE, Value.oneCell']) hn hB hcap
end
set_option maxHeartbeats 1000000 in
theorem bmsg1_any {b m : Nat} {s : ByteArray} {x0 x1 x2 : Value} {w : World} (hI : In w b s 0) (hM : Has w m 31 [x0, x1, x2]) : Ans 35 [.pointer (some ⟨b, 0, none⟩), .pointer (some ⟨m, 0, none⟩)] w (fun u w' => u = .int .i64 ((rdn 3 s 0).2.2 : Int) ∧ In w' b (rdn 3 s 0).2.1 (rdn 3 s 0).2.2 ∧ Has w' m 31 (encE (takenR (rdn 3 s 0).1)) ∧ But (fun i => i = b ∨ i = m) w w') := by
  refine calls_qx (args := [.pointer (some ⟨b, 0, none⟩), .pointer (some ⟨m, 0, none⟩)]) 17 Tryd.func35 rfl (by kernel_rfl) (by simp) (fun a hS => ?_)
  refine qx_seq (?_)
  have hmb : m ≠ b := has_ne hM hI (by decide)
  have hK := But.refl (fun i => i = b ∨ i = m) w
  refine reg_seq ?_
  refine sI hS (runs_assign rfl) fun _ hS => ?_
  refine nil_ok (qx_seq (reg_seq ?_))
  refine sI hS (runs_move rfl) fun _ hS => ?_
  refine seq_op hS (by decide) (runs_call (args := [.pointer (some ⟨b, 0, none⟩)]) goes14 rfl (rdd_num hI)) (fun v1 w1 a1 hp hS => ?_)
  obtain ⟨rr1, hrr1⟩ : ∃ a, numRes s 0 = a := ⟨_, rfl⟩
  rw [hrr1] at hp
  obtain ⟨rfl, hI, hU1⟩ := hp
  have nrr1 := num64t hrr1
  have hM := hM.but hU1 hmb
  have hK := hK.trans (hU1.mono (fun i e => .inl e))
  refine sI hS (runs_convInt (r := sgX rr1.1) rfl (by decide) und3 (sgX_wrap nrr1)) fun _ hS => ?_
  refine sI hS (runs_fieldK fo41_0 rfl) fun _ hS => ?_
  refine seq_none hS (runs_storeC rfl rfl rfl s1_3 hM rfl) (fun v2 w2 a1 hp hS => ?_)
  obtain ⟨hM, hU2⟩ := hp
  have hI := Has.but hI hU2 (Ne.symm hmb)
  have hK := hK.trans (hU2.mono (fun i e => .inr e))
  refine nil_ok (qx_seq (reg_seq ?_))
  refine sI hS (runs_move rfl) fun _ hS => ?_
  refine seq_op hS (by decide) (runs_call (args := [.pointer (some ⟨b, 0, none⟩)]) goes14 rfl (rdd_num hI)) (fun v3 w3 a1 hp hS => ?_)
  obtain ⟨rr2, hrr2⟩ : ∃ a, numRes rr1.2.1 rr1.2.2 = a := ⟨_, rfl⟩
  rw [hrr2] at hp
  obtain ⟨rfl, hI, hU3⟩ := hp
  have nrr2 := num64t hrr2
  have hM := hM.but hU3 hmb
  have hK := hK.trans (hU3.mono (fun i e => .inl e))
  refine sI hS (runs_convInt (r := sgX rr2.1) rfl (by decide) und3 (sgX_wrap nrr2)) fun _ hS => ?_
  refine sI hS (runs_fieldK fo41_1 rfl) fun _ hS => ?_
  refine seq_none hS (runs_storeC rfl rfl rfl s1_3 hM rfl) (fun v4 w4 a1 hp hS => ?_)
  obtain ⟨hM, hU4⟩ := hp
  have hI := Has.but hI hU4 (Ne.symm hmb)
  have hK := hK.trans (hU4.mono (fun i e => .inr e))
  refine nil_ok (qx_seq (reg_seq ?_))
  refine sI hS (runs_move rfl) fun _ hS => ?_
  refine seq_op hS (by decide) (runs_call (args := [.pointer (some ⟨b, 0, none⟩)]) goes36 rfl (rdd_int hI)) (fun v5 w5 a1 hp hS => ?_)
  obtain ⟨rr3, hrr3⟩ : ∃ a, numRes rr2.2.1 rr2.2.2 = a := ⟨_, rfl⟩
  rw [hrr3] at hp
  obtain ⟨rfl, hI, hU5⟩ := hp
  have nrr3 := num64t hrr3
  have hM := hM.but hU5 hmb
  have hK := hK.trans (hU5.mono (fun i e => .inl e))
  refine sI hS (runs_fieldK fo41_2 rfl) fun _ hS => ?_
  refine seq_none hS (runs_storeC rfl rfl rfl s1_2 hM rfl) (fun v6 w6 a1 hp hS => ?_)
  obtain ⟨hM, hU6⟩ := hp
  have hI := Has.but hI hU6 (Ne.symm hmb)
  have hK := hK.trans (hU6.mono (fun i e => .inr e))
  refine nil_ok (qx_seq (reg_seq ?_))
  refine sI hS (runs_move rfl) fun _ hS => ?_
  refine sI hS (runs_call (args := [.pointer (some ⟨b, 0, none⟩)]) goes18 rfl (rdd_err hI)) fun _ hS => ?_
  refine sI hS (runs_assign rfl) fun _ hS => ?_
  have hrn : rdn 3 s 0 = ([rr1.1, rr2.1, rr3.1], rr3.2.1, rr3.2.2) := by simp only [rdn, hrr1, hrr2, hrr3]
  exact nil_ok (qx_ret (ret1 (t := 3) (by kernel_rfl) hS rfl ⟨_, rfl, by rw [hrn], by rw [hrn]; exact hI, by rw [hrn]; exact hM, hK⟩))
set_option maxHeartbeats 1000000 in
theorem whole_any {F : FuncId} (hg : Goes Tryd.prog F) (cap : Value) (s : ByteArray) (w : World) (P : Nat → ByteArray → Nat → World → Prop) (hc : ∀ w1, In w1 w.heap.size s 0 → Below w.heap.size w w1 → Ans F [.pointer (some ⟨w.heap.size, 0, none⟩), cap] w1 (fun u w2 => ∃ e cur er, u = .int .i64 ((e : Nat) : Int) ∧ In w2 w.heap.size cur er ∧ P e cur er w2)) : Ans 12 [.string s, .func (.func F) #[] #[cap]] w (fun u w' => ∃ e cur er, u = .int .i64 ((if e ≠ 0 then e else endOf cur er : Nat) : Int) ∧ P e cur er w') := by
  refine calls_qx (args := [.string s, .func (.func F) #[] #[cap]]) 17 Tryd.func12 rfl (by kernel_rfl) (by simp) (fun a hS => ?_)
  have hB := Below.refl w.heap.size w
  refine qx_seq (reg_seq ?_)
  refine sI hS (runs_assign rfl) fun _ hS => ?_
  refine nil_ok (qx_seq (reg_seq ?_))
  refine sI hS (runs_move rfl) fun _ hS => ?_
  refine seq_op hS (by decide) (runs_call (args := [.string s]) goes30 rfl (rd_new s w)) (fun v1 w1 a1 hp hS => ?_)
  obtain ⟨rfl, hR, hB1⟩ := hp
  have hI := hR.2.2
  have hB := hB.trans (hB1.mono hB.size)
  refine sI hS (runs_assign rfl) fun _ hS => ?_
  refine nil_ok (qx_seq (qx_seq (reg_seq ?_)))
  refine sI hS (runs_move rfl) fun _ hS => ?_
  refine sI hS (runs_move rfl) fun _ hS => ?_
  refine seq_op hS (by decide) (runs_callv (args := [.pointer (some ⟨w.heap.size, 0, none⟩)]) (caps := [cap]) hg rfl rfl (hc _ hI hB)) (fun v3 w3 a1 hp hS => ?_)
  obtain ⟨e, cur, er, rfl, hI, hP⟩ := hp
  refine sI hS (runs_assign rfl) fun _ hS => ?_
  refine nil_ok (qx_seq (reg_seq ?_))
  refine sI hS (runs_move rfl) fun _ hS => ?_
  by_cases he : e ≠ 0
  · skip
    refine sI hS (runs_neq (r := true) rfl rfl (by simpa using he)) fun _ hS => ?_
    refine nil_ok (wp_cond_true (hS.eval rfl) (qx_seq (reg_seq ?_)))
    refine sI hS (runs_move rfl) fun _ hS => ?_
    refine sI hS (runs_assign rfl) fun _ hS => ?_
    exact nil_ok (qx_ret (ret1 (t := 4) (by kernel_rfl) hS rfl ⟨_, rfl, e, cur, er, by rw [if_pos he], hP⟩))
  refine sI hS (runs_neq (r := false) rfl rfl (by simpa using he)) fun _ hS => ?_
  refine nil_ok (wp_cond_false (hS.eval rfl) (wp_skip (qx_seq (reg_seq ?_))))
  refine sI hS (runs_move rfl) fun _ hS => ?_
  refine sI hS (runs_call (args := [.pointer (some ⟨w.heap.size, 0, none⟩)]) goes31 rfl (rdd_end hI)) fun _ hS => ?_
  refine sI hS (runs_assign rfl) fun _ hS => ?_
  exact nil_ok (qx_ret (ret1 (t := 4) (by kernel_rfl) hS rfl ⟨_, rfl, e, cur, er, by rw [if_neg he], hP⟩))
theorem wholeM_any {g : Nat} {x0 x1 x2 : Value} (s : ByteArray) (w : World) (hM : Has w g 31 [x0, x1, x2]) : Ans 12 [.string s, .func (.func 35) #[] #[.pointer (some ⟨g, 0, none⟩)]] w (fun u w' => u = .int .i64 ((rdRt (bl s)).2 : Int) ∧ Has w' g 31 (encE (takenR (rdn 3 s 0).1)) ∧ But (fun i => i = g) w w') := by
  refine (whole_any goes35 (.pointer (some ⟨g, 0, none⟩)) s w (fun e cur er w2 => e = (rdn 3 s 0).2.2 ∧ cur = (rdn 3 s 0).2.1 ∧ er = (rdn 3 s 0).2.2 ∧ Has w2 g 31 (encE (takenR (rdn 3 s 0).1)) ∧ But (fun i => i = g) w w2) (fun w1 hI hB => (bmsg1_any hI (hM.below hB hM.lt)).mono ?_)).mono ?_
  · rintro e w2 ⟨u, rfl, h1, h2, h3, h4⟩
    exact ⟨_, rfl, _, _, _, h1, h2, rfl, rfl, rfl, h3, (Below.but hB (fun i => i = g)).up (h4.mono (fun i e => by rcases e with e | e; exact .inr (by omega); exact .inl e))⟩
  · rintro e w' ⟨u, rfl, e, cur, er, rfl, rfl, rfl, rfl, h2, h3⟩
    exact ⟨_, rfl, by rw [end_if, rdRt_snd], h2, h3⟩
set_option maxHeartbeats 1000000 in
theorem bmessage_any (s : ByteArray) (w : World) : Ans 15 [.string s] w (fun u w' => u = .tuple #[.agg (encE (takenR (rdn 3 s 0).1)).toArray, .int .i64 ((rdRt (bl s)).2 : Int)] ∧ Below w.heap.size w w') := by
  refine calls_qx (args := [.string s]) 11 Tryd.func15 rfl (by kernel_rfl) (by simp) (fun a hS => ?_)
  have hB := Below.refl w.heap.size w
  refine qx_seq (reg_seq ?_)
  refine seq_op hS (by decide) (runs_allocB (cs := [.int .i64 0, .int .i64 0, .int .i64 0]) zo41 rfl) (fun v1 w1 a1 hp hS => ?_)
  obtain ⟨rfl, hM1, hB1⟩ := hp
  have hLhM1 : w.heap.size ≤ w.heap.size := hB.size
  have hB := hB.trans (hB1.mono hB.size)
  refine sI hS (runs_assign rfl) fun _ hS => ?_
  refine nil_ok (qx_seq (reg_seq ?_))
  refine seq_op hS (by decide) (runs_allocB (cs := [.int .i64 0, .int .i64 0, .int .i64 0]) zo41 rfl) (fun v3 w3 a1 hp hS => ?_)
  obtain ⟨rfl, hM3, hB3⟩ := hp
  have hLhM3 : w.heap.size ≤ w1.heap.size := hB.size
  have hNhM1hM3 : w.heap.size ≠ w1.heap.size := by have := hM1.lt; omega
  have hB := hB.trans (hB3.mono hB.size)
  have hM1 := hM1.below hB3 hM1.lt
  refine nil_ok (qx_seq (reg_seq ?_))
  refine sI hS (runs_move rfl) fun _ hS => ?_
  refine sI hS (runs_makeFunc (cs := [.pointer (some ⟨w1.heap.size, 0, none⟩)]) rfl) fun _ hS => ?_
  refine seq_op hS (by decide) (runs_call (args := [.string s, .func (.func 35) #[] #[.pointer (some ⟨w1.heap.size, 0, none⟩)]]) goes12 rfl (wholeM_any s _ hM3)) (fun v5 w5 a1 hp hS => ?_)
  obtain ⟨rfl, hM3, hU5⟩ := hp
  have hB := But.new hB hU5 (fun i e => by rw [e]; exact hLhM3) (Nat.le_refl _)
  have hM1 := hM1.but hU5 hNhM1hM3
  obtain ⟨mx, hmx⟩ : ∃ m, takenR (rdn 3 s 0).1 = m := ⟨_, rfl⟩
  rw [hmx] at hM3
  refine sI hS (runs_assign rfl) fun _ hS => ?_
  refine nil_ok (qx_seq (reg_seq ?_))
  refine sI hS (runs_loadRow rfl hM3 Tryd.underlying31 rfl (by rw [sz41]; rfl)) fun _ hS => ?_
  refine sI hS (runs_move rfl) fun _ hS => ?_
  refine seq_none hS (runs_storeB (cs := encE mx) rfl rfl hM1 rfl rfl sz41) (fun v6 w6 a1 hp hS => ?_)
  obtain ⟨hM1, hU6⟩ := hp
  have hB := But.new hB hU6 (fun i e => by rw [e]; exact hLhM1) (Nat.le_refl _)
  refine sI hS (runs_assign rfl) fun _ hS => ?_
  exact nil_ok (qx_ret (retRow2 (p := 2) (t := 3) (ty := 31) (by kernel_rfl) hS rfl rfl hM1 Tryd.underlying31 rfl (by rw [sz41]; rfl) ⟨_, rfl, by rw [hmx], hB⟩))
set_option maxHeartbeats 1000000 in
theorem orE_any {g x y : Nat} {w : World} (hG : Has w g 24 [.int .i64 (x : Int), .int .i64 (y : Int)]) : Ans 17 [.slice (some ⟨g, 0, none⟩) 2 2] w (fun u w' => u = .int .i64 ((if x ≠ 0 then x else y : Nat) : Int) ∧ Below w.heap.size w w') := by
  refine calls_qx (args := [.slice (some ⟨g, 0, none⟩) 2 2]) 18 Tryd.func17 rfl (by kernel_rfl) (by simp) (fun a hS => ?_)
  have hB := Below.refl w.heap.size w
  have hGb := hG
  refine qx_seq (reg_seq ?_)
  refine sI hS (runs_assign rfl) fun _ hS => ?_
  refine nil_ok (qx_seq (reg_seq ?_))
  refine sI hS (runs_assign rfl) fun _ hS => ?_
  refine nil_ok (qx_seq (qx_seq (reg_seq ?_)))
  refine sI hS (runs_move rfl) fun _ hS => ?_
  refine sI hS (runs_len rfl undErs) fun _ hS => ?_
  refine sI hS (runs_move rfl) fun _ hS => ?_
  refine nil_ok (?_)
  refine qx_range (fun mm a w' => ∃ (i : Nat), i ≤ 2 ∧ mm = 2 - i ∧ Below w.heap.size w w' ∧ (0 < i → x = 0) ∧ (1 < i → y = 0) ∧ Sees 18 [(8, .int .i64 (i : Int)), (7, .int .i64 2), (6, .slice (some ⟨g, 0, none⟩) 2 2), (3, .int .i64 0)] a) 2 ⟨0, by omega, by omega, hB, by omega, by omega, hS.only _ ⟨rfl, rfl, rfl, rfl, trivial⟩⟩ ?_
  clear hS 
  rintro mm a wl1 ⟨i, hi1, rfl, hBb1, hx0, hy0, hS⟩
  have hG := hGb.below hBb1 hGb.lt
  have hB := Below.refl wl1.heap.size wl1
  refine reg_seq ?_
  by_cases hlt1 : i < 2
  · skip
    refine sI hS (lssT rfl rfl (by omega)) fun _ hS => ?_
    refine nil_ok ⟨_, hS.eval rfl, fun h => by simp at h, fun _ => ?_⟩
    obtain ⟨u, hu, huu⟩ : ∃ u : Nat, wl1.cell? ⟨g, 0 + i * 1, none⟩ = some (.int .i64 (u : Int)) ∧ ((i = 0 ∧ u = x) ∨ (i = 1 ∧ u = y)) := by
      match i, hlt1 with
      | 0, _ => exact ⟨x, hG.at rfl, .inl ⟨rfl, rfl⟩⟩
      | 1, _ => exact ⟨y, hG.at rfl, .inr ⟨rfl, rfl⟩⟩
    refine qx_seq (qx_block (qx_seq (reg_seq ?_)))
    refine sI hS (runs_indexAddrG (j := i) rfl rfl undErs szErn rfl hlt1) fun _ hS => ?_
    refine sI hS (runs_load rfl plErn hu) fun _ hS => ?_
    refine sI hS (runs_assign rfl) fun _ hS => ?_
    refine nil_ok (qx_seq (reg_seq ?_))
    refine sI hS (runs_move rfl) fun _ hS => ?_
    refine sI hS (runs_move rfl) fun _ hS => ?_
    by_cases hu0 : u ≠ 0
    · skip
      refine sI hS (runs_neq (r := true) rfl rfl (by simpa using hu0)) fun _ hS => ?_
      refine nil_ok (wp_cond_true (hS.eval rfl) (qx_seq (reg_seq ?_)))
      refine sI hS (runs_move rfl) fun _ hS => ?_
      refine sI hS (runs_assign rfl) fun _ hS => ?_
      have hval : u = if x ≠ 0 then x else y := by
        rcases huu with ⟨_, rfl⟩ | ⟨_, rfl⟩
        · rw [if_pos hu0]
        · rw [if_neg (by have := hx0 (by omega); omega)]
      exact nil_ok (qx_ret (ret1 (t := 2) (by kernel_rfl) hS rfl ⟨_, rfl, by rw [hval], hBb1.trans (hB.mono hBb1.size)⟩))
    refine sI hS (runs_neq (r := false) rfl rfl (by simpa using hu0)) fun _ hS => ?_
    refine nil_ok (wp_cond_false (hS.eval rfl) (wp_skip (reg_seq ?_)))
    refine sI hS (runs_add (r := ((i + 1 : Nat) : Int)) rfl rfl (by simp [IntKind.wrap, IntKind.bits, IntKind.signed]; omega)) fun _ hS => ?_
    refine sI hS (runs_move rfl) fun _ hS => ?_
    replace hu0 := Classical.not_not.1 hu0
    exact nil_ok ⟨_, by omega, i + 1, by omega, rfl, hBb1.trans (hB.mono hBb1.size), by omega, by omega, hS.only _ ⟨rfl, rfl, rfl, rfl, trivial⟩⟩
  refine sI hS (lssF rfl rfl (by omega)) fun _ hS => ?_
  obtain rfl : i = 2 := by omega
  refine nil_ok ⟨_, hS.eval rfl, fun _ => ?_, fun h => by simp at h⟩
  have hB := hBb1
  refine qx_seq (reg_seq ?_)
  refine sI hS (runs_move rfl) fun _ hS => ?_
  refine sI hS (runs_assign rfl) fun _ hS => ?_
  have hval : (if x ≠ 0 then x else y) = 0 := by rw [if_neg (by have := hx0 (by omega); omega)]; exact hy0 (by omega)
  exact nil_ok (qx_ret (ret1 (t := 2) (by kernel_rfl) hS rfl ⟨_, rfl, by rw [hval]; rfl, hB⟩))
set_option maxHeartbeats 1000000 in
theorem bget1_any {w0 w : World} {b g : Nat} {s : ByteArray} (hs : s.size ≤ 10000) (hI : In w b s 0) (hG : Has w g 23 [.slice none 0 0]) (hW : Below w0.heap.size w0 w) (hb : w0.heap.size ≤ b) (hg : w0.heap.size ≤ g) : Ans 13 [.pointer (some ⟨b, 0, none⟩), .pointer (some ⟨g, 0, none⟩)] w (fun u w' => ∃ e cur er, u = .int .i64 ((e : Nat) : Int) ∧ In w' b cur er ∧ (∃ ms ov, Has w' g 23 [ov] ∧ Edges w' ov ms ∧ ms.length ≤ 512 ∧ GotG s (if e ≠ 0 then e else endOf cur er) ms) ∧ Below w0.heap.size w0 w') := by
  refine calls_qx (args := [.pointer (some ⟨b, 0, none⟩), .pointer (some ⟨g, 0, none⟩)]) 34 Tryd.func13 rfl (by kernel_rfl) (by simp) (fun a hS => ?_)
  have hB := Below.refl w0.heap.size w0
  refine qx_seq (?_)
  have hB := hW
  refine reg_seq ?_
  refine sI hS (runs_assign rfl) fun _ hS => ?_
  refine nil_ok (qx_seq (reg_seq ?_))
  refine sI hS (runs_move rfl) fun _ hS => ?_
  obtain ⟨nn, cur0, er, hnr⟩ : ∃ a b c, numRes s 0 = (a, b, c) := ⟨_, _, _, rfl⟩
  have hI0 := hI
  refine seq_op hS (by decide) (runs_call (args := [.pointer (some ⟨b, 0, none⟩)]) goes14 rfl (rdd_num hI)) (fun v1 w1 a1 hp hS => ?_)
  rw [hnr] at hp
  obtain ⟨rfl, hI, hU1⟩ := hp
  have hG := hG.but hU1 (has_ne hG hI0 (by decide))
  have hB := But.new hB hU1 (fun i e => by rw [e]; exact hb) (Nat.le_refl _)
  obtain ⟨-, -, hn0, hn64, hcs0⟩ := numRes_f hnr
  refine sI hS (runs_assign rfl) fun _ hS => ?_
  refine nil_ok (qx_seq (qx_seq (reg_seq ?_)))
  refine sI hS (runs_move rfl) fun _ hS => ?_
  by_cases hbig : 512 < nn
  · skip
    refine sI hS (gtrT rfl rfl (by omega)) fun _ hS => ?_
    refine nil_ok (wp_cond_true (hS.eval rfl) (qx_seq (reg_seq ?_)))
    refine sI hS (runs_assign rfl) fun _ hS => ?_
    exact nil_ok (qx_ret (ret1 (t := 3) (by kernel_rfl) hS rfl ⟨_, rfl, 110, _, _, rfl, hI, ⟨[], _, hG, edges_nil _, by simp, by rw [if_pos (by decide)]; exact got_big hnr hbig⟩, hB⟩))
  refine sI hS (gtrF rfl rfl (by omega)) fun _ hS => ?_
  refine nil_ok (wp_cond_false (hS.eval rfl) (wp_skip (qx_seq (qx_seq (reg_seq ?_)))))
  refine sI hS (runs_move rfl) fun _ hS => ?_
  refine sI hS (runs_move rfl) fun _ hS => ?_
  refine nil_ok (?_)
  refine qx_range (fun mm a w' => ∃ (i : Nat) (ms : List E) (cur : ByteArray) (ov : Value), i ≤ nn ∧ mm = nn - i ∧ Below w0.heap.size w0 w' ∧ ms.length = i ∧ cur.size ≤ s.size ∧ RdMt nn (bl cur0) i ms (bl cur) ∧ w'.ownsRow w0.heap.size 31 3 ov i (cellsE ms) ∧ (i = 0 → ov = .slice none 0 0) ∧ In w' b cur er ∧ Has w' g 23 [ov] ∧ Sees 34 [(13, .int .u64 ((i : Nat) : Int)), (12, .int .u64 ((nn : Nat) : Int)), (1, .pointer (some ⟨g, 0, none⟩)), (0, .pointer (some ⟨b, 0, none⟩))] a) nn ⟨0, [], cur0, _, by omega, by omega, hB, rfl, hcs0, RdMt.zero _ _, ⟨rfl, .inl ⟨rfl, rfl⟩⟩, (fun _ => rfl), hI, hG, hS.only _ ⟨rfl, rfl, rfl, rfl, trivial⟩⟩ ?_
  clear hS 
  rintro mm a wl1 ⟨i, ms, cur, ov, hi1, rfl, hBb1, hlen, hcs, hrdM, hown, hz, hIL, hGL, hS⟩
  have hB := Below.refl wl1.heap.size wl1
  refine reg_seq ?_
  by_cases hlt1 : i < nn
  · skip
    refine sI hS (lssT rfl rfl (by omega)) fun _ hS => ?_
    refine nil_ok ⟨_, hS.eval rfl, fun h => by simp at h, fun _ => ?_⟩
    have hI := hIL
    have hG := hGL
    have hcs2 : cur.size ≤ s.size := hcs
    have he0 : er = 0 := Classical.byContradiction (fun e => by have := hn0 e; omega)
    rw [he0] at hI
    obtain ⟨te1, te2, te3⟩ := textRes40 cur
    refine qx_seq (qx_block (qx_seq (reg_seq ?_)))
    refine sI hS (runs_move rfl) fun _ hS => ?_
    refine seq_op hS (by decide) (runs_call (args := [.pointer (some ⟨b, 0, none⟩), .int .i64 40]) goes16 rfl (rdd_text hI (by omega) (by omega) (by omega))) (fun v2 w2 a1 hp hS => ?_)
    obtain ⟨rfl, hI2, hU2⟩ := hp
    have hBt := But.new hBb1 hU2 (fun i e => by rw [e]; exact hb) (Nat.le_refl _)
    have hown := owns_but hown hU2 (fun i old ho e => by subst e; exact has_ne ho hI (by decide) rfl)
    have hG2 := hG.but hU2 (has_ne hG hI (by decide))
    have hB := Below.refl w2.heap.size w2
    refine seq_op hS (by decide) (runs_call (args := [.string (textRes cur 0 40).1]) goes15 rfl (bmessage_any (textRes cur 0 40).1 w2)) (fun v3 w3 a1 hp hS => ?_)
    obtain ⟨mx, hmx⟩ : ∃ m, takenR (rdn 3 (textRes cur 0 40).1 0).1 = m := ⟨_, rfl⟩
    rw [hmx, te1] at hp
    obtain ⟨rfl, hB3⟩ := hp
    have hB := hB.trans (hB3.mono hB.size)
    refine sI hS (runs_move rfl) fun _ hS => ?_
    refine sI hS (runs_extract rfl rfl) fun _ hS => ?_
    refine sI hS (runs_extract rfl rfl) fun _ hS => ?_
    refine seq_op hS (by decide) (runs_allocB (cs := [.int .i64 0, .int .i64 0, .int .i64 0]) zo41 rfl) (fun v5 w5 a1 hp hS => ?_)
    obtain ⟨rfl, hM5, hB5⟩ := hp
    have hLhM5 : w2.heap.size ≤ w3.heap.size := hB.size
    have hB := hB.trans (hB5.mono hB.size)
    refine seq_none hS (runs_storeB (cs := encE mx) rfl rfl hM5 rfl rfl sz41) (fun v7 w7 a1 hp hS => ?_)
    obtain ⟨hM5, hU7⟩ := hp
    have hB := But.new hB hU7 (fun i e => by rw [e]; exact hLhM5) (Nat.le_refl _)
    refine sI hS (runs_assign rfl) fun _ hS => ?_
    refine nil_ok (qx_seq (qx_seq (reg_seq ?_)))
    refine sI hS (runs_move rfl) fun _ hS => ?_
    refine sI hS (runs_call (args := [.pointer (some ⟨b, 0, none⟩)]) goes18 rfl (te2 ▸ rdd_err (in_kept hI2 hB))) fun _ hS => ?_
    refine sI hS (runs_move rfl) fun _ hS => ?_
    refine seq_op hS (by decide) (runs_twoE rfl rfl) (fun v9 w9 a1 hp hS => ?_)
    obtain ⟨g2, rfl, hEr, hB9⟩ := hp
    have hB := hB.trans (hB9.mono hB.size)
    have hM5 := hM5.below hB9 hM5.lt
    refine seq_op hS (by decide) (runs_call (args := [.slice (some ⟨g2, 0, none⟩) 2 2]) goes17 rfl (orE_any hEr)) (fun v11 w11 a1 hp hS => ?_)
    obtain ⟨ee, hee⟩ : ∃ e, (if (rdT 40 (bl cur)).2.2 ≠ 0 then (rdT 40 (bl cur)).2.2 else (rdRt (rdT 40 (bl cur)).1).2) = e := ⟨_, rfl⟩
    rw [hee] at hp
    obtain ⟨rfl, hB11⟩ := hp
    have hB := hB.trans (hB11.mono hB.size)
    have hM5 := hM5.below hB11 hM5.lt
    refine sI hS (runs_assign rfl) fun _ hS => ?_
    refine nil_ok (qx_seq (reg_seq ?_))
    refine sI hS (runs_move rfl) fun _ hS => ?_
    by_cases hre : ee ≠ 0
    · skip
      refine sI hS (runs_neq (r := true) rfl rfl (by simpa using hre)) fun _ hS => ?_
      refine nil_ok (wp_cond_true (hS.eval rfl) (qx_seq (reg_seq ?_)))
      refine sI hS (runs_move rfl) fun _ hS => ?_
      refine sI hS (runs_assign rfl) fun _ hS => ?_
      exact nil_ok (qx_ret (ret1 (t := 3) (by kernel_rfl) hS rfl ⟨_, rfl, ee, _, _, rfl, in_kept hI2 hB, ⟨ms, ov, hG2.below hB hG2.lt, edges_own (owns_kept hown hB) hlen, by omega, by rw [if_pos hre]; exact got_err hnr hbig hlt1 hrdM hee.symm hre⟩, hBt.trans (hB.mono hBt.size)⟩))
    refine sI hS (runs_neq (r := false) rfl rfl (by simpa using hre)) fun _ hS => ?_
    refine nil_ok (wp_cond_false (hS.eval rfl) (wp_skip (?_)))
    replace hre := Classical.not_not.1 hre
    have hrt : (rdT 40 (bl cur)).2.2 = 0 := Classical.byContradiction (fun h => by rw [if_pos h] at hee; exact h (hee.trans hre))
    rw [if_neg (by simp [hrt])] at hee
    have hrm := hee.trans hre
    have hmx2 : (rdRt (rdT 40 (bl cur)).1).1 = mx := by rw [← te1] at hrm ⊢; rw [rdRt_fst hrm]; exact hmx
    refine reg_seq ?_
    refine sI hS (runs_load rfl pl22 ((hG2.below hB hG2.lt).at rfl)) fun _ hS => ?_
    refine sI hS (runs_loadRow rfl hM5 Tryd.underlying31 rfl (by rw [sz41]; rfl)) fun _ hS => ?_
    refine seq_op hS (by decide) (runs_oneM rfl) (fun v13 w13 a1 hp hS => ?_)
    obtain ⟨g2, rfl, hX, hB13⟩ := hp
    have hB := hB.trans (hB13.mono hB.size)
    have hIW := Has.below hI2 hB (Has.lt hI2)
    have hGW := hG2.below hB hG2.lt
    refine seq_op hS (by decide) (push_ownMB (B := w0.heap.size) rfl (owns_kept hown hB) rfl hX (by omega) (Nat.le_trans hBt.size hB.size) ((Nat.eq_zero_or_pos i).elim (fun h => .inr (fun g m c e => by rw [hz h] at e; cases e)) .inl)) (fun v15 w15 a1 hp hS => ?_)
    obtain ⟨⟨g3, c3, rfl⟩, hown3, hK3⟩ := hp
    have hI3 := hK3.2.2.1 _ _ _ (by decide) hIW
    have hG3 := hK3.2.2.1 _ _ _ (by decide) hGW
    refine seq_none hS (runs_storeC (u := ov) rfl rfl rfl s1_22 hG3 rfl) (fun v16 w16 a1 hp hS => ?_)
    obtain ⟨hG4, hU16⟩ := hp
    have hI4 := Has.but hI3 hU16 (has_ne hI3 hG3 (by decide))
    have hown4 := owns_but hown3 hU16 (fun i old ho e => by subst e; exact has_ne ho hG3 (by decide) rfl)
    have hK4 := hU16.below (B := w0.heap.size) (fun i e => by rw [e]; exact hg) (Nat.le_trans hBt.size (Nat.le_trans hB.size hK3.1.size))
    refine nil_ok (reg_seq ?_)
    refine sI hS (runs_add (r := ((i + 1 : Nat) : Int)) rfl rfl (by simp [IntKind.wrap, IntKind.bits, IntKind.signed]; omega)) fun _ hS => ?_
    refine sI hS (runs_move rfl) fun _ hS => ?_
    exact nil_ok ⟨_, by omega, i + 1, ms ++ [mx], (textRes cur 0 40).2.1, .slice (some ⟨g3, 0, none⟩) (i + 1) c3, by omega, rfl, (hBt.trans ((hB.mono hBt.size).trans hK3.1)).trans hK4, by simp [hlen], by have h := congrArg List.length te3; rw [bl_length, List.length_drop, bl_length] at h; omega, by rw [te3, ← hmx2]; exact hrdM.step hlt1 hrt hrm, by rw [cellsE_append, cellsE_one]; exact hown4, (fun h => by omega), by rw [te2, hrt] at hI4; rw [he0]; exact hI4, hG4, hS.only _ ⟨rfl, rfl, rfl, rfl, trivial⟩⟩
  refine sI hS (lssF rfl rfl (by omega)) fun _ hS => ?_
  obtain rfl : i = nn := by omega
  refine nil_ok ⟨_, hS.eval rfl, fun _ => ?_, fun h => by simp at h⟩
  have hB := hBb1
  have hallM := hrdM.all
  have hEo := edges_own hown hlen
  clear hz
  refine qx_seq (reg_seq ?_)
  refine sI hS (runs_assign rfl) fun _ hS => ?_
  exact nil_ok (qx_ret (ret1 (t := 3) (by kernel_rfl) hS rfl ⟨_, rfl, 0, _, _, rfl, hIL, ⟨ms, ov, hGL, hEo, by omega, by rw [if_neg (by simp)]; exact got_end hnr hbig hallM⟩, hB⟩))
theorem wholeG_any {w0 w : World} {g : Nat} {s : ByteArray} (hs : s.size ≤ 10000) (hG : Has w g 23 [.slice none 0 0]) (hW : Below w0.heap.size w0 w) (hg : w0.heap.size ≤ g) : Ans 12 [.string s, .func (.func 13) #[] #[.pointer (some ⟨g, 0, none⟩)]] w (fun u w' => ∃ r ms ov, u = .int .i64 ((r : Nat) : Int) ∧ Has w' g 23 [ov] ∧ Edges w' ov ms ∧ ms.length ≤ 512 ∧ GotG s r ms ∧ Below w0.heap.size w0 w') := by
  refine (whole_any goes13 (.pointer (some ⟨g, 0, none⟩)) s w (fun e cur er w2 => (∃ ms ov, Has w2 g 23 [ov] ∧ Edges w2 ov ms ∧ ms.length ≤ 512 ∧ GotG s (if e ≠ 0 then e else endOf cur er) ms) ∧ Below w0.heap.size w0 w2) (fun w1 hI hB => (bget1_any hs hI (hG.below hB hG.lt) (hW.trans (hB.mono hW.size)) hW.size hg).mono ?_)).mono ?_
  · rintro e w2 ⟨u, rfl, e, cur, er, rfl, h1, h2, h3⟩
    exact ⟨_, rfl, e, cur, er, rfl, h1, h2, h3⟩
  · rintro e w' ⟨u, rfl, e, cur, er, rfl, ⟨ms, ov, h1, h2, h3, h4⟩, h5⟩
    exact ⟨_, rfl, _, ms, ov, rfl, h1, h2, h3, h4, h5⟩
set_option maxHeartbeats 1000000 in
theorem bget_c (hP : PutC) : GetC := fun s w hs => by
  show Ans 5 [.string s] w _
  refine calls_qx (args := [.string s]) 23 Tryd.func5 rfl (by kernel_rfl) (by simp) (fun a hS => ?_)
  have hB := Below.refl w.heap.size w
  refine qx_seq (reg_seq ?_)
  refine sI hS (runs_assign rfl) fun _ hS => ?_
  refine sI hS (runs_assign rfl) fun _ hS => ?_
  refine nil_ok (qx_seq (reg_seq ?_))
  refine seq_op hS (by decide) (runs_allocB (cs := [.slice none 0 0]) zo22 rfl) (fun v1 w1 a1 hp hS => ?_)
  obtain ⟨rfl, hM1, hB1⟩ := hp
  have hB := hB.trans (hB1.mono hB.size)
  refine nil_ok (qx_seq (reg_seq ?_))
  refine sI hS (runs_move rfl) fun _ hS => ?_
  refine sI hS (runs_makeFunc (cs := [.pointer (some ⟨w.heap.size, 0, none⟩)]) rfl) fun _ hS => ?_
  refine seq_op hS (by decide) (runs_call (args := [.string s, .func (.func 13) #[] #[.pointer (some ⟨w.heap.size, 0, none⟩)]]) goes12 rfl (wholeG_any hs hM1 hB (Nat.le_refl _))) (fun v3 w3 a1 hp hS => ?_)
  obtain ⟨r, ms, ov, rfl, hG, hE, hml, hgot, hB⟩ := hp
  refine sI hS (runs_assign rfl) fun _ hS => ?_
  refine nil_ok (qx_seq (qx_seq (reg_seq ?_)))
  refine sI hS (runs_move rfl) fun _ hS => ?_
  by_cases hr0 : r ≠ 0
  · skip
    refine sI hS (runs_neq (r := true) rfl rfl (by simpa using hr0)) fun _ hS => ?_
    refine nil_ok (wp_cond_true (hS.eval rfl) (qx_seq (reg_seq ?_)))
    refine sI hS (runs_move rfl) fun _ hS => ?_
    refine sI hS (runs_assign rfl) fun _ hS => ?_
    refine sI hS (runs_assign rfl) fun _ hS => ?_
    have hfin : getM (bl s) = ([], r) := by
      rcases hgot with h | h
      · exact h.2
      · exact absurd h.1 hr0
    exact nil_ok (qx_ret (ret2 (t := 2) (u := 3) (by kernel_rfl) hS rfl rfl ⟨_, rfl, _, by rw [hfin], by rw [hfin]; exact edges_nil _, hB⟩))
  refine sI hS (runs_neq (r := false) rfl rfl (by simpa using hr0)) fun _ hS => ?_
  refine nil_ok (wp_cond_false (hS.eval rfl) (wp_skip (qx_seq (qx_seq (reg_seq ?_)))))
  refine sI hS (runs_load rfl pl22 (hG.at rfl)) fun _ hS => ?_
  refine seq_op hS (by decide) (runs_call (args := [ov]) goes6 rfl (hP ms _ w3 hE (by omega))) (fun v4 w4 a1 hp hS => ?_)
  obtain ⟨rfl, hB4⟩ := hp
  have hB := hB.trans (hB4.mono hB.size)
  have hG := hG.below hB4 hG.lt
  have hE := hE.kept hB4
  refine sI hS (runs_move rfl) fun _ hS => ?_
  refine sI hS (runs_extract rfl rfl) fun _ hS => ?_
  refine sI hS (runs_extract rfl rfl) fun _ hS => ?_
  refine sI hS (runs_assign rfl) fun _ hS => ?_
  refine sI hS (runs_assign rfl) fun _ hS => ?_
  refine nil_ok (qx_seq (reg_seq ?_))
  refine sI hS (runs_move rfl) fun _ hS => ?_
  refine sI hS (runs_move rfl) fun _ hS => ?_
  by_cases hq : putM ms ≠ s
  · skip
    refine sI hS (runs_neStr (r := true) rfl rfl (by simpa using fun e => hq (bl_inj e))) fun _ hS => ?_
    refine nil_ok (wp_cond_true (hS.eval rfl) (qx_seq (reg_seq ?_)))
    refine sI hS (runs_assign rfl) fun _ hS => ?_
    refine sI hS (runs_assign rfl) fun _ hS => ?_
    obtain ⟨h1, h2, h3⟩ : (Wire.rd (bl s)).2.2 = 0 ∧ ¬ 512 < (Wire.rd (bl s)).1 ∧ rdBt (Wire.rd (bl s)).1 ((bl s).drop (Wire.rd (bl s)).2.1) = (ms, [], 0) := by
      rcases hgot with h | h
      · exact absurd h.1 hr0
      · exact h.2
    have hfin := takenM_bad (bl_bytes s) h1 h2 h3 (fun h => hq (bl_inj (by rw [bl_putM h.1, h.2])))
    exact nil_ok (qx_ret (ret2 (t := 2) (u := 3) (by kernel_rfl) hS rfl rfl ⟨_, rfl, _, by rw [hfin] <;> rfl, by rw [hfin]; exact edges_nil _, hB⟩))
  refine sI hS (runs_neStr (r := false) rfl rfl (by rw [Classical.not_not.1 hq]; simp)) fun _ hS => ?_
  refine nil_ok (wp_cond_false (hS.eval rfl) (wp_skip (qx_seq (reg_seq ?_))))
  refine sI hS (runs_load rfl pl22 (hG.at rfl)) fun _ hS => ?_
  refine sI hS (runs_assign rfl) fun _ hS => ?_
  refine sI hS (runs_assign rfl) fun _ hS => ?_
  obtain ⟨h1, h2, h3⟩ : (Wire.rd (bl s)).2.2 = 0 ∧ ¬ 512 < (Wire.rd (bl s)).1 ∧ rdBt (Wire.rd (bl s)).1 ((bl s).drop (Wire.rd (bl s)).2.1) = (ms, [], 0) := by
    rcases hgot with h | h
    · exact absurd h.1 hr0
    · exact h.2
  replace hq := Classical.not_not.1 hq
  have hrm : rightM ms = true := Classical.byContradiction (fun h => by
    unfold putM at hq
    rw [if_neg h] at hq
    rw [← hq] at h1
    exact absurd h1 (by decide +kernel))
  have hfin := takenM_ok (bl_bytes s) h1 h2 h3 hrm (by rw [← bl_putM hrm, hq])
  exact nil_ok (qx_ret (ret2 (t := 2) (u := 3) (by kernel_rfl) hS rfl rfl ⟨_, rfl, _, by rw [hfin] <;> rfl, by rw [hfin]; exact hE, hB⟩))
end Go.Proofs.YthkbnbnfjnliaaaDoor
