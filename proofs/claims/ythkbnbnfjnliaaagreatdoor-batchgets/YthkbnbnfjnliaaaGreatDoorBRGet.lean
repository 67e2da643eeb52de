/- Layer 11: what the document gets of bytes. Conditions: at most 10000 bytes. -/
import Derived.Test.YthkbnbnfjnliaaaGreatDoorBRRow
import Derived.Test.YthkbnbnfjnliaaaGreatDoorJ26
namespace Go.Proofs.YthkbnbnfjnliaaaGreatDoor
open Go.RowKit
set_option maxRecDepth 100000

theorem fo67_4 : fieldOff Tryz.prog 67 4 = some 4 := by kernel_rfl
def fq : Fld := ⟨2, 40, 0, 0, nil, Z32⟩
theorem fq_ok : fq.Ok := ⟨(by show (-9223372036854775808 : Int) ≤ 2; decide), (by show (2 : Int) ≤ 9223372036854775807; decide), (by show (-9223372036854775808 : Int) ≤ 40; decide), (by show (40 : Int) ≤ 9223372036854775807; decide), (by show 0 < 18446744073709551616; decide), (by show (-9223372036854775808 : Int) ≤ 0; decide), (by show (0 : Int) ≤ 9223372036854775807; decide), (by decide), (by decide)⟩
theorem textOf_rdT (s : ByteArray) : bl (textOf s 40 (Wire.rd (bl s))).1 = (rdT 40 (bl s)).1 ∧ (textOf s 40 (Wire.rd (bl s))).2 = (rdT 40 (bl s)).2 := by
  unfold textOf rdT
  rw [bl_length]
  by_cases h1 : (Wire.rd (bl s)).2.2 = 0
  · by_cases h2 : 40 < (Wire.rd (bl s)).1
    · rw [if_neg (by simp [h1]), if_pos (by omega), if_neg (by simp [h1]), if_pos h2]; exact ⟨rfl, rfl⟩
    · by_cases h3 : s.size - (Wire.rd (bl s)).2.1 < (Wire.rd (bl s)).1
      · rw [if_neg (by simp [h1]), if_neg (by omega), if_pos h3, if_neg (by simp [h1]), if_neg h2, if_pos h3]; exact ⟨rfl, rfl⟩
      · rw [if_neg (by simp [h1]), if_neg (by omega), if_neg h3, if_neg (by simp [h1]), if_neg h2, if_neg h3]
        refine ⟨?_, rfl⟩
        rw [bl_sub]
        rw [Nat.add_sub_cancel_left]
  · rw [if_pos h1, if_pos h1]; exact ⟨rfl, rfl⟩
theorem rgetT_ok {s : ByteArray} {w : World} (hs : s.size ≤ 100000) (h : (rdT 40 (bl s)).2.2 = 0) : Ans 42 [.string s, fq.val] w (fun u w' => u = .tuple #[(fs2 (S (rdT 40 (bl s)).1)).val, .int .i64 ((rdT 40 (bl s)).2.1 : Int), .int .i64 0] ∧ Below w.heap.size w w') :=
  (refGet_any s fq w fq_ok hs (by decide) (by decide)).mono (by
    rintro e w' ⟨rfl, hb⟩
    refine ⟨_, rfl, ?_, hb⟩
    obtain ⟨t1, t2⟩ := textOf_rdT s
    have hrd : (Wire.rd (bl s)).2.2 = 0 := by
      by_cases e : (Wire.rd (bl s)).2.2 = 0
      · exact e
      · unfold rdT at h; rw [if_pos e] at h; exact h
    have ht : (textOf s fq.most (Wire.rd (bl s))).2.2 = 0 := by show (textOf s 40 (Wire.rd (bl s))).2.2 = 0; rw [t2]; exact h
    have hst : (textOf s fq.most (Wire.rd (bl s))).1 = S (rdT 40 (bl s)).1 := by show (textOf s 40 (Wire.rd (bl s))).1 = _; rw [← t1, S_bl]
    have hk : (textOf s fq.most (Wire.rd (bl s))).2.1 = (rdT 40 (bl s)).2.1 := by show (textOf s 40 (Wire.rd (bl s))).2.1 = _; rw [t2]
    unfold refRes refVal
    rw [if_neg (by decide), if_neg (by simp [hrd]), if_neg (by decide), if_neg (by decide), if_neg (by simp [ht]), hst, hk]
    rfl)
theorem rgetT_bad {s : ByteArray} {w : World} (hs : s.size ≤ 100000) (h : (rdT 40 (bl s)).2.2 ≠ 0) : Ans 42 [.string s, fq.val] w (fun u w' => u = .tuple #[(fn0 0).val, .int .i64 0, .int .i64 ((rdT 40 (bl s)).2.2 : Int)] ∧ Below w.heap.size w w') :=
  (refGet_any s fq w fq_ok hs (by decide) (by decide)).mono (by
    rintro e w' ⟨rfl, hb⟩
    refine ⟨_, rfl, ?_, hb⟩
    obtain ⟨t1, t2⟩ := textOf_rdT s
    unfold refRes refVal
    rw [if_neg (by decide)]
    by_cases hrd : (Wire.rd (bl s)).2.2 = 0
    · have ht : (textOf s fq.most (Wire.rd (bl s))).2.2 ≠ 0 := by show (textOf s 40 (Wire.rd (bl s))).2.2 ≠ 0; rw [t2]; exact h
      have hk : (textOf s fq.most (Wire.rd (bl s))).2.2 = (rdT 40 (bl s)).2.2 := by show (textOf s 40 (Wire.rd (bl s))).2.2 = _; rw [t2]
      rw [if_neg (by simp [hrd]), if_neg (by decide), if_neg (by decide), if_pos ht, hk]
      rfl
    · rw [if_pos hrd, show (rdT 40 (bl s)).2.2 = (Wire.rd (bl s)).2.2 by unfold rdT; rw [if_pos hrd]]
      rfl)
/-- After i of K messages of L: these, and what is left. -/
def RdM (K : Nat) (L : List Nat) (i : Nat) (ms : List E) (l : List Nat) : Prop := rdB K L = (ms ++ (rdB (K - i) l).1, (rdB (K - i) l).2)
theorem RdM.zero (K : Nat) (L : List Nat) : RdM K L 0 [] L := rfl
theorem RdM.step {K : Nat} {L l : List Nat} {ms : List E} {i : Nat} (h : RdM K L i ms l) (hi : i < K) (h0 : (rdT 40 l).2.2 = 0) (h1 : (rdR (rdT 40 l).1).2 = 0) : RdM K L (i + 1) (ms ++ [(rdR (rdT 40 l).1).1]) (l.drop (rdT 40 l).2.1) := by
  unfold RdM at h ⊢
  rw [h, show K - i = (K - (i + 1)) + 1 by omega]
  simp only [rdB, h0, h1, ne_eq, not_true_eq_false, if_false, List.append_assoc, List.singleton_append]
theorem RdM.errT {K : Nat} {L l : List Nat} {ms : List E} {i : Nat} (h : RdM K L i ms l) (hi : i < K) (h0 : (rdT 40 l).2.2 ≠ 0) : (rdB K L).2.2 = (rdT 40 l).2.2 := by
  unfold RdM at h
  rw [h, show K - i = (K - (i + 1)) + 1 by omega]
  simp only [rdB, h0, ne_eq, not_false_eq_true, if_true]
theorem RdM.errR {K : Nat} {L l : List Nat} {ms : List E} {i : Nat} (h : RdM K L i ms l) (hi : i < K) (h0 : (rdT 40 l).2.2 = 0) (h1 : (rdR (rdT 40 l).1).2 ≠ 0) : (rdB K L).2.2 = (rdR (rdT 40 l).1).2 := by
  unfold RdM at h
  rw [h, show K - i = (K - (i + 1)) + 1 by omega]
  simp only [rdB, h0, h1, ne_eq, not_true_eq_false, not_false_eq_true, if_false, if_true]
theorem RdM.all {K : Nat} {L l : List Nat} {ms : List E} (h : RdM K L K ms l) : rdB K L = (ms, l, 0) := by
  unfold RdM at h; rw [h]; simp [rdB]
theorem upM_iff : ∀ (l : List E), upM l = true ↔ ∀ j a b, l[j]? = some a → l[j + 1]? = some b → lessM a b = true
  | [] => by simp [upM]
  | [_] => by
    simp only [upM, true_iff]
    intro j a b _ hb
    simp at hb
  | x :: y :: l => by
    rw [upM, Bool.and_eq_true, upM_iff (y :: l)]
    constructor
    · rintro ⟨h1, h2⟩ j a b ha hb
      cases j with
      | zero => simp at ha hb; subst ha; subst hb; exact h1
      | succ j => exact h2 j a b (by simpa using ha) (by simpa using hb)
    · intro h
      exact ⟨h 0 x y rfl rfl, fun j a b ha hb => h (j + 1) a b (by simpa using ha) (by simpa using hb)⟩
theorem getM_e1 {l : List Nat} (h : (Wire.rd l).2.2 ≠ 0) : getM l = ([], (Wire.rd l).2.2) := by unfold getM; rw [if_pos h]
theorem getM_e2 {l : List Nat} (h : (Wire.rd l).2.2 = 0) (h2 : 512 < (Wire.rd l).1) : getM l = ([], 110) := by unfold getM; rw [if_neg (by simp [h]), if_pos h2]
theorem getM_e3 {l : List Nat} {e : Nat} (h : (Wire.rd l).2.2 = 0) (h2 : ¬ 512 < (Wire.rd l).1) (h3 : (rdB (Wire.rd l).1 (l.drop (Wire.rd l).2.1)).2.2 = e) (he : e ≠ 0) : getM l = ([], e) := by
  unfold getM; rw [if_neg (by simp [h]), if_neg h2, if_pos (by rw [h3]; exact he), h3]
theorem getM_e4 {l : List Nat} {ms : List E} {r : List Nat} (h : (Wire.rd l).2.2 = 0) (h2 : ¬ 512 < (Wire.rd l).1) (h3 : rdB (Wire.rd l).1 (l.drop (Wire.rd l).2.1) = (ms, r, 0)) (hr : r ≠ []) : getM l = ([], 22) := by
  unfold getM; rw [if_neg (by simp [h]), if_neg h2, h3]; simp [hr]
theorem getM_e5 {l : List Nat} {ms : List E} (h : (Wire.rd l).2.2 = 0) (h2 : ¬ 512 < (Wire.rd l).1) (h3 : rdB (Wire.rd l).1 (l.drop (Wire.rd l).2.1) = (ms, [], 0)) (hu : ¬ (upM ms = true ∧ rightM ms = true)) : getM l = ([], 110) := by
  unfold getM; rw [if_neg (by simp [h]), if_neg h2, h3]; simp only [ne_eq, not_true_eq_false, if_false, Bool.and_eq_true]; rw [if_neg hu]
theorem getM_ok {l : List Nat} {ms : List E} (h : (Wire.rd l).2.2 = 0) (h2 : ¬ 512 < (Wire.rd l).1) (h3 : rdB (Wire.rd l).1 (l.drop (Wire.rd l).2.1) = (ms, [], 0)) (hu : upM ms = true) (hr : rightM ms = true) : getM l = (ms, 0) := by
  unfold getM; rw [if_neg (by simp [h]), if_neg h2, h3]; simp [hu, hr]
section
variable {L : List (Nat × Value)} {w : World} {ty : TypeId}
theorem push_ownMK {B n g2 : Nat} {s x : Operand} {sv : Value} {xs : List Value} {e : E} (hs : vals L s = some sv) (hown : w.ownsRow B 43 3 sv n xs) (hx : vals L x = some (.slice (some ⟨g2, 0, none⟩) 1 1)) (hX : Has w g2 43 (encE e)) (hn : n ≤ 10000) (hB : B ≤ w.heap.size) (hcap : 0 < n ∨ ∀ g m c, sv = .slice (some g) m c → c = 0) :
    Runs Tryz.prog (.call { callee := .builtin .append, args := #[s, x], argTypes := #[22, 22] }) ty L w (fun u w2 => (∃ g3 c3, u = .slice (some ⟨g3, 0, none⟩) (n + 1) c3) ∧ w2.ownsRow B 43 3 u (n + 1) (xs ++ encE e) ∧ KR 43 3 B (xs ++ encE e) w w2) := by
  obtain ⟨i48, hi48, hz48, hs48, hb48⟩ := info_parts inf48
  exact push_own1 und32 hi48 hz48 hs48 hb48 rfl (by omega) (by omega) hs hown hx hX rfl (by simp [encE, Value.oneCell']) hn hB hcap
end
set_option maxHeartbeats 1000000 in
theorem rget_any (s : ByteArray) (hs : s.size ≤ 10000) (w : World) : Ans 20 [.string s] w (fun u w' => ∃ v, u = .tuple #[v, .int .i64 ((getM (bl s)).2 : Int)] ∧ Edges w' v (getM (bl s)).1 ∧ Below w.heap.size w w') := by
  refine calls_qx (args := [.string s]) 88 Tryz.func20 rfl (by kernel_rfl) (by simp) (fun a hS => ?_)
  have hB := Below.refl w.heap.size w
  refine qx_seq (reg_seq ?_)
  refine sI hS (runs_assign rfl) fun _ hS => ?_
  refine sI hS (runs_assign rfl) fun _ hS => ?_
  refine nil_ok (qx_seq (?_))
  by_cases hrd0 : (Wire.rd (bl s)).2.2 = 0
  · skip
    obtain ⟨hk1, _, _, hk2⟩ := Wire.rd_back (bl s) (Wire.rd (bl s)).1 (Wire.rd (bl s)).2.1 (bl_bytes s) (by rw [← hrd0])
    rw [bl_length] at hk1
    refine reg_seq ?_
    refine sI hS (runs_move rfl) fun _ hS => ?_
    refine sI hS (runs_buildK (pv := []) (cells := (fn0 0).cells.toArray) rfl (by kernel_rfl)) fun _ hS => ?_
    refine seq_op hS (by decide) (runs_call (args := [.string s, (fn0 0).val]) goes42 rfl (rget0_ok (by omega) hrd0)) (fun v1 w1 a1 hp hS => ?_)
    obtain ⟨rfl, hB1⟩ := hp
    have hB := hB.trans (hB1.mono hB.size)
    refine sI hS (runs_move rfl) fun _ hS => ?_
    refine sI hS (runs_extract rfl rfl) fun _ hS => ?_
    refine sI hS (runs_extract rfl rfl) fun _ hS => ?_
    refine sI hS (runs_extract rfl rfl) fun _ hS => ?_
    refine seq_op hS (by decide) (runs_allocB (cs := (fn0 0).cells) zo67 rfl) (fun v3 w3 a1 hp hS => ?_)
    obtain ⟨rfl, hM3, hB3⟩ := hp
    have hLhM3 : w.heap.size ≤ w1.heap.size := hB.size
    have hB := hB.trans (hB3.mono hB.size)
    refine seq_none hS (runs_storeB (cs := (fn0 (Wire.rd (bl s)).1).cells) rfl rfl hM3 rfl rfl sz67) (fun v5 w5 a1 hp hS => ?_)
    obtain ⟨hM3, hU5⟩ := hp
    have hB := But.new hB hU5 (fun i e => by rw [e]; exact hLhM3) (Nat.le_refl _)
    refine sI hS (runs_assign rfl) fun _ hS => ?_
    refine sI hS (runs_assign rfl) fun _ hS => ?_
    refine nil_ok (qx_seq (qx_seq (reg_seq ?_)))
    refine sI hS (runs_move rfl) fun _ hS => ?_
    refine sI hS (runs_neq (r := false) rfl rfl (by simp)) fun _ hS => ?_
    refine nil_ok (wp_cond_false (hS.eval rfl) (wp_skip (qx_seq (qx_seq (reg_seq ?_)))))
    refine sI hS (runs_fieldK fo67_2 rfl) fun _ hS => ?_
    refine sI hS (runs_load (v := .int .u64 (((Wire.rd (bl s)).1 : Nat) : Int)) rfl pl50 (hM3.at (i := 0 + 2) rfl)) fun _ hS => ?_
    by_cases hbig : 512 < (Wire.rd (bl s)).1
    · skip
      refine sI hS (gtrT rfl rfl (by omega)) fun _ hS => ?_
      refine nil_ok (wp_cond_true (hS.eval rfl) (qx_seq (reg_seq ?_)))
      refine sI hS (runs_assign rfl) fun _ hS => ?_
      refine sI hS (runs_assign rfl) fun _ hS => ?_
      have hfin := getM_e2 hrd0 hbig
      exact nil_ok (qx_ret (ret2 (t := 2) (u := 3) (by kernel_rfl) hS rfl rfl ⟨_, rfl, _, by rw [hfin]; rfl, by rw [hfin]; exact edges_nil _, hB⟩))
    refine sI hS (gtrF rfl rfl (by omega)) fun _ hS => ?_
    refine nil_ok (wp_cond_false (hS.eval rfl) (wp_skip (qx_seq (?_))))
    obtain ⟨nn, hnn⟩ : ∃ nn, (Wire.rd (bl s)).1 = nn := ⟨_, rfl⟩
    have hnn2 : nn ≤ 512 := by omega
    have hBpre0 := hB
    have hB := Below.refl w5.heap.size w5
    have hM3b := hM3
    refine reg_seq ?_
    refine seq_op hS (by decide) (none_ownM (B := w5.heap.size) hB.size) (fun v7 w7 a1 hp hS => ?_)
    obtain ⟨⟨g0, rfl, h0⟩, hB7⟩ := hp
    have hB := hB.trans (hB7.mono hB.size)
    have hM3 := hM3b.below hB hM3b.lt
    refine sI hS (runs_assign rfl) fun _ hS => ?_
    refine nil_ok (qx_seq (reg_seq ?_))
    refine sI hS (runs_move rfl) fun _ hS => ?_
    refine sI hS (runs_move rfl) fun _ hS => ?_
    refine sI hS (runs_cutS rfl rfl hk1) fun _ hS => ?_
    refine sI hS (runs_assign rfl) fun _ hS => ?_
    refine nil_ok (qx_seq (qx_seq (reg_seq ?_)))
    refine sI hS (runs_assign rfl) fun _ hS => ?_
    refine nil_ok (?_)
    refine qx_for (fun mm a w' => ∃ (i : Nat) (ms : List E) (cur : ByteArray) (ov : Value), i ≤ nn ∧ mm = nn - i ∧ Below w5.heap.size w5 w' ∧ ms.length = i ∧ cur.size ≤ s.size ∧ RdM nn ((bl s).drop (Wire.rd (bl s)).2.1) i ms (bl cur) ∧ w'.ownsRow w5.heap.size 43 3 ov i (cellsE ms) ∧ (i = 0 → ∀ g m c, ov = .slice (some g) m c → c = 0) ∧ Sees 88 [(9, .int .u64 ((i : Nat) : Int)), (8, .string cur), (7, ov), (4, .pointer (some ⟨w1.heap.size, 0, none⟩))] a) nn ⟨0, [], cut s (Wire.rd (bl s)).2.1, _, by omega, by omega, hB, rfl, by rw [cut, ByteArray.size_extract]; omega, by rw [bl_cut]; exact RdM.zero _ _, h0, (fun _ g m c e => by cases e; rfl), hS.only _ ⟨rfl, rfl, rfl, rfl, trivial⟩⟩ ?_
    clear hS 
    rintro mm a wl1 ⟨i, ms, cur, ov, hi1, rfl, hBb1, hlen, hcs, hrdM, hown, hz, hS⟩
    have hBsz1 := hBb1.size
    have hM3 := hM3b.below hBb1 hM3b.lt
    have hB := Below.refl wl1.heap.size wl1
    refine reg_seq ?_
    refine sI hS (runs_move rfl) fun _ hS => ?_
    refine sI hS (runs_fieldK fo67_2 rfl) fun _ hS => ?_
    refine sI hS (runs_load (v := .int .u64 ((nn : Nat) : Int)) rfl pl50 (by rw [Has.at (i := 0 + 2) (v := .int .u64 (((Wire.rd (bl s)).1 : Nat) : Int)) hM3 rfl, hnn])) fun _ hS => ?_
    by_cases hlt1 : i < nn
    · skip
      refine sI hS (lssT rfl rfl (by omega)) fun _ hS => ?_
      refine nil_ok ⟨_, hS.eval rfl, fun h => by simp at h, fun _ => ?_⟩
      refine qx_seq (qx_block (qx_seq (?_)))
      have hcl : cur.size ≤ s.size := hcs
      by_cases hrt : (rdT 40 (bl cur)).2.2 = 0
      · skip
        obtain ⟨htn, htk, htp, htpos⟩ := rdT_back (bl_bytes cur) (show (rdT 40 (bl cur)) = ((rdT 40 (bl cur)).1, (rdT 40 (bl cur)).2.1, 0) by rw [← hrt])
        rw [bl_length] at htn
        have hpb : bl (S (rdT 40 (bl cur)).1) = (rdT 40 (bl cur)).1 := bl_S (fun c hc => by
          have h : c ∈ (bl cur).take (rdT 40 (bl cur)).2.1 := by rw [htk]; exact List.mem_append_right _ hc
          exact bl_bytes cur c (List.mem_of_mem_take h))
        refine reg_seq ?_
        refine sI hS (runs_move rfl) fun _ hS => ?_
        refine sI hS (runs_buildK (pv := [(0, .int .i64 2), (1, .int .i64 40)]) (cells := fq.cells.toArray) rfl (by kernel_rfl)) fun _ hS => ?_
        refine seq_op hS (by decide) (runs_call (args := [.string cur, fq.val]) goes42 rfl (rgetT_ok (by omega) hrt)) (fun v9 w9 a1 hp hS => ?_)
        obtain ⟨rfl, hB9⟩ := hp
        have hB := hB.trans (hB9.mono hB.size)
        refine sI hS (runs_move rfl) fun _ hS => ?_
        refine sI hS (runs_extract rfl rfl) fun _ hS => ?_
        refine sI hS (runs_extract rfl rfl) fun _ hS => ?_
        refine sI hS (runs_extract rfl rfl) fun _ hS => ?_
        refine seq_op hS (by decide) (runs_allocB (cs := (fn0 0).cells) zo67 rfl) (fun v11 w11 a1 hp hS => ?_)
        obtain ⟨rfl, hM11, hB11⟩ := hp
        have hLhM11 : wl1.heap.size ≤ w9.heap.size := hB.size
        have hB := hB.trans (hB11.mono hB.size)
        refine seq_none hS (runs_storeB (cs := (fs2 (S (rdT 40 (bl cur)).1)).cells) rfl rfl hM11 rfl rfl sz67) (fun v13 w13 a1 hp hS => ?_)
        obtain ⟨hM11, hU13⟩ := hp
        have hB := But.new hB hU13 (fun i e => by rw [e]; exact hLhM11) (Nat.le_refl _)
        refine sI hS (runs_assign rfl) fun _ hS => ?_
        refine sI hS (runs_assign rfl) fun _ hS => ?_
        refine nil_ok (qx_seq (qx_seq (reg_seq ?_)))
        refine sI hS (runs_move rfl) fun _ hS => ?_
        refine sI hS (runs_neq (r := false) rfl rfl (by simp)) fun _ hS => ?_
        refine nil_ok (wp_cond_false (hS.eval rfl) (wp_skip (qx_seq (reg_seq ?_))))
        refine sI hS (runs_fieldK fo67_4 rfl) fun _ hS => ?_
        refine sI hS (runs_load (v := .string (S (rdT 40 (bl cur)).1)) rfl pl9s (hM11.at (i := 0 + 4) rfl)) fun _ hS => ?_
        refine seq_op hS (by decide) (runs_call (args := [.string (S (rdT 40 (bl cur)).1)]) goes43 rfl (rrow_any (S (rdT 40 (bl cur)).1) (by rw [S_size]; omega) w13)) (fun v15 w15 a1 hp hS => ?_)
        rw [hpb] at hp
        obtain ⟨rfl, hB15⟩ := hp
        have hB := hB.trans (hB15.mono hB.size)
        refine sI hS (runs_move rfl) fun _ hS => ?_
        refine sI hS (runs_extract rfl rfl) fun _ hS => ?_
        refine sI hS (runs_extract rfl rfl) fun _ hS => ?_
        refine seq_op hS (by decide) (runs_allocB (cs := [.int .i64 0, .int .i64 0, .int .i64 0]) zo41 rfl) (fun v17 w17 a1 hp hS => ?_)
        obtain ⟨rfl, hM17, hB17⟩ := hp
        have hLhM17 : wl1.heap.size ≤ w15.heap.size := hB.size
        have hB := hB.trans (hB17.mono hB.size)
        refine seq_none hS (runs_storeB (cs := encE (rdR (rdT 40 (bl cur)).1).1) rfl rfl hM17 rfl rfl sz41) (fun v19 w19 a1 hp hS => ?_)
        obtain ⟨hM17, hU19⟩ := hp
        have hB := But.new hB hU19 (fun i e => by rw [e]; exact hLhM17) (Nat.le_refl _)
        refine sI hS (runs_assign rfl) fun _ hS => ?_
        refine nil_ok (qx_seq (qx_seq (reg_seq ?_)))
        refine sI hS (runs_move rfl) fun _ hS => ?_
        by_cases hre : (rdR (rdT 40 (bl cur)).1).2 ≠ 0
        · skip
          refine sI hS (runs_neq (r := true) rfl rfl (by simpa using hre)) fun _ hS => ?_
          refine nil_ok (wp_cond_true (hS.eval rfl) (qx_seq (reg_seq ?_)))
          refine sI hS (runs_move rfl) fun _ hS => ?_
          refine sI hS (runs_assign rfl) fun _ hS => ?_
          refine sI hS (runs_assign rfl) fun _ hS => ?_
          have hfin := getM_e3 hrd0 hbig (by rw [hnn]; exact hrdM.errR hlt1 hrt hre) hre
          exact nil_ok (qx_ret (ret2 (t := 2) (u := 3) (by kernel_rfl) hS rfl rfl ⟨_, rfl, _, by rw [hfin]; rfl, by rw [hfin]; exact edges_nil _, (hBpre0.trans ((hBb1.trans (hB.mono hBb1.size)).mono hBpre0.size))⟩))
        refine sI hS (runs_neq (r := false) rfl rfl (by simpa using hre)) fun _ hS => ?_
        refine nil_ok (wp_cond_false (hS.eval rfl) (wp_skip (?_)))
        replace hre := Classical.not_not.1 hre
        have hownW := owns_kept hown hB
        have hszW : w5.heap.size ≤ w19.heap.size := Nat.le_trans hBsz1 hB.size
        have hcap : 0 < i ∨ ∀ g m c, ov = .slice (some g) m c → c = 0 := (Nat.eq_zero_or_pos i).elim (fun h => .inr (hz h)) .inl
        refine reg_x (KR 43 3 w5.heap.size (cellsE ms ++ encE (rdR (rdT 40 (bl cur)).1).1)) (fun w' => KR 43 3 w5.heap.size (cellsE ms ++ encE (rdR (rdT 40 (bl cur)).1).1) w19 w') [.inl (ov), .inl (.agg (encE (rdR (rdT 40 (bl cur)).1).1).toArray), .inr (fun v w' => ∃ g5, v = .slice (some ⟨g5, 0, none⟩) 1 1 ∧ Has w' g5 43 (encE (rdR (rdT 40 (bl cur)).1).1)), .inr (fun v w' => (∃ g3 c3, v = .slice (some ⟨g3, 0, none⟩) (i + 1) c3) ∧ w'.ownsRow w5.heap.size 43 3 v (i + 1) (cellsE ms ++ encE (rdR (rdT 40 (bl cur)).1).1)), .inl (.string cur), .inl (.int .i64 ((rdT 40 (bl cur)).2.1 : Int)), .inl (.string (cut cur (rdT 40 (bl cur)).2.1)), .inr (fun v w' => (∃ g3 c3, v = .slice (some ⟨g3, 0, none⟩) (i + 1) c3) ∧ w'.ownsRow w5.heap.size 43 3 v (i + 1) (cellsE ms ++ encE (rdR (rdT 40 (bl cur)).1).1)), .inl (.string (cut cur (rdT 40 (bl cur)).2.1))] 9 0 mixed rfl (by kernel_rfl) hS KR.refl (fun _ h => h.drew) ?_
        refine ks_is rfl (fun w' hw => runs_move rfl) ?_
        refine ks_is rfl (fun w' hw => runs_loadRow rfl (hw.2.2.2 _ _ rfl hM17) Tryz.underlying43 rfl (by rw [sz41]; rfl)) ?_
        refine ks_pr rfl (fun _ _ _ h hk => by obtain ⟨g5, h1, h2⟩ := h; exact ⟨g5, h1, hk.2.2.2 _ _ rfl h2⟩) (fun w' hw hq => (runs_oneM rfl).mono (by rintro v w5 ⟨g5, h1, h2, hb⟩; exact ⟨⟨g5, h1, h2⟩, hw.trans (KR.of_below hb (Nat.le_trans hszW hw.1.size)), KR.of_below hb (Nat.le_trans hszW hw.1.size)⟩)) (fun u2 => ?_)
        refine ks_pr rfl (fun _ _ _ h hk => ⟨h.1, hk.2.1 _ _ _ (List.prefix_refl _) h.2⟩) (fun w' hw hq => (by obtain ⟨g5, rfl, hX⟩ := hq (2, _) List.mem_cons_self (by kernel_rfl); exact (push_ownMK rfl (hw.2.1 _ _ _ (List.prefix_append _ _) hownW) rfl hX (by omega) (Nat.le_trans hszW hw.1.size) hcap).mono (by rintro v w5 ⟨h1, h2, h3⟩; exact ⟨⟨h1, h2⟩, hw.trans h3, h3⟩))) (fun u3 => ?_)
        refine ks_is rfl (fun w' hw => runs_move rfl) ?_
        refine ks_is rfl (fun w' hw => runs_move rfl) ?_
        refine ks_is rfl (fun w' hw => runs_cutS rfl rfl htn) ?_
        refine ks_pr rfl (fun _ _ _ h hk => ⟨h.1, hk.2.1 _ _ _ (List.prefix_refl _) h.2⟩) (fun w' hw hq => (by have h := hq (3, _) List.mem_cons_self (by kernel_rfl); exact (runs_assign rfl).mono (by rintro v w5 ⟨rfl, rfl⟩; exact ⟨h, hw, KR.refl⟩))) (fun u7 => ?_)
        refine ks_is rfl (fun w' hw => runs_assign rfl) ?_
        refine (fun a21 w21 hS hK21 hq => ?_)


        obtain ⟨⟨g3, c3, rfl⟩, h41⟩ := (hq (7, _) List.mem_cons_self)
        clear hq
        refine wpAnyH_done (by kernel_rfl) ?_ _
        refine reg_seq ?_
        refine sI hS (runs_move rfl) fun _ hS => ?_
        refine sI hS (runs_add (r := ((i + 1 : Nat) : Int)) rfl rfl (by simp [IntKind.wrap, IntKind.bits, IntKind.signed]; omega)) fun _ hS => ?_
        refine sI hS (runs_assign rfl) fun _ hS => ?_
        exact nil_ok ⟨_, by omega, i + 1, ms ++ [(rdR (rdT 40 (bl cur)).1).1], cut cur (rdT 40 (bl cur)).2.1, _, by omega, rfl, hBb1.trans ((hB.mono hBb1.size).trans hK21.1), by simp [hlen], by rw [cut, ByteArray.size_extract]; omega, by rw [bl_cut]; exact hrdM.step hlt1 hrt hre, by rw [cellsE_append, cellsE_one]; exact h41, (fun h => by omega), hS.only _ ⟨rfl, rfl, rfl, rfl, trivial⟩⟩
      · skip
        refine reg_seq ?_
        refine sI hS (runs_move rfl) fun _ hS => ?_
        refine sI hS (runs_buildK (pv := [(0, .int .i64 2), (1, .int .i64 40)]) (cells := fq.cells.toArray) rfl (by kernel_rfl)) fun _ hS => ?_
        refine seq_op hS (by decide) (runs_call (args := [.string cur, fq.val]) goes42 rfl (rgetT_bad (by omega) hrt)) (fun v22 w22 a1 hp hS => ?_)
        obtain ⟨rfl, hB22⟩ := hp
        have hB := hB.trans (hB22.mono hB.size)
        refine sI hS (runs_move rfl) fun _ hS => ?_
        refine sI hS (runs_extract rfl rfl) fun _ hS => ?_
        refine sI hS (runs_extract rfl rfl) fun _ hS => ?_
        refine sI hS (runs_extract rfl rfl) fun _ hS => ?_
        refine seq_op hS (by decide) (runs_allocB (cs := (fn0 0).cells) zo67 rfl) (fun v24 w24 a1 hp hS => ?_)
        obtain ⟨rfl, hM24, hB24⟩ := hp
        have hLhM24 : wl1.heap.size ≤ w22.heap.size := hB.size
        have hB := hB.trans (hB24.mono hB.size)
        refine seq_none hS (runs_storeB (cs := (fn0 0).cells) rfl rfl hM24 rfl rfl sz67) (fun v26 w26 a1 hp hS => ?_)
        obtain ⟨hM24, hU26⟩ := hp
        have hB := But.new hB hU26 (fun i e => by rw [e]; exact hLhM24) (Nat.le_refl _)
        refine sI hS (runs_assign rfl) fun _ hS => ?_
        refine sI hS (runs_assign rfl) fun _ hS => ?_
        refine nil_ok (qx_seq (qx_seq (reg_seq ?_)))
        refine sI hS (runs_move rfl) fun _ hS => ?_
        refine sI hS (runs_neq (r := true) rfl rfl (by simpa using hrt)) fun _ hS => ?_
        refine nil_ok (wp_cond_true (hS.eval rfl) (qx_seq (reg_seq ?_)))
        refine sI hS (runs_move rfl) fun _ hS => ?_
        refine sI hS (runs_assign rfl) fun _ hS => ?_
        refine sI hS (runs_assign rfl) fun _ hS => ?_
        have hfin := getM_e3 hrd0 hbig (by rw [hnn]; exact hrdM.errT hlt1 hrt) hrt
        exact nil_ok (qx_ret (ret2 (t := 2) (u := 3) (by kernel_rfl) hS rfl rfl ⟨_, rfl, _, by rw [hfin]; rfl, by rw [hfin]; exact edges_nil _, (hBpre0.trans ((hBb1.trans (hB.mono hBb1.size)).mono hBpre0.size))⟩))
    refine sI hS (lssF rfl rfl (by omega)) fun _ hS => ?_
    obtain rfl : i = nn := by omega
    refine nil_ok ⟨_, hS.eval rfl, fun _ => ?_, fun h => by simp at h⟩
    have hB := hBb1
    have hallM := hrdM.all
    rw [← hnn] at hallM
    obtain ⟨Ao, co, hoe, -⟩ := id (edges_own hown hlen)
    subst hoe
    refine qx_seq (qx_seq (?_))
    by_cases hmore : bl cur = []
    · skip
      refine reg_seq ?_
      refine sI hS (runs_move rfl) fun _ hS => ?_
      refine sI hS (runs_neStr (r := false) rfl rfl (by rw [show bl (⟨#[]⟩ : ByteArray) = [] from rfl]; simp [hmore])) fun _ hS => ?_
      refine nil_ok (wp_cond_false (hS.eval rfl) (wp_skip (qx_seq (qx_seq (?_)))))
      rw [hmore] at hallM
      have hEo : Edges wl1 (.slice Ao ms.length co) ms := edges_own hown hlen
      clear hz
      have hBpre2 := hB
      have hB := Below.refl wl1.heap.size wl1
      have hEob := hEo
      refine reg_seq ?_
      refine sI hS (runs_assign rfl) fun _ hS => ?_
      have hmsl : ms.length ≤ 512 := by omega
      refine nil_ok (?_)
      refine qx_for (fun mm a w' => ∃ (q : Nat), q ≤ (ms.length - 1) ∧ mm = (ms.length - 1) - q ∧ Below wl1.heap.size wl1 w' ∧ (∀ j a b, j < q → ms[j]? = some a → ms[j + 1]? = some b → lessM a b = true) ∧ Sees 88 [(15, .int .i64 ((q + 1 : Nat) : Int)), (7, .slice Ao ms.length co)] a) (ms.length - 1) ⟨0, by omega, by omega, hB, (fun j a b hj => by omega), hS.only _ ⟨rfl, rfl, trivial⟩⟩ ?_
      clear hS 
      rintro mm a wl1 ⟨q, hi1, rfl, hBb1, hup, hS⟩
      have hEo := hEob.kept hBb1
      have hB := Below.refl wl1.heap.size wl1
      have hEob1 := hEo
      refine reg_seq ?_
      refine sI hS (runs_move rfl) fun _ hS => ?_
      refine sI hS (runs_move rfl) fun _ hS => ?_
      refine sI hS (runs_len rfl und32) fun _ hS => ?_
      by_cases hlt1 : q < (ms.length - 1)
      · skip
        refine sI hS (lssT rfl rfl (by omega)) fun _ hS => ?_
        refine nil_ok ⟨_, hS.eval rfl, fun h => by simp at h, fun _ => ?_⟩
        obtain ⟨x, hx⟩ : ∃ x, ms[q]? = some x := ⟨ms[q], by simp⟩
        obtain ⟨y, hy⟩ : ∃ y, ms[q + 1]? = some y := ⟨ms[q + 1], by simp⟩
        obtain ⟨bo, oo, hbe, hbo, hro⟩ := edges_row hEo (by omega)
        cases hbe
        have hrx := edges_at hro hx
        have hry := edges_at hro hy
        refine qx_seq (qx_block (qx_seq (?_)))
        by_cases hle : lessM x y = true
        · skip
          refine reg_guard (fun w' => Below wl1.heap.size wl1 w') [.inl (.slice (some ⟨bo, oo, none⟩) ms.length co), .inl (.int .i64 ((q + 1 : Nat) : Int)), .inl (.int .i64 ((q : Nat) : Int)), .inl (.pointer (some ⟨bo, oo + q * 3, none⟩)), .inl (.agg (encE x).toArray), .inl (.slice (some ⟨bo, oo, none⟩) ms.length co), .inl (.int .i64 ((q + 1 : Nat) : Int)), .inl (.pointer (some ⟨bo, oo + (q + 1) * 3, none⟩)), .inl (.agg (encE y).toArray), .inl (.bool true), .inl (.bool false)] 11 0 mixed rfl (by kernel_rfl) hS (Below.refl _ _) (fun _ h => h.drew) ?_
          refine hs_is rfl (fun w' hw => runs_move rfl) ?_
          refine hs_is rfl (fun w' hw => runs_move rfl) ?_
          refine hs_is rfl (fun w' hw => runs_sub (r := ((q : Nat) : Int)) rfl rfl (by simp [IntKind.wrap, IntKind.bits, IntKind.signed]; omega)) ?_
          refine hs_is rfl (fun w' hw => runs_indexAddrG (j := q) rfl rfl und32 sz41 rfl (by omega)) ?_
          refine hs_is rfl (fun w' hw => runs_loadM rfl (range_below hrx hw hbo)) ?_
          refine hs_is rfl (fun w' hw => runs_move rfl) ?_
          refine hs_is rfl (fun w' hw => runs_move rfl) ?_
          refine hs_is rfl (fun w' hw => runs_indexAddrG (j := q + 1) rfl rfl und32 sz41 rfl (by omega)) ?_
          refine hs_is rfl (fun w' hw => runs_loadM rfl (range_below hry hw hbo)) ?_
          refine hs_val rfl (fun w' hw hq => (runs_call (args := [.agg (encE x).toArray, .agg (encE y).toArray]) goes41 rfl (less_is (r := true) hle w')).mono (by rintro u w5 ⟨rfl, hb⟩; exact ⟨rfl, hw.trans (hb.mono hw.size), hb⟩)) ?_
          refine hs_is rfl (fun w' hw => runs_not (b := true) rfl) ?_
          refine (fun a28 w28 hS hB28 hq => ?_)
          clear hq
          have hB := hB.trans (hB28.mono hB.size)
          have hEo := hEob1.kept hB
          refine wpAnyH_done (by kernel_rfl) ?_ _
          refine wp_cond_false (hS.eval rfl) (wp_skip (reg_seq ?_))
          refine sI hS (runs_move rfl) fun _ hS => ?_
          refine sI hS (runs_add (r := ((q + 1 + 1 : Nat) : Int)) rfl rfl (by simp [IntKind.wrap, IntKind.bits, IntKind.signed]; omega)) fun _ hS => ?_
          refine sI hS (runs_assign rfl) fun _ hS => ?_
          exact nil_ok ⟨_, by omega, q + 1, by omega, rfl, hBb1.trans (hB.mono hBb1.size), (fun j a b hj ha hb => by rcases Nat.lt_or_eq_of_le (Nat.le_of_lt_succ hj) with h | rfl; exact hup j a b h ha hb; rw [hx] at ha; rw [hy] at hb; cases ha; cases hb; exact hle), hS.only _ ⟨rfl, rfl, trivial⟩⟩
        · skip
          refine reg_guard (fun w' => Below wl1.heap.size wl1 w') [.inl (.slice (some ⟨bo, oo, none⟩) ms.length co), .inl (.int .i64 ((q + 1 : Nat) : Int)), .inl (.int .i64 ((q : Nat) : Int)), .inl (.pointer (some ⟨bo, oo + q * 3, none⟩)), .inl (.agg (encE x).toArray), .inl (.slice (some ⟨bo, oo, none⟩) ms.length co), .inl (.int .i64 ((q + 1 : Nat) : Int)), .inl (.pointer (some ⟨bo, oo + (q + 1) * 3, none⟩)), .inl (.agg (encE y).toArray), .inl (.bool false), .inl (.bool true)] 11 0 mixed rfl (by kernel_rfl) hS (Below.refl _ _) (fun _ h => h.drew) ?_
          refine hs_is rfl (fun w' hw => runs_move rfl) ?_
          refine hs_is rfl (fun w' hw => runs_move rfl) ?_
          refine hs_is rfl (fun w' hw => runs_sub (r := ((q : Nat) : Int)) rfl rfl (by simp [IntKind.wrap, IntKind.bits, IntKind.signed]; omega)) ?_
          refine hs_is rfl (fun w' hw => runs_indexAddrG (j := q) rfl rfl und32 sz41 rfl (by omega)) ?_
          refine hs_is rfl (fun w' hw => runs_loadM rfl (range_below hrx hw hbo)) ?_
          refine hs_is rfl (fun w' hw => runs_move rfl) ?_
          refine hs_is rfl (fun w' hw => runs_move rfl) ?_
          refine hs_is rfl (fun w' hw => runs_indexAddrG (j := q + 1) rfl rfl und32 sz41 rfl (by omega)) ?_
          refine hs_is rfl (fun w' hw => runs_loadM rfl (range_below hry hw hbo)) ?_
          refine hs_val rfl (fun w' hw hq => (runs_call (args := [.agg (encE x).toArray, .agg (encE y).toArray]) goes41 rfl (less_is (r := false) (Bool.eq_false_iff.2 hle) w')).mono (by rintro u w5 ⟨rfl, hb⟩; exact ⟨rfl, hw.trans (hb.mono hw.size), hb⟩)) ?_
          refine hs_is rfl (fun w' hw => runs_not (b := false) rfl) ?_
          refine (fun a30 w30 hS hB30 hq => ?_)
          clear hq
          have hB := hB.trans (hB30.mono hB.size)
          have hEo := hEob1.kept hB
          refine wpAnyH_done (by kernel_rfl) ?_ _
          refine wp_cond_true (hS.eval rfl) (qx_seq (reg_seq ?_))
          refine sI hS (runs_assign rfl) fun _ hS => ?_
          refine sI hS (runs_assign rfl) fun _ hS => ?_
          have hfin := getM_e5 hrd0 hbig hallM (fun h => hle ((upM_iff ms).1 h.1 q x y hx hy))
          exact nil_ok (qx_ret (ret2 (t := 2) (u := 3) (by kernel_rfl) hS rfl rfl ⟨_, rfl, _, by rw [hfin]; rfl, by rw [hfin]; exact edges_nil _, (hBpre0.trans ((hBpre2.trans ((hBb1.trans (hB.mono hBb1.size)).mono hBpre2.size)).mono hBpre0.size))⟩))
      refine sI hS (lssF rfl rfl (by omega)) fun _ hS => ?_
      have hupm : upM ms = true := (upM_iff ms).2 (fun j a b ha hb => hup j a b (by have := (List.getElem?_eq_some_iff.1 hb).1; omega) ha hb)
      refine nil_ok ⟨_, hS.eval rfl, fun _ => ?_, fun h => by simp at h⟩
      have hB := hBb1
      refine qx_seq (qx_seq (reg_seq ?_))
      refine sI hS (runs_move rfl) fun _ hS => ?_
      refine seq_op hS (by decide) (runs_call (args := [.slice Ao ms.length co]) goes14 rfl (rright_any ms _ wl1 hEo)) (fun v32 w32 a1 hp hS => ?_)
      obtain ⟨rfl, hB32⟩ := hp
      have hB := hB.trans (hB32.mono hB.size)
      have hEo := hEo.kept hB32
      by_cases hr : rightM ms = true
      · skip
        rw [hr] at hS
        refine sI hS (runs_not (b := true) rfl) fun _ hS => ?_
        refine nil_ok (wp_cond_false (hS.eval rfl) (wp_skip (qx_seq (reg_seq ?_))))
        refine sI hS (runs_move rfl) fun _ hS => ?_
        refine sI hS (runs_assign rfl) fun _ hS => ?_
        refine sI hS (runs_assign rfl) fun _ hS => ?_
        have hfin := getM_ok hrd0 hbig hallM hupm hr
        exact nil_ok (qx_ret (ret2 (t := 2) (u := 3) (by kernel_rfl) hS rfl rfl ⟨_, rfl, _, by rw [hfin]; rfl, by rw [hfin]; exact hEo, (hBpre0.trans ((hBpre2.trans (hB.mono hBpre2.size)).mono hBpre0.size))⟩))
      · skip
        rw [Bool.eq_false_iff.2 hr] at hS
        refine sI hS (runs_not (b := false) rfl) fun _ hS => ?_
        refine nil_ok (wp_cond_true (hS.eval rfl) (qx_seq (reg_seq ?_)))
        refine sI hS (runs_assign rfl) fun _ hS => ?_
        refine sI hS (runs_assign rfl) fun _ hS => ?_
        have hfin := getM_e5 hrd0 hbig hallM (fun h => hr h.2)
        exact nil_ok (qx_ret (ret2 (t := 2) (u := 3) (by kernel_rfl) hS rfl rfl ⟨_, rfl, _, by rw [hfin]; rfl, by rw [hfin]; exact edges_nil _, (hBpre0.trans ((hBpre2.trans (hB.mono hBpre2.size)).mono hBpre0.size))⟩))
    · skip
      refine reg_seq ?_
      refine sI hS (runs_move rfl) fun _ hS => ?_
      refine sI hS (runs_neStr (r := true) rfl rfl (by rw [show bl (⟨#[]⟩ : ByteArray) = [] from rfl]; simpa using hmore)) fun _ hS => ?_
      refine nil_ok (wp_cond_true (hS.eval rfl) (qx_seq (reg_seq ?_)))
      refine sI hS (runs_assign rfl) fun _ hS => ?_
      refine sI hS (runs_assign rfl) fun _ hS => ?_
      have hfin := getM_e4 hrd0 hbig hallM hmore
      exact nil_ok (qx_ret (ret2 (t := 2) (u := 3) (by kernel_rfl) hS rfl rfl ⟨_, rfl, _, by rw [hfin]; rfl, by rw [hfin]; exact edges_nil _, (hBpre0.trans (hB.mono hBpre0.size))⟩))
  · skip
    refine reg_seq ?_
    refine sI hS (runs_move rfl) fun _ hS => ?_
    refine sI hS (runs_buildK (pv := []) (cells := (fn0 0).cells.toArray) rfl (by kernel_rfl)) fun _ hS => ?_
    refine seq_op hS (by decide) (runs_call (args := [.string s, (fn0 0).val]) goes42 rfl (rget0_bad (by omega) hrd0)) (fun v34 w34 a1 hp hS => ?_)
    obtain ⟨rfl, hB34⟩ := hp
    have hB := hB.trans (hB34.mono hB.size)
    refine sI hS (runs_move rfl) fun _ hS => ?_
    refine sI hS (runs_extract rfl rfl) fun _ hS => ?_
    refine sI hS (runs_extract rfl rfl) fun _ hS => ?_
    refine sI hS (runs_extract rfl rfl) fun _ hS => ?_
    refine seq_op hS (by decide) (runs_allocB (cs := (fn0 0).cells) zo67 rfl) (fun v36 w36 a1 hp hS => ?_)
    obtain ⟨rfl, hM36, hB36⟩ := hp
    have hLhM36 : w.heap.size ≤ w34.heap.size := hB.size
    have hB := hB.trans (hB36.mono hB.size)
    refine seq_none hS (runs_storeB (cs := (fn0 0).cells) rfl rfl hM36 rfl rfl sz67) (fun v38 w38 a1 hp hS => ?_)
    obtain ⟨hM36, hU38⟩ := hp
    have hB := But.new hB hU38 (fun i e => by rw [e]; exact hLhM36) (Nat.le_refl _)
    refine sI hS (runs_assign rfl) fun _ hS => ?_
    refine sI hS (runs_assign rfl) fun _ hS => ?_
    refine nil_ok (qx_seq (qx_seq (reg_seq ?_)))
    refine sI hS (runs_move rfl) fun _ hS => ?_
    refine sI hS (runs_neq (r := true) rfl rfl (by simpa using hrd0)) fun _ hS => ?_
    refine nil_ok (wp_cond_true (hS.eval rfl) (qx_seq (reg_seq ?_)))
    refine sI hS (runs_move rfl) fun _ hS => ?_
    refine sI hS (runs_assign rfl) fun _ hS => ?_
    refine sI hS (runs_assign rfl) fun _ hS => ?_
    have hfin := getM_e1 hrd0
    exact nil_ok (qx_ret (ret2 (t := 2) (u := 3) (by kernel_rfl) hS rfl rfl ⟨_, rfl, _, by rw [hfin]; rfl, by rw [hfin]; exact edges_nil _, hB⟩))
end Go.Proofs.YthkbnbnfjnliaaaGreatDoor
