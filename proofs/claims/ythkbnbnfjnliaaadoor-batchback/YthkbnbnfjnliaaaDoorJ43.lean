/- Layer 11: five of its laws, walked over the contracts of what they call. -/
import Derived.Test.YthkbnbnfjnliaaaDoorJ35
import Derived.Test.YthkbnbnfjnliaaaDoorBRef
import Derived.Test.YthkbnbnfjnliaaaDoorBProg
import Derived.Test.YthkbnbnfjnliaaaDoorBGet
namespace Go.Proofs.YthkbnbnfjnliaaaDoor
open Go.RowKit
set_option maxRecDepth 100000

set_option maxHeartbeats 1000000 in
theorem back_law (hAw : AwkC) (hP : PutC) (hG : GetC) (s : ByteArray) (w : World) (hk : Kept w) : Ans 3 [.string s] w (fun u w' => u = .bool true ∧ Below w.heap.size w w') := by
  refine calls_qx (args := [.string s]) 37 Tryd.func3 rfl (by kernel_rfl) (by simp) (fun a hS => ?_)
  have hB := Below.refl w.heap.size w
  refine qx_seq (reg_seq ?_)
  refine sI hS (runs_assign rfl) fun _ hS => ?_
  refine nil_ok (qx_seq (qx_seq (reg_seq ?_)))
  refine seq_op hS (by decide) (runs_call (args := []) goes4 rfl (hAw w (hk.below hB hk.pos))) (fun v1 w1 a1 hp hS => ?_)
  obtain ⟨rfl, hB1⟩ := hp
  have hB := hB.trans (hB1.mono hB.size)
  refine sI hS (runs_not (b := true) rfl) fun _ hS => ?_
  refine sI hS (runs_move rfl) fun _ hS => ?_
  refine sY hS (runs_move rfl) fun _ hS => ?_
  refine sY hS (runs_lens rfl und9) fun _ hS => ?_
  by_cases hbig : 500 < s.size
  · skip
    refine sY hS (gtrT rfl rfl (by omega)) fun _ hS => ?_
    refine sI hS (runs_pick rfl rfl) fun _ hS => ?_
    refine nil_ok (wp_cond_true (hS.eval rfl) (qx_seq (reg_seq ?_)))
    refine seq_op hS (by decide) (runs_call (args := []) goes4 rfl (hAw w1 (hk.below hB hk.pos))) (fun v3 w3 a1 hp hS => ?_)
    obtain ⟨rfl, hB3⟩ := hp
    have hB := hB.trans (hB3.mono hB.size)
    refine sI hS (runs_assign rfl) fun _ hS => ?_
    exact nil_ok (qx_ret (ret1 (t := 2) (by kernel_rfl) hS rfl ⟨_, rfl, rfl, hB⟩))
  refine sY hS (gtrF rfl rfl (by omega)) fun _ hS => ?_
  refine sI hS (runs_pick rfl rfl) fun _ hS => ?_
  refine nil_ok (wp_cond_false (hS.eval rfl) (wp_skip (qx_seq (reg_seq ?_))))
  refine sI hS (runs_move rfl) fun _ hS => ?_
  refine seq_op hS (by decide) (runs_call (args := [.string s]) goes5 rfl (hG s w1 (by omega))) (fun v5 w5 a1 hp hS => ?_)
  obtain ⟨v9, rfl, hV, hB5⟩ := hp
  have hB := hB.trans (hB5.mono hB.size)
  obtain ⟨A9, c9, rfl, _⟩ := id hV
  refine sI hS (runs_move rfl) fun _ hS => ?_
  refine sI hS (runs_extract rfl rfl) fun _ hS => ?_
  refine sI hS (runs_extract rfl rfl) fun _ hS => ?_
  refine sI hS (runs_assign rfl) fun _ hS => ?_
  refine sI hS (runs_assign rfl) fun _ hS => ?_
  refine nil_ok (qx_seq (qx_seq (reg_seq ?_)))
  refine sI hS (runs_move rfl) fun _ hS => ?_
  by_cases he : (getM (bl s)).2 ≠ 0
  · skip
    refine sI hS (runs_neq (r := true) rfl rfl (by simpa using he)) fun _ hS => ?_
    refine nil_ok (wp_cond_true (hS.eval rfl) (qx_seq (reg_seq ?_)))
    refine sI hS (runs_move rfl) fun _ hS => ?_
    refine sI hS (runs_len rfl und32) fun _ hS => ?_
    refine sI hS (runs_eql (r := true) rfl rfl (by rw [getM_none he]; rfl)) fun _ hS => ?_
    refine sI hS (runs_assign rfl) fun _ hS => ?_
    exact nil_ok (qx_ret (ret1 (t := 2) (by kernel_rfl) hS rfl ⟨_, rfl, rfl, hB⟩))
  refine sI hS (runs_neq (r := false) rfl rfl (by simpa using he)) fun _ hS => ?_
  refine nil_ok (wp_cond_false (hS.eval rfl) (wp_skip (qx_seq (?_))))
  replace he := Classical.not_not.1 he
  obtain ⟨hr, hso, hby⟩ := getM_back (bl_bytes s) he
  have hle := ((rightM_iff _).1 hr).2.2
  refine reg_seq ?_
  refine sI hS (runs_move rfl) fun _ hS => ?_
  refine seq_op hS (by decide) (runs_call (args := [.slice A9 (getM (bl s)).1.length c9]) goes6 rfl (hP (getM (bl s)).1 _ w5 hV (by omega))) (fun v7 w7 a1 hp hS => ?_)
  obtain ⟨rfl, hB7⟩ := hp
  have hB := hB.trans (hB7.mono hB.size)
  refine sI hS (runs_move rfl) fun _ hS => ?_
  refine sI hS (runs_extract rfl rfl) fun _ hS => ?_
  refine sI hS (runs_extract rfl rfl) fun _ hS => ?_
  refine sI hS (runs_assign rfl) fun _ hS => ?_
  refine sI hS (runs_assign rfl) fun _ hS => ?_
  refine nil_ok (qx_seq (reg_seq ?_))
  refine sI hS (runs_move rfl) fun _ hS => ?_
  refine sI hS (runs_eql (r := true) rfl rfl (by rw [chkM_ok hr]; rfl)) fun _ hS => ?_
  refine sI hS (runs_move rfl) fun _ hS => ?_
  refine sY hS (runs_move rfl) fun _ hS => ?_
  refine sY hS (runs_move rfl) fun _ hS => ?_
  refine sY hS (runs_eqStr (r := true) rfl rfl (by rw [bl_putM hr, hby]; simp)) fun _ hS => ?_
  refine sI hS (runs_pick rfl rfl) fun _ hS => ?_
  refine sI hS (runs_assign rfl) fun _ hS => ?_
  exact nil_ok (qx_ret (ret1 (t := 2) (by kernel_rfl) hS rfl ⟨_, rfl, rfl, hB⟩))
end Go.Proofs.YthkbnbnfjnliaaaDoor
/- Layer 11: what the example fixes, walked over the contracts of what it calls. -/
namespace Go.Proofs.YthkbnbnfjnliaaaDoor
open Go.RowKit
set_option maxRecDepth 100000

theorem ex_right : rightM [((0, 1, 5) : E)] = true := by decide
theorem ex_row : rowM ((0, 1, 5) : E) = [0, 1, 10] := by
  show (if ((0 : Int) < 0 ∨ (1 : Int) < 0) then [] else Wire.num 0 ++ Wire.num 1 ++ Wire.num 10) = _
  rw [if_neg (by omega), Wire.num_lt (by omega), Wire.num_lt (by omega), Wire.num_lt (by omega)]; rfl
theorem ex_bytes : bytesM [((0, 1, 5) : E)] = [1, 3, 0, 1, 10] := by
  show Wire.num 1 ++ (([rowM ((0, 1, 5) : E)].map txt).flatten) = _
  rw [ex_row]
  show Wire.num 1 ++ ((Wire.num 3 ++ [0, 1, 10]) ++ []) = _
  rw [Wire.num_lt (by omega), Wire.num_lt (by omega)]; rfl
theorem ex_bl : bl (⟨#[1, 3, 0, 1, 10]⟩ : ByteArray) = [1, 3, 0, 1, 10] := rfl
theorem ex_put : bl (putM [((0, 1, 5) : E)]) = [1, 3, 0, 1, 10] := by rw [bl_putM ex_right, ex_bytes]
theorem ex_get : getM (bl (⟨#[1, 3, 0, 1, 10]⟩ : ByteArray)) = ([((0, 1, 5) : E)], 0) := by
  rw [ex_bl, ← ex_bytes]
  exact getM_bytes ex_right
theorem ex_fits : FitsM [((0, 1, 5) : E)] := fun m hm => by
  rw [List.mem_singleton] at hm; subst hm
  exact ⟨⟨by decide, by decide⟩, ⟨by decide, by decide⟩, by decide, by decide⟩
set_option maxHeartbeats 1000000 in
theorem bawake_c (hP : PutC) (hG : GetC) (hC : ChkC) (hR : RowsC) (hT : RootC) : AwkC := fun w hk => by
  show Ans 4 [] w _
  refine calls_qx (args := []) 50 Tryd.func4 rfl (by kernel_rfl) (by simp) (fun a hS => ?_)
  have hB := Below.refl w.heap.size w
  refine qx_seq (reg_seq ?_)
  refine sI hS (runs_assign rfl) fun _ hS => ?_
  refine nil_ok (qx_seq (reg_seq ?_))
  refine sI hS (runs_buildK (pv := [(1, .int .i64 1), (2, .int .i64 5)]) (cells := (encE ((0, 1, 5) : E)).toArray) rfl (by kernel_rfl)) fun _ hS => ?_
  refine seq_op hS (by decide) (runs_oneM (e := ((0, 1, 5) : E)) rfl) (fun v1 w1 a1 hp hS => ?_)
  obtain ⟨g2, rfl, hX, hB1⟩ := hp
  have hE := edges_has1 hX
  have hB := hB.trans (hB1.mono hB.size)
  refine sI hS (runs_assign rfl) fun _ hS => ?_
  refine nil_ok (qx_seq (reg_seq ?_))
  refine sI hS (runs_move rfl) fun _ hS => ?_
  refine seq_op hS (by decide) (runs_call (args := [.slice (some ⟨g2, 0, none⟩) 1 1]) goes6 rfl (hP [((0, 1, 5) : E)] _ w1 hE (by simp))) (fun v3 w3 a1 hp hS => ?_)
  obtain ⟨rfl, hB3⟩ := hp
  have hB := hB.trans (hB3.mono hB.size)
  have hE := hE.kept hB3
  refine sI hS (runs_move rfl) fun _ hS => ?_
  refine sI hS (runs_extract rfl rfl) fun _ hS => ?_
  refine sI hS (runs_extract rfl rfl) fun _ hS => ?_
  refine sI hS (runs_assign rfl) fun _ hS => ?_
  refine sI hS (runs_assign rfl) fun _ hS => ?_
  refine nil_ok (qx_seq (reg_seq ?_))
  refine seq_op hS (by decide) (runs_call (args := [.string ⟨#[1, 3, 0, 1, 10]⟩]) goes5 rfl (hG ⟨#[1, 3, 0, 1, 10]⟩ w3 (by decide))) (fun v5 w5 a1 hp hS => ?_)
  rw [ex_get] at hp
  obtain ⟨v9, rfl, hV, hB5⟩ := hp
  have hB := hB.trans (hB5.mono hB.size)
  have hE := hE.kept hB5
  refine sI hS (runs_move rfl) fun _ hS => ?_
  refine sI hS (runs_extract rfl rfl) fun _ hS => ?_
  refine sI hS (runs_extract rfl rfl) fun _ hS => ?_
  refine sI hS (runs_assign rfl) fun _ hS => ?_
  refine sI hS (runs_assign rfl) fun _ hS => ?_
  refine nil_ok (qx_seq (reg_seq ?_))
  refine sI hS (runs_move rfl) fun _ hS => ?_
  refine sI hS (runs_eqStr (r := true) rfl rfl (by rw [ex_put]; rfl)) fun _ hS => ?_
  refine sI hS (runs_move rfl) fun _ hS => ?_
  refine sY hS (runs_move rfl) fun _ hS => ?_
  refine sY hS (runs_eql (r := true) rfl rfl (by rw [chkM_ok ex_right]; rfl)) fun _ hS => ?_
  refine sI hS (runs_pick rfl rfl) fun _ hS => ?_
  refine sI hS (runs_move rfl) fun _ hS => ?_
  refine sY hS (runs_move rfl) fun _ hS => ?_
  refine sY hS (runs_move rfl) fun _ hS => ?_
  refine seq_yes hS (by decide) rfl (by decide) rfl (runs_call (args := [v9, .slice (some ⟨g2, 0, none⟩) 1 1]) goes7 rfl (msame_any [((0, 1, 5) : E)] [((0, 1, 5) : E)] _ _ w5 hV hE)) (fun v7 w7 a1 hp hS => ?_)
  obtain ⟨rfl, hB7⟩ := hp
  rw [show decide ([((0, 1, 5) : E)] = [((0, 1, 5) : E)]) = true by simp] at hS
  have hB := hB.trans (hB7.mono hB.size)
  have hE := hE.kept hB7
  refine sI hS (runs_pick rfl rfl) fun _ hS => ?_
  refine sI hS (runs_move rfl) fun _ hS => ?_
  refine sY hS (runs_move rfl) fun _ hS => ?_
  refine sY hS (runs_eql (r := true) rfl rfl rfl) fun _ hS => ?_
  refine sI hS (runs_pick rfl rfl) fun _ hS => ?_
  refine sI hS (runs_move rfl) fun _ hS => ?_
  refine sY hS (runs_move rfl) fun _ hS => ?_
  refine seq_yes hS (by decide) rfl (by decide) rfl (runs_call (args := [.slice (some ⟨g2, 0, none⟩) 1 1]) goes8 rfl (hC [((0, 1, 5) : E)] _ w7 hE (by simp))) (fun v9 w9 a1 hp hS => ?_)
  obtain ⟨rfl, hB9⟩ := hp
  have hB := hB.trans (hB9.mono hB.size)
  have hE := hE.kept hB9
  refine sY hS (runs_eql (r := true) rfl rfl (by rw [chkM_ok ex_right]; rfl)) fun _ hS => ?_
  refine sI hS (runs_pick rfl rfl) fun _ hS => ?_
  refine sI hS (runs_move rfl) fun _ hS => ?_
  refine sY hS (runs_move rfl) fun _ hS => ?_
  refine seq_yes hS (by decide) rfl (by decide) rfl (runs_call (args := [.slice (some ⟨g2, 0, none⟩) 1 1]) goes9 rfl (hT [((0, 1, 5) : E)] _ w9 hE (by simp) ex_fits (hk.below hB hk.pos))) (fun v11 w11 a1 hp hS => ?_)
  obtain ⟨rfl, hB11⟩ := hp
  have hB := hB.trans (hB11.mono hB.size)
  have hE := hE.kept hB11
  refine sY hS (runs_move rfl) fun _ hS => ?_
  refine seq_yes hS (by decide) rfl (by decide) rfl (runs_call (args := [.slice (some ⟨g2, 0, none⟩) 1 1]) goes10 rfl (rroot_any [((0, 1, 5) : E)] (by simp) ex_fits _ w11 hE)) (fun v13 w13 a1 hp hS => ?_)
  obtain ⟨rfl, hB13⟩ := hp
  have hB := hB.trans (hB13.mono hB.size)
  have hE := hE.kept hB13
  refine sY hS (runs_eqHash (r := true) rfl rfl (rootM_len _) (rootM_len _) (by simp)) fun _ hS => ?_
  refine sI hS (runs_pick rfl rfl) fun _ hS => ?_
  refine sI hS (runs_move rfl) fun _ hS => ?_
  refine sY hS (runs_move rfl) fun _ hS => ?_
  refine seq_yes hS (by decide) rfl (by decide) rfl (runs_call (args := [.slice (some ⟨g2, 0, none⟩) 1 1]) goes11 rfl (hR [((0, 1, 5) : E)] _ w13 hE (by simp) ex_fits)) (fun v15 w15 a1 hp hS => ?_)
  obtain ⟨hS9, hB15⟩ := hp
  obtain ⟨A8, c8, rfl, _⟩ := hS9
  have hB := hB.trans (hB15.mono hB.size)
  refine sY hS (runs_len rfl undStrs) fun _ hS => ?_
  refine sY hS (runs_eql (r := true) rfl rfl rfl) fun _ hS => ?_
  refine sI hS (runs_pick rfl rfl) fun _ hS => ?_
  refine sI hS (runs_assign rfl) fun _ hS => ?_
  exact nil_ok (qx_ret (ret1 (t := 0) (by kernel_rfl) hS rfl ⟨_, rfl, rfl, hB⟩))
end Go.Proofs.YthkbnbnfjnliaaaDoor
/- Layer 11: what the program answers, all together. No condition. -/
namespace Go.Proofs.YthkbnbnfjnliaaaDoor
open Go.RowKit
set_option maxRecDepth 100000

theorem put0 : PutC := bput_c bcheck_c
theorem get0 : GetC := bget_c put0
theorem awk0 : AwkC := bawake_c put0 get0 bcheck_c brows_c broot_c
end Go.Proofs.YthkbnbnfjnliaaaDoor
