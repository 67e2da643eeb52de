/- Layer 3: the chapter's example holds. Conditions: the table of constants lies as it was laid. -/
import Derived.Test.YtdemoidmhmdgkaaDoorTUps
namespace Go.Proofs.YtdemoidmhmdgkaaDoor
open Go.RowKit
set_option maxRecDepth 100000

theorem strs_has {w : World} {g : Nat} {t : TypeId} {ss : List ByteArray} (h : Has w g t (ss.map Value.string)) (hm : ss.length ≤ maxLen) : Strs w (.slice (some ⟨g, 0, none⟩) ss.length ss.length) ss :=
  ⟨_, _, rfl, Nat.le_refl _, hm, fun _ => ⟨g, 0, rfl, h.lt, fun i hi => by rw [Nat.zero_add, h.cell]; simp [hi]⟩⟩
theorem hash_call {f : FuncId} {args : Array Value} {w : World} {l : List Nat} (hc : Calls Tryd.prog f args w fun e w' => e = .returned (.agg (U8 l).toArray) ∧ Below w.heap.size w w') :
    Calls Tryd.prog f args w fun e w' => ∃ v, e = .returned v ∧ v = .agg (U8 l).toArray ∧ Below w.heap.size w w' := hash_post _ hc (fun _ h => h)
theorem bool_call {f : FuncId} {args : Array Value} {w : World} {b : Bool} (hc : Calls Tryd.prog f args w fun e w' => e = .returned (.bool b) ∧ Below w.heap.size w w') :
    Calls Tryd.prog f args w fun e w' => ∃ v, e = .returned v ∧ v = .bool b ∧ Below w.heap.size w w' := hc.mono (by rintro e w' ⟨rfl, h⟩; exact ⟨_, rfl, rfl, h⟩)
def sA : ByteArray := ⟨#[97]⟩
def sB : ByteArray := ⟨#[98]⟩
def sC : ByteArray := ⟨#[99]⟩
def sD : ByteArray := ⟨#[100]⟩
def exS : List ByteArray := [sA, sB, sC]
theorem exS_bl : exS.map bl = exL := by kernel_rfl
theorem exS_size : ∀ s ∈ exS, s.size ≤ 100000 := by
  intro s hs
  simp only [exS, List.mem_cons, List.not_mem_nil, or_false] at hs
  rcases hs with rfl | rfl | rfl <;> decide
set_option maxRecDepth 100000 in
set_option maxHeartbeats 2000000 in
theorem awake_any (w : World) (hk : Kept w) : Calls Tryd.prog 11 #[] w fun e w' => e = .returned (.bool true) ∧ Below w.heap.size w w' := by
  refine calls_qx (args := []) 48 Tryd.func11 rfl (by kernel_rfl) (by simp) (fun a hS => ?_)
  obtain ⟨i9, hi9, hz9, hzs9, hzb9⟩ := info_parts infStr
  refine qx_seq (reg_seq ?_)
  refine seq_is hS (by decide) (runs_assign rfl) (fun a1 hS => ?_)
  refine nil_ok (qx_seq (reg_seq ?_))
  refine seq_op hS (by decide) (runs_buildSlice (pv := [(0, .string sA), (1, .string sB), (2, .string sC)]) rfl undStrs hi9 hz9 hzs9 (by omega) (by omega) (cells := #[.string sA, .string sB, .string sC]) (by kernel_rfl)) (fun v1 w1 a1 hp1 hS => ?_)
  obtain ⟨rfl, rfl⟩ := hp1
  have hL1 : Has (w.alloc (.cells #[.string sA, .string sB, .string sC] 9)) w.heap.size 9 (exS.map Value.string) := Has.new w 9 (exS.map Value.string)
  have hB1 : Below w.heap.size w (w.alloc (.cells #[.string sA, .string sB, .string sC] 9)) := (Below.refl _ _).alloc (Nat.le_refl _) _
  generalize w.alloc (.cells #[.string sA, .string sB, .string sC] 9) = w1 at *
  refine seq_is hS (by decide) (runs_assign rfl) (fun a1 hS => ?_)
  have hS1 : Strs w1 (.slice (some ⟨w.heap.size, 0, none⟩) 3 3) exS := strs_has hL1 (by unfold maxLen; simp [exS])
  have hk1 := hk.below hB1 hk.pos
  have hpr := prove_any exS _ 2 w1 hS1 exS_size (by simp [exS]) hk1
  rw [show thereB (exS.length : Int) 2 = true from rfl, exS_bl] at hpr
  refine nil_ok (qx_seq (reg_seq ?_))
  refine seq_is hS (by decide) (runs_move rfl) (fun a1 hS => ?_)
  refine seq_op hS (by decide) (runs_call (args := [.slice (some ⟨w.heap.size, 0, none⟩) 3 3, .int .i64 2]) (Post := fun v w' => ∃ pv, v = .tuple #[pv, .int .i64 0] ∧ Hashes w' pv (proofOf exL 2) ∧ Below w1.heap.size w1 w') goes14 rfl (hpr.mono (by rintro e w' ⟨pv, rfl, h1, h2⟩; exact ⟨_, rfl, pv, rfl, h1, h2⟩))) (fun v2 w2 a2 hp2 hS => ?_)
  obtain ⟨pv, rfl, hP2, hB2⟩ := hp2
  obtain ⟨A, c, rfl, _⟩ := id hP2
  have hpl : (proofOf exL 2).length = 1 := by rw [ex_proof]; rfl
  refine seq_is hS (by decide) (runs_move rfl) (fun a1 hS => ?_)
  refine seq_is hS (by decide) (runs_extract rfl rfl) (fun a1 hS => ?_)
  refine seq_is hS (by decide) (runs_extract rfl rfl) (fun a1 hS => ?_)
  refine seq_is hS (by decide) (runs_assign rfl) (fun a1 hS => ?_)
  refine seq_is hS (by decide) (runs_assign rfl) (fun a1 hS => ?_)
  have hB12 : Below w1.heap.size w1 w2 := hB2
  -- a world behind some calls
  have root3 : ∀ w', Below w1.heap.size w1 w' → Calls Tryd.prog 13 [Value.slice (some ⟨w.heap.size, 0, none⟩) 3 3].toArray w' fun e w'' => ∃ v, e = .returned v ∧ v = .agg (U8 (Tree.root 3 (Tree.top exL))).toArray ∧ Below w'.heap.size w' w'' := fun w' hB' => by
    have := root_any exS _ w' (hS1.kept hB') exS_size (by simp [exS]) (hk1.below hB' hk1.pos)
    rw [exS_bl] at this
    exact hash_call this
  have hrl : (Tree.root 3 (Tree.top exL)).length = 32 := Sha.Holds.sumText
  have chk : ∀ (s : ByteArray) (w' : World), s.size ≤ 10 → Below w2.heap.size w2 w' → Calls Tryd.prog 15 [Value.agg (U8 (Tree.root 3 (Tree.top exL))).toArray, .int .i64 3, .int .i64 2, .string s, .slice A (proofOf exL 2).length c].toArray w' fun e w'' => ∃ v, e = .returned v ∧ v = .bool (checkB (Tree.root 3 (Tree.top exL)) 3 2 (bl s) (proofOf exL 2)) ∧ Below w'.heap.size w' w'' := fun s w' hs hB' =>
    bool_call (check_any _ 3 2 s _ _ w' hrl (hP2.kept hB') (by omega) (by omega) ((hk1.below hB12 hk1.pos).below hB' (by have := hB12.size; have := hk1.pos; omega)))
  refine nil_ok (qx_seq (reg_seq ?_))
  refine seq_is hS (by decide) (runs_move rfl) (fun a1 hS => ?_)
  refine seq_is hS (by decide) (runs_eql (r := true) rfl rfl rfl) (fun a1 hS => ?_)
  refine seq_is hS (by decide) (runs_move rfl) (fun a1 hS => ?_)
  refine seq_yis hS (by decide) rfl (by decide) rfl (runs_move rfl) (fun a1 hS => ?_)
  refine seq_yis hS (by decide) rfl (by decide) rfl (runs_len rfl undHashes) (fun a1 hS => ?_)
  refine seq_yis hS (by decide) rfl (by decide) rfl (runs_eql (r := true) rfl rfl (by rw [hpl]; rfl)) (fun a1 hS => ?_)
  refine seq_is hS (by decide) (runs_pick rfl rfl) (fun a1 hS => ?_)
  refine seq_is hS (by decide) (runs_move rfl) (fun a1 hS => ?_)
  refine seq_yis hS (by decide) rfl (by decide) rfl (runs_move rfl) (fun a1 hS => ?_)
  refine seq_yes hS (by decide) rfl (by decide) rfl (runs_call (args := [.slice (some ⟨w.heap.size, 0, none⟩) 3 3]) goes13 rfl (root3 w2 hB12)) (fun v3 w3 a3 hp3 hS => ?_)
  obtain ⟨rfl, hB3⟩ := hp3
  refine seq_yis hS (by decide) rfl (by decide) rfl (runs_move rfl) (fun a1 hS => ?_)
  have hc1 := chk sC w3 (by decide) hB3
  rw [show bl sC = [99] by kernel_rfl, ex_good] at hc1
  refine seq_yes hS (by decide) rfl (by decide) rfl (runs_call (args := [.agg (U8 (Tree.root 3 (Tree.top exL))).toArray, .int .i64 3, .int .i64 2, .string sC, .slice A (proofOf exL 2).length c]) goes15 rfl hc1) (fun v4 w4 a4 hp4 hS => ?_)
  obtain ⟨rfl, hB4⟩ := hp4
  have hB24 : Below w2.heap.size w2 w4 := hB3.trans (hB4.mono hB3.size)
  have hB14 : Below w1.heap.size w1 w4 := hB12.trans (hB24.mono hB12.size)
  refine seq_is hS (by decide) (runs_pick rfl rfl) (fun a1 hS => ?_)
  refine seq_is hS (by decide) (runs_move rfl) (fun a1 hS => ?_)
  refine seq_yis hS (by decide) rfl (by decide) rfl (runs_move rfl) (fun a1 hS => ?_)
  refine seq_yes hS (by decide) rfl (by decide) rfl (runs_call (args := [.slice (some ⟨w.heap.size, 0, none⟩) 3 3]) goes13 rfl (root3 w4 hB14)) (fun v5 w5 a5 hp5 hS => ?_)
  obtain ⟨rfl, hB5⟩ := hp5
  have hB25 : Below w2.heap.size w2 w5 := hB24.trans (hB5.mono hB24.size)
  refine seq_yis hS (by decide) rfl (by decide) rfl (runs_move rfl) (fun a1 hS => ?_)
  have hc2 := chk sD w5 (by decide) hB25
  rw [show bl sD = [100] by kernel_rfl, ex_bad] at hc2
  refine seq_yes hS (by decide) rfl (by decide) rfl (runs_call (args := [.agg (U8 (Tree.root 3 (Tree.top exL))).toArray, .int .i64 3, .int .i64 2, .string sD, .slice A (proofOf exL 2).length c]) goes15 rfl hc2) (fun v6 w6 a6 hp6 hS => ?_)
  obtain ⟨rfl, hB6⟩ := hp6
  have hB26 : Below w2.heap.size w2 w6 := hB25.trans (hB6.mono hB25.size)
  refine seq_yis hS (by decide) rfl (by decide) rfl (runs_not rfl) (fun a1 hS => ?_)
  refine seq_is hS (by decide) (runs_pick rfl rfl) (fun a1 hS => ?_)
  refine seq_is hS (by decide) (runs_move rfl) (fun a1 hS => ?_)
  have hh := half_any 3 w6 (by omega)
  rw [show halfZ 3 = 2 by unfold halfZ; rw [if_neg (by omega)]; exact ex_half] at hh
  refine seq_yis hS (by decide) rfl (by decide) rfl (runs_call (args := [.int .i64 3]) (Post := Is (.int .i64 2) w6) goes33 rfl (hh.mono (by rintro e w' ⟨rfl, rfl⟩; exact ⟨_, rfl, rfl, rfl⟩))) (fun a1 hS => ?_)
  refine seq_yis hS (by decide) rfl (by decide) rfl (runs_eql (r := true) rfl rfl rfl) (fun a1 hS => ?_)
  refine seq_is hS (by decide) (runs_pick rfl rfl) (fun a1 hS => ?_)
  refine seq_is hS (by decide) (runs_move rfl) (fun a1 hS => ?_)
  have hd := deep_any 3 0 w6
  rw [ex_deep0] at hd
  refine seq_yes hS (by decide) rfl (by decide) rfl (runs_call (args := [.int .i64 3, .int .i64 0]) (Post := fun v w' => v = .int .i64 2 ∧ Below w6.heap.size w6 w') goes32 rfl (hd.mono (by rintro e w' ⟨rfl, h⟩; exact ⟨_, rfl, rfl, h⟩))) (fun v7 w7 a7 hp7 hS => ?_)
  obtain ⟨rfl, hB7⟩ := hp7
  have hB27 : Below w2.heap.size w2 w7 := hB26.trans (hB7.mono hB26.size)
  have hB17 : Below w1.heap.size w1 w7 := hB12.trans (hB27.mono hB12.size)
  refine seq_yis hS (by decide) rfl (by decide) rfl (runs_eql (r := true) rfl rfl rfl) (fun a1 hS => ?_)
  refine seq_is hS (by decide) (runs_pick rfl rfl) (fun a1 hS => ?_)
  refine seq_is hS (by decide) (runs_move rfl) (fun a1 hS => ?_)
  have hk7 := hk1.below hB17 hk1.pos
  have htop := top_any 3 exS _ w7 rfl (hS1.kept hB17) exS_size (by omega) hk7
  rw [exS_bl] at htop
  refine seq_yis hS (by decide) rfl (by decide) rfl (runs_move rfl) (fun a1 hS => ?_)
  refine seq_yes hS (by decide) rfl (by decide) rfl (runs_call (args := [.slice (some ⟨w.heap.size, 0, none⟩) 3 3]) goes31 rfl (hash_call htop)) (fun v8 w8 a8 hp8 hS => ?_)
  obtain ⟨rfl, hB8⟩ := hp8
  have hk8 := hk7.below hB8 hk7.pos
  refine seq_yes hS (by decide) rfl (by decide) rfl (runs_call (args := [.string sA]) goes35 rfl (hash_call (leaf_any sA w8 (by decide) hk8))) (fun v9 w9 a9 hp9 hS => ?_)
  obtain ⟨rfl, hB9⟩ := hp9
  have hk9 := hk8.below hB9 hk8.pos
  refine seq_yes hS (by decide) rfl (by decide) rfl (runs_call (args := [.string sB]) goes35 rfl (hash_call (leaf_any sB w9 (by decide) hk9))) (fun v10 w10 a10 hp10 hS => ?_)
  obtain ⟨rfl, hB10⟩ := hp10
  have hk10 := hk9.below hB10 hk9.pos
  refine seq_yes hS (by decide) rfl (by decide) rfl (runs_call (args := [.agg (U8 (Tree.leaf (bl sA))).toArray, .agg (U8 (Tree.leaf (bl sB))).toArray]) goes34 rfl (hash_call (node_any _ _ w10 (Tree.leaf_len _) (Tree.leaf_len _) (sha_bytes _) (sha_bytes _) hk10))) (fun v11 w11 a11 hp11 hS => ?_)
  obtain ⟨rfl, hB11⟩ := hp11
  have hk11 := hk10.below hB11 hk10.pos
  refine seq_yes hS (by decide) rfl (by decide) rfl (runs_call (args := [.string sC]) goes35 rfl (hash_call (leaf_any sC w11 (by decide) hk11))) (fun v12 w12 a12 hp12 hS => ?_)
  obtain ⟨rfl, hB12'⟩ := hp12
  have hk12 := hk11.below hB12' hk11.pos
  refine seq_yes hS (by decide) rfl (by decide) rfl (runs_call (args := [.agg (U8 (Tree.node (Tree.leaf (bl sA)) (Tree.leaf (bl sB)))).toArray, .agg (U8 (Tree.leaf (bl sC))).toArray]) goes34 rfl (hash_call (node_any _ _ w12 (Tree.node_len _ _) (Tree.leaf_len _) (sha_bytes _) (sha_bytes _) hk12))) (fun v13 w13 a13 hp13 hS => ?_)
  obtain ⟨rfl, hB13⟩ := hp13
  refine seq_yis hS (by decide) rfl (by decide) rfl (runs_eqHash (r := true) rfl rfl (top_len _) (Tree.node_len _ _) (by rw [ex_top]; exact beq_iff_eq.2 rfl)) (fun a1 hS => ?_)
  refine seq_is hS (by decide) (runs_pick rfl rfl) (fun a1 hS => ?_)
  refine seq_is hS (by decide) (runs_assign rfl) (fun a1 hS => ?_)
  have g8 := hB8.size
  have g9 := hB9.size
  have g10 := hB10.size
  have g11 := hB11.size
  have g12 := hB12'.size
  have hfin : Below w1.heap.size w1 w13 := (((((hB17.trans (hB8.mono hB17.size)).trans (hB9.mono (by have := hB17.size; omega))).trans (hB10.mono (by have := hB17.size; omega))).trans (hB11.mono (by have := hB17.size; omega))).trans (hB12'.mono (by have := hB17.size; omega))).trans (hB13.mono (by have := hB17.size; omega))
  exact nil_ok (qx_ret (ret1 (t := 0) (by kernel_rfl) hS rfl ⟨rfl, hB1.trans (hfin.mono hB1.size)⟩))
end Go.Proofs.YtdemoidmhmdgkaaDoor
