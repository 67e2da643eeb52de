/- The document's own Twice. Conditions: both leaves are proved at one place of one root; leaves of at most 900 bytes. -/
import Derived.Test.YtdemoidmhmdgkaaDoorBRows
import Derived.Test.YtdemoidmhmdgkaaDoorMRTop
import Derived.OwnWalk
namespace Go.Proofs.YtdemoidmhmdgkaaDoor
open Go.RowKit
set_option maxRecDepth 100000

theorem ret3 {P : Program} {fn : Func} {n : Nat} {L : List (Nat × Value)} {a : Act} {w : World} {R : Ending → World → Prop} {t u r : Nat} {v v' v'' : Value} (hr : fn.results = #[.tmp t, .tmp u, .tmp r]) (hS : Sees n L a) (hv : look L t = some v) (hv' : look L u = some v') (hv'' : look L r = some v'') (hR : R (.returned (.tuple #[v, v', v''])) w) : Rets P fn R a w := by
  refine ⟨hS.2.1, _, ?_, hR⟩
  have h1 := hS.2.2 t v hv
  have h2 := hS.2.2 u v' hv'
  have h3 := hS.2.2 r v'' hv''
  rw [results_tmp3 hr, h1, h2, h3]
set_option maxHeartbeats 2000000 in
theorem twice_any (m p : Nat) (a b : ByteArray) (pv qv : Value) (hs gs : List (List Nat)) (w : World) (hsa : a.size ≤ 900) (hsb : b.size ≤ 900) (hab : bl a ≠ bl b) (hpm : p < m) (hm30 : m ≤ 1073741824) (hH : Hashes w pv hs) (hG : Hashes w qv gs) (hl1 : hs.length = (Tree.path 0 m p).length) (hl2 : gs.length = (Tree.path 0 m p).length)
    (hroot : Tree.root m (ups (Tree.leaf (bl a)) (Tree.path 0 m p) hs) = Tree.root m (ups (Tree.leaf (bl b)) (Tree.path 0 m p) gs)) :
    Calls Tryd.prog 17 #[.int .i64 (m : Int), .int .i64 (p : Int), .string a, pv, .string b, qv] w fun e w' => ∃ x y : ByteArray, e = .returned (.tuple #[.string x, .string y, .bool true]) ∧ bl x ≠ bl y ∧ Sha.sha (bl x) = Sha.sha (bl y) ∧ x.size ≤ 1000 ∧ y.size ≤ 1000 ∧ Below w.heap.size w w' := by
  obtain ⟨A, c, rfl, _, _, hok1, _⟩ := id hH
  obtain ⟨A', c', rfl, _, _, hok2, _⟩ := id hG
  have hl30 : (Tree.path 0 m p).length ≤ 30 := path_len 30 m 0 p (by omega)
  obtain ⟨i9, hi9, hz9, hzs9, hzb9⟩ := info_parts infStr
  refine calls_qx (args := [.int .i64 (m : Int), .int .i64 (p : Int), .string a, .slice A hs.length c, .string b, .slice A' gs.length c']) 128 Tryd.func17 rfl (by kernel_rfl) (by simp) (fun act hS => ?_)
  refine qx_seq (reg_seq ?_)
  refine seq_is hS (by decide) (runs_assign rfl) (fun a1 hS => ?_)
  refine seq_is hS (by decide) (runs_assign rfl) (fun a1 hS => ?_)
  refine seq_is hS (by decide) (runs_assign rfl) (fun a1 hS => ?_)
  refine nil_ok (qx_seq (qx_seq (reg_seq ?_)))
  refine seq_is hS (by decide) (runs_move rfl) (fun a1 hS => ?_)
  refine seq_is hS (by decide) (runs_lss (r := false) rfl rfl (by rw [decide_eq_false_iff_not]; omega)) (fun a1 hS => ?_)
  refine seq_is hS (by decide) (runs_move rfl) (fun a1 hS => ?_)
  refine seq_yis hS (by decide) rfl (by decide) rfl (runs_move rfl) (fun a1 hS => ?_)
  refine seq_yis hS (by decide) rfl (by decide) rfl (runs_gtr (r := false) rfl rfl (by rw [decide_eq_false_iff_not]; omega)) (fun a1 hS => ?_)
  refine seq_is hS (by decide) (runs_pick rfl rfl) (fun a1 hS => ?_)
  refine seq_is hS (by decide) (runs_move rfl) (fun a1 hS => ?_)
  refine seq_yis hS (by decide) rfl (by decide) rfl (runs_move rfl) (fun a1 hS => ?_)
  refine seq_yis hS (by decide) rfl (by decide) rfl (runs_lss (r := false) rfl rfl (by rw [decide_eq_false_iff_not]; omega)) (fun a1 hS => ?_)
  refine seq_is hS (by decide) (runs_pick rfl rfl) (fun a1 hS => ?_)
  refine seq_is hS (by decide) (runs_move rfl) (fun a1 hS => ?_)
  refine seq_yis hS (by decide) rfl (by decide) rfl (runs_move rfl) (fun a1 hS => ?_)
  refine seq_yis hS (by decide) rfl (by decide) rfl (runs_move rfl) (fun a1 hS => ?_)
  refine seq_yis hS (by decide) rfl (by decide) rfl (runs_geq (r := false) rfl rfl (by rw [decide_eq_false_iff_not]; omega)) (fun a1 hS => ?_)
  refine seq_is hS (by decide) (runs_pick rfl rfl) (fun a1 hS => ?_)
  refine seq_is hS (by decide) (runs_move rfl) (fun a1 hS => ?_)
  refine seq_yis hS (by decide) rfl (by decide) rfl (runs_move rfl) (fun a1 hS => ?_)
  refine seq_yis hS (by decide) rfl (by decide) rfl (runs_len rfl undHashes) (fun a1 hS => ?_)
  refine seq_yis hS (by decide) rfl (by decide) rfl (runs_gtr (r := false) rfl rfl (by rw [decide_eq_false_iff_not]; omega)) (fun a1 hS => ?_)
  refine seq_is hS (by decide) (runs_pick rfl rfl) (fun a1 hS => ?_)
  refine seq_is hS (by decide) (runs_move rfl) (fun a1 hS => ?_)
  refine seq_yis hS (by decide) rfl (by decide) rfl (runs_move rfl) (fun a1 hS => ?_)
  refine seq_yis hS (by decide) rfl (by decide) rfl (runs_len rfl undHashes) (fun a1 hS => ?_)
  refine seq_yis hS (by decide) rfl (by decide) rfl (runs_gtr (r := false) rfl rfl (by rw [decide_eq_false_iff_not]; omega)) (fun a1 hS => ?_)
  refine seq_is hS (by decide) (runs_pick rfl rfl) (fun a1 hS => ?_)
  refine nil_ok (wp_cond_false (hS.eval rfl) (wp_skip ?_))
  obtain ⟨⟨x0, xs, ex, sx⟩, hxb, hxn⟩ := rows_facts (bl a) (bl_bytes a) (by rw [bl_length]; exact hsa) m p hs hl1 hok1
  obtain ⟨⟨y0, ys, ey, sy⟩, hyb, hyn⟩ := rows_facts (bl b) (bl_bytes b) (by rw [bl_length]; exact hsb) m p gs hl2 hok2
  have hcl := rows_clash (bl a) (bl b) hab m p hs gs hl1 hl2 (fun h hh => (hok1 h hh).1) (fun h hh => (hok2 h hh).1)
  have hra := rows_any a hsa m p (.slice A hs.length c) hs w hpm hm30 hH hl1
  have hrb := fun w' (hB : Below w.heap.size w w') => rows_any b hsb m p (.slice A' gs.length c') gs w' hpm hm30 (hG.kept hB) hl2
  rw [ex] at hxb hxn hcl hra
  rw [ey] at hyb hyn hcl hrb
  simp only [List.headD_cons] at hcl
  rw [List.length_cons] at hxn hyn
  obtain ⟨hx0b, hx0l⟩ := hxb x0 (by simp)
  obtain ⟨hy0b, hy0l⟩ := hyb y0 (by simp)
  refine qx_seq (reg_seq ?_)
  refine seq_is hS (by decide) (runs_move rfl) (fun a1 hS => ?_)
  refine seq_is hS (by decide) (runs_move rfl) (fun a1 hS => ?_)
  refine seq_is hS (by decide) (runs_move rfl) (fun a1 hS => ?_)
  refine seq_is hS (by decide) (runs_move rfl) (fun a1 hS => ?_)
  refine seq_op hS (by decide) (runs_call (args := [.int .i64 (m : Int), .int .i64 (p : Int), .string a, .slice A hs.length c]) goes43 rfl hra) (fun v1 w1 a1 hp1 hS => ?_)
  obtain ⟨ho1, hB1⟩ := hp1
  have hsh1 : ∃ g c', v1 = .slice (some ⟨g, 0, none⟩) (xs.length + 1) c' := by
    rcases ho1.2 with ⟨_, h0⟩ | ⟨g, cap, _, rfl, _⟩
    · simp at h0
    · exact ⟨_, _, rfl⟩
  obtain ⟨g1, c1, rfl⟩ := hsh1
  have hg1 := ho1.lt g1 rfl
  refine seq_is hS (by decide) (runs_move rfl) (fun a1 hS => ?_)
  refine seq_is hS (by decide) (runs_move rfl) (fun a1 hS => ?_)
  refine seq_is hS (by decide) (runs_move rfl) (fun a1 hS => ?_)
  refine seq_is hS (by decide) (runs_move rfl) (fun a1 hS => ?_)
  refine seq_op hS (by decide) (runs_call (args := [.int .i64 (m : Int), .int .i64 (p : Int), .string b, .slice A' gs.length c']) goes43 rfl (hrb w1 hB1)) (fun v2 w2 a2 hp2 hS => ?_)
  obtain ⟨ho2, hB2⟩ := hp2
  have hsh2 : ∃ g c', v2 = .slice (some ⟨g, 0, none⟩) (ys.length + 1) c' := by
    rcases ho2.2 with ⟨_, h0⟩ | ⟨g, cap, _, rfl, _⟩
    · simp at h0
    · exact ⟨_, _, rfl⟩
  obtain ⟨g2, c2, rfl⟩ := hsh2
  have hg2 := ho2.lt g2 rfl
  have hB12 : Below w.heap.size w w2 := hB1.trans (hB2.mono hB1.size)
  have ho12 := owns_kept ho1 hB2
  refine seq_is hS (by decide) (runs_assign rfl) (fun a1 hS => ?_)
  refine seq_is hS (by decide) (runs_assign rfl) (fun a1 hS => ?_)
  refine nil_ok (qx_seq (qx_seq (reg_seq ?_)))
  refine seq_is hS (by decide) (runs_move rfl) (fun a1 hS => ?_)
  refine seq_is hS (by decide) (runs_len rfl undStrs) (fun a1 hS => ?_)
  refine seq_is hS (by decide) (runs_eql (r := false) rfl rfl (by rw [beq_eq_false_iff_ne]; omega)) (fun a1 hS => ?_)
  refine seq_is hS (by decide) (runs_move rfl) (fun a1 hS => ?_)
  refine seq_yis hS (by decide) rfl (by decide) rfl (runs_move rfl) (fun a1 hS => ?_)
  refine seq_yis hS (by decide) rfl (by decide) rfl (runs_len rfl undStrs) (fun a1 hS => ?_)
  refine seq_yis hS (by decide) rfl (by decide) rfl (runs_eql (r := false) rfl rfl (by rw [beq_eq_false_iff_ne]; omega)) (fun a1 hS => ?_)
  refine seq_is hS (by decide) (runs_pick rfl rfl) (fun a1 hS => ?_)
  refine nil_ok (wp_cond_false (hS.eval rfl) (wp_skip ?_))
  have hl10 := Wire.num_len10 m (by omega)
  have hsn : (S (Wire.num m)).size ≤ 10 := by rw [S_size]; exact hl10
  obtain ⟨z, hz⟩ : ∃ z : ByteArray, ⟨#[3]⟩ ++ S (Wire.num m) = z := ⟨_, rfl⟩
  have hzz : z.size ≤ 11 := by rw [← hz, ByteArray.size_append, one3]; omega
  have hzb : bl z = 3 :: Wire.num m := by rw [← hz, bl_append, bl3, bl_S (Wire.num_bytes m)]; rfl
  refine qx_seq (reg_seq ?_)
  refine seq_is hS (by decide) (runs_move rfl) (fun a1 hS => ?_)
  refine seq_is hS (by decide) (runs_convInt rfl rfl undU64 (IntWalk.u64_in _ (by omega))) (fun a1 hS => ?_)
  refine seq_op hS (by decide) (runs_call (args := [.int .u64 (m : Int)]) goes44 rfl (str_post (fun w' => Below w2.heap.size w2 w') (refNum_any m w2 (by omega)) (fun _ h => h))) (fun v3 w3 a3 hp3 hS => ?_)
  obtain ⟨rfl, hB3⟩ := hp3
  have hB13 : Below w.heap.size w w3 := hB12.trans (hB3.mono hB12.size)
  have ho13 := owns_kept ho12 hB3
  have ho23 := owns_kept ho2 hB3
  refine seq_is hS (by decide) (runs_cat rfl rfl hz (by rw [one3]; omega)) (fun a1 hS => ?_)
  refine seq_is hS (by decide) (runs_assign rfl) (fun a1 hS => ?_)
  obtain ⟨u1, hu1⟩ : ∃ u : ByteArray, z ++ S (Sha.sha x0) = u := ⟨_, rfl⟩
  have hsu1 : (S (Sha.sha x0)).size = 32 := by rw [S_size]; exact Sha.Holds.sumText
  have hzu1 : u1.size ≤ 50 := by rw [← hu1, ByteArray.size_append]; omega
  have hbu1 : bl u1 = 3 :: (Wire.num m ++ Sha.sha x0) := by rw [← hu1, bl_append, hzb, bl_S (l := Sha.sha x0) (sha_bytes _)]; rfl
  have hofu1 := fun w' => refof_any (S x0) w' (by rw [S_size]; omega)
  rw [bl_S hx0b] at hofu1
  have hcxu1 := ho13.cells (g := g1) rfl 0 _ rfl
  refine nil_ok (qx_seq (reg_seq ?_))
  refine seq_is hS (by decide) (runs_move rfl) (fun a1 hS => ?_)
  refine seq_is hS (by decide) (runs_move rfl) (fun a1 hS => ?_)
  refine seq_is hS (by decide) (runs_indexAddr (j := 0) rfl rfl undStrs infStr1 rfl (by omega)) (fun a1 hS => ?_)
  refine seq_is hS (by decide) (runs_load rfl (by kernel_rfl) hcxu1) (fun a1 hS => ?_)
  refine seq_op hS (by decide) (runs_call (args := [.string (S x0)]) goes45 rfl (str_post (fun w' => Below w3.heap.size w3 w') (hofu1 w3) (fun _ h => h))) (fun v4 w4 a4 hp4 hS => ?_)
  obtain ⟨rfl, hDw4⟩ := hp4
  refine seq_is hS (by decide) (runs_cat rfl rfl hu1 (by omega)) (fun a1 hS => ?_)
  refine seq_op hS (by decide) (runs_buildSlice (pv := [(0, .string u1)]) rfl undStrs hi9 hz9 hzs9 (by omega) (by omega) (cells := #[.string u1]) (by kernel_rfl)) (fun v5 w5 a5 hp5 hS => ?_)
  obtain ⟨rfl, rfl⟩ := hp5
  have hNw5 : (w4.alloc (.cells #[.string u1] 9)).ownsRow w4.heap.size 9 1 (.slice (some ⟨w4.heap.size, 0, none⟩) 1 1) 1 [.string u1] := by have := World.ownsRow_lit (e := 9) (size := 1) (base := w4.heap.size) w4 #[.string u1] 1 (Nat.le_refl _) (by unfold maxLen; omega) (by simp); simpa using this
  have hDw5 : Below w4.heap.size w4 (w4.alloc (.cells #[.string u1] 9)) := (Below.refl _ _).alloc (Nat.le_refl _) _
  generalize w4.alloc (.cells #[.string u1] 9) = w5 at *
  have hEw5 : Below w3.heap.size w3 w5 := hDw4.trans (hDw5.mono hDw4.size)
  have hqw5 := owns_kept ho13 hEw5
  refine seq_is hS (by decide) (runs_move rfl) (fun a1 hS => ?_)
  refine seq_op hS (by decide) (runs_append undStrs hi9 hz9 hzs9 hzb9 rfl rfl hNw5 rfl (by rw [SR, List.length_map, List.length_cons]) (news := SR (x0 :: xs)) (fun j u hj => hqw5.cells (g := g1) rfl j u hj) (SR_one _) (by unfold maxLen; omega) (by omega) hDw5.size (by omega)) (fun v6w6 w6 a6 hp6 hS => ?_)
  obtain ⟨hRw6, hgrw6, hnew6⟩ := hp6
  have hFw6 : Below w4.heap.size w4 w6 := (below_grown hDw5 hgrw6 (fun g hg => (hNw5.lt g hg).1) hDw5.size)
  have hEw6 : Below w3.heap.size w3 w6 := hDw4.trans (hFw6.mono hDw4.size)
  refine seq_is hS (by decide) (runs_assign rfl) (fun a1 hS => ?_)
  have ho16 := owns_kept ho13 hEw6
  have ho26 := owns_kept ho23 hEw6
  have hB16 : Below w.heap.size w w6 := hB13.trans (hEw6.mono hB13.size)
  obtain ⟨u2, hu2⟩ : ∃ u : ByteArray, z ++ S (Sha.sha y0) = u := ⟨_, rfl⟩
  have hsu2 : (S (Sha.sha y0)).size = 32 := by rw [S_size]; exact Sha.Holds.sumText
  have hzu2 : u2.size ≤ 50 := by rw [← hu2, ByteArray.size_append]; omega
  have hbu2 : bl u2 = 3 :: (Wire.num m ++ Sha.sha y0) := by rw [← hu2, bl_append, hzb, bl_S (l := Sha.sha y0) (sha_bytes _)]; rfl
  have hofu2 := fun w' => refof_any (S y0) w' (by rw [S_size]; omega)
  rw [bl_S hy0b] at hofu2
  have hcxu2 := ho26.cells (g := g2) rfl 0 _ rfl
  refine nil_ok (qx_seq (reg_seq ?_))
  refine seq_is hS (by decide) (runs_move rfl) (fun a1 hS => ?_)
  refine seq_is hS (by decide) (runs_move rfl) (fun a1 hS => ?_)
  refine seq_is hS (by decide) (runs_indexAddr (j := 0) rfl rfl undStrs infStr1 rfl (by omega)) (fun a1 hS => ?_)
  refine seq_is hS (by decide) (runs_load rfl (by kernel_rfl) hcxu2) (fun a1 hS => ?_)
  refine seq_op hS (by decide) (runs_call (args := [.string (S y0)]) goes45 rfl (str_post (fun w' => Below w6.heap.size w6 w') (hofu2 w6) (fun _ h => h))) (fun v4 w7 a4 hp4 hS => ?_)
  obtain ⟨rfl, hDw7⟩ := hp4
  refine seq_is hS (by decide) (runs_cat rfl rfl hu2 (by omega)) (fun a1 hS => ?_)
  refine seq_op hS (by decide) (runs_buildSlice (pv := [(0, .string u2)]) rfl undStrs hi9 hz9 hzs9 (by omega) (by omega) (cells := #[.string u2]) (by kernel_rfl)) (fun v5 w8 a5 hp5 hS => ?_)
  obtain ⟨rfl, rfl⟩ := hp5
  have hNw8 : (w7.alloc (.cells #[.string u2] 9)).ownsRow w7.heap.size 9 1 (.slice (some ⟨w7.heap.size, 0, none⟩) 1 1) 1 [.string u2] := by have := World.ownsRow_lit (e := 9) (size := 1) (base := w7.heap.size) w7 #[.string u2] 1 (Nat.le_refl _) (by unfold maxLen; omega) (by simp); simpa using this
  have hDw8 : Below w7.heap.size w7 (w7.alloc (.cells #[.string u2] 9)) := (Below.refl _ _).alloc (Nat.le_refl _) _
  generalize w7.alloc (.cells #[.string u2] 9) = w8 at *
  have hEw8 : Below w6.heap.size w6 w8 := hDw7.trans (hDw8.mono hDw7.size)
  have hqw8 := owns_kept ho26 hEw8
  refine seq_is hS (by decide) (runs_move rfl) (fun a1 hS => ?_)
  refine seq_op hS (by decide) (runs_append undStrs hi9 hz9 hzs9 hzb9 rfl rfl hNw8 rfl (by rw [SR, List.length_map, List.length_cons]) (news := SR (y0 :: ys)) (fun j u hj => hqw8.cells (g := g2) rfl j u hj) (SR_one _) (by unfold maxLen; omega) (by omega) hDw8.size (by omega)) (fun v6w9 w9 a6 hp6 hS => ?_)
  obtain ⟨hRw9, hgrw9, hnew9⟩ := hp6
  have hFw9 : Below w7.heap.size w7 w9 := (below_grown hDw8 hgrw9 (fun g hg => (hNw8.lt g hg).1) hDw8.size)
  have hEw9 : Below w6.heap.size w6 w9 := hDw7.trans (hFw9.mono hDw7.size)
  refine seq_is hS (by decide) (runs_assign rfl) (fun a1 hS => ?_)
  have hRa := owns_kept hRw6 hEw9
  have hRb := hRw9
  have hB19 : Below w.heap.size w w9 := hB16.trans (hEw9.mono hB16.size)
  rw [show [Value.string u1] ++ SR (x0 :: xs) = SR ((bl u1) :: x0 :: xs) by simp [SR, S_bl]] at hRa
  rw [show [Value.string u2] ++ SR (y0 :: ys) = SR ((bl u2) :: y0 :: ys) by simp [SR, S_bl]] at hRb
  -- somewhere two rows have one sum
  have hlen : xs.length = ys.length := by omega
  have hfind : ∃ (i : Nat) (x y : List Nat), (bl u1 :: x0 :: xs)[i]? = some x ∧ (bl u2 :: y0 :: ys)[i]? = some y ∧ x ≠ y ∧ Sha.sha x = Sha.sha y := by
    have hroot' : Sha.sha (bl u1) = Sha.sha (bl u2) := by
      rw [hbu1, hbu2, sx, sy]; exact hroot
    by_cases he : bl u1 = bl u2
    · rw [hbu1, hbu2] at he
      have h2 := List.append_cancel_left (List.cons.inj he).2
      obtain ⟨i, x, y, e1, e2, e3, e4⟩ := hcl h2
      exact ⟨i + 1, x, y, by simpa using e1, by simpa using e2, e3, e4⟩
    · exact ⟨0, _, _, rfl, rfl, he, hroot'⟩
  have hab1 : ∀ r ∈ bl u1 :: x0 :: xs, Sha.Bytes r ∧ r.length ≤ 901 := fun r hr => by
    rcases List.mem_cons.1 hr with rfl | hr
    · exact ⟨bl_bytes _, by rw [bl_length]; omega⟩
    · exact hxb r hr
  have hab2 : ∀ r ∈ bl u2 :: y0 :: ys, Sha.Bytes r ∧ r.length ≤ 901 := fun r hr => by
    rcases List.mem_cons.1 hr with rfl | hr
    · exact ⟨bl_bytes _, by rw [bl_length]; omega⟩
    · exact hyb r hr
  have hsl : ∃ g c', v6w6 = .slice (some ⟨g, 0, none⟩) (1 + (xs.length + 1)) c' := by
    rcases hRw6.2 with ⟨rfl, _⟩ | ⟨g, cap, _, rfl, _⟩
    · exact absurd rfl hnew6
    · exact ⟨_, _, rfl⟩
  obtain ⟨ga, ca, rfl⟩ := hsl
  have hsl : ∃ g c', v6w9 = .slice (some ⟨g, 0, none⟩) (1 + (ys.length + 1)) c' := by
    rcases hRw9.2 with ⟨rfl, _⟩ | ⟨g, cap, _, rfl, _⟩
    · exact absurd rfl hnew9
    · exact ⟨_, _, rfl⟩
  obtain ⟨gb, cb, rfl⟩ := hsl
  have hga := hRa.lt ga rfl
  have hgb := hRb.lt gb rfl
  obtain ⟨N, hN⟩ : ∃ N, N = 1 + (xs.length + 1) := ⟨_, rfl⟩
  have hN2 : 1 + (ys.length + 1) = N := by omega
  have hNl : (bl u1 :: x0 :: xs).length = N := by simp; omega
  have hNl2 : (bl u2 :: y0 :: ys).length = N := by simp; omega
  rw [← hN] at hRa hS
  rw [hN2] at hRb hS
  generalize bl u1 :: x0 :: xs = ls at *
  generalize bl u2 :: y0 :: ys = ms at *
  have hN40 : N ≤ 100 := by omega
  refine nil_ok (qx_seq (qx_seq (reg_seq ?_)))
  have hS := hS.only [(18, .slice (some ⟨ga, 0, none⟩) N ca), (19, .slice (some ⟨gb, 0, none⟩) N cb)] ⟨rfl, rfl, trivial⟩
  refine seq_is hS (by decide) (runs_assign rfl) (fun a1 hS => ?_)
  refine nil_ok (qx_for (fun k a w' => ∃ i, i ≤ N ∧ k = N - i ∧ Below w9.heap.size w9 w' ∧ (∀ j, j < i → ∀ x y, ls[j]? = some x → ms[j]? = some y → x ≠ y → Sha.sha x ≠ Sha.sha y) ∧ Sees 128 [(20, .int .i64 (i : Int)), (18, .slice (some ⟨ga, 0, none⟩) N ca), (19, .slice (some ⟨gb, 0, none⟩) N cb)] a) N ⟨0, by omega, by omega, Below.refl _ _, fun j hj => by omega, hS.only _ ⟨rfl, rfl, rfl, trivial⟩⟩ ?_)
  rintro k act w' ⟨i, hi, rfl, hBi, hno, hS⟩
  have hlt : i < N := by
    apply Classical.byContradiction
    intro hge
    obtain ⟨j, x, y, e1, e2, e3, e4⟩ := hfind
    have hj : j < ls.length := (List.getElem?_eq_some_iff.1 e1).1
    exact hno j (by omega) x y e1 e2 e3 e4
  refine reg_seq ?_
  refine seq_is hS (by decide) (runs_move rfl) (fun a1 hS => ?_)
  refine seq_is hS (by decide) (runs_move rfl) (fun a1 hS => ?_)
  refine seq_is hS (by decide) (runs_len rfl undStrs) (fun a1 hS => ?_)
  refine seq_is hS (by decide) (runs_lss (r := true) rfl rfl (by rw [decide_eq_true_eq]; omega)) (fun a1 hS => ?_)
  refine seq_is hS (by decide) (runs_move rfl) (fun a1 hS => ?_)
  refine seq_yis hS (by decide) rfl (by decide) rfl (runs_move rfl) (fun a1 hS => ?_)
  refine seq_yis hS (by decide) rfl (by decide) rfl (runs_move rfl) (fun a1 hS => ?_)
  refine seq_yis hS (by decide) rfl (by decide) rfl (runs_len rfl undStrs) (fun a1 hS => ?_)
  refine seq_yis hS (by decide) rfl (by decide) rfl (runs_lss (r := true) rfl rfl (by rw [decide_eq_true_eq]; omega)) (fun a1 hS => ?_)
  refine seq_is hS (by decide) (runs_pick rfl rfl) (fun a1 hS => ?_)
  refine nil_ok ⟨_, hS.eval rfl, fun h => by simp at h, fun _ => ?_⟩
  have hil : i < ls.length := by omega
  have him : i < ms.length := by omega
  have e1 : ls[i]? = some ls[i] := List.getElem?_eq_getElem hil
  have e2 : ms[i]? = some ms[i] := List.getElem?_eq_getElem him
  obtain ⟨hb1, hc1'⟩ := hab1 ls[i] (List.getElem_mem hil)
  obtain ⟨hb2, hc2'⟩ := hab2 ms[i] (List.getElem_mem him)
  have hca := hRa.cells (g := ga) rfl i (.string (S ls[i])) (by simp [SR, hil])
  have hcb := hRb.cells (g := gb) rfl i (.string (S ms[i])) (by simp [SR, him])
  rw [add_lit'] at hca hcb
  generalize ls[i] = x at *
  generalize ms[i] = y at *
  have hofx := fun w' => refof_any (S x) w' (by rw [S_size]; omega)
  have hofy := fun w' => refof_any (S y) w' (by rw [S_size]; omega)
  rw [bl_S hb1] at hofx
  rw [bl_S hb2] at hofy
  have hsax : Sha.Bytes (Sha.sha x) := sha_bytes _
  have hsay : Sha.Bytes (Sha.sha y) := sha_bytes _
  have next : ∀ (L : List (Nat × Value)) (a9 : Act) (w10 : World), Below w'.heap.size w' w10 → (x ≠ y → Sha.sha x ≠ Sha.sha y) → Sees 128 L a9 → look L 20 = some (.int .i64 (i : Int)) → look L 18 = some (.slice (some ⟨ga, 0, none⟩) N ca) → look L 19 = some (.slice (some ⟨gb, 0, none⟩) N cb) → ∀ (X : Nat → Act → World → Prop) (R : Act → World → Prop), ((Tryd.f17.body.bind (regionIn 11)).getD .skip).wp Tryd.prog (Qx (fun a2 w2 => ∃ m', m' < N - i ∧ ∃ i, i ≤ N ∧ m' = N - i ∧ Below w9.heap.size w9 w2 ∧ (∀ j, j < i → ∀ x y, ls[j]? = some x → ms[j]? = some y → x ≠ y → Sha.sha x ≠ Sha.sha y) ∧ Sees 128 [(20, .int .i64 (i : Int)), (18, .slice (some ⟨ga, 0, none⟩) N ca), (19, .slice (some ⟨gb, 0, none⟩) N cb)] a2) X R) a9 w10 := fun L a9 w10 hB10 hne hS h20 h18 h19 X R => by
    refine reg_seq ?_
    refine seq_is hS (by decide) (runs_move h20) (fun a1 hS => ?_)
    refine seq_is hS (by decide) (runs_add rfl rfl ((IntWalk.i64_in _ (by omega)).trans (show (i : Int) + 1 = ((i + 1 : Nat) : Int) by omega))) (fun a1 hS => ?_)
    refine seq_is hS (by decide) (runs_assign rfl) (fun a1 hS => ?_)
    refine nil_ok ⟨N - (i + 1), by omega, i + 1, by omega, rfl, hBi.trans (hB10.mono hBi.size), fun j hj x' y' f1 f2 => ?_, hS.only _ ⟨rfl, h18, h19, trivial⟩⟩
    by_cases hji : j = i
    · subst hji
      rw [e1] at f1
      rw [e2] at f2
      obtain rfl := Option.some.inj f1
      obtain rfl := Option.some.inj f2
      exact hne
    · exact hno j (by omega) x' y' f1 f2
  refine qx_seq (qx_block (qx_seq ?_))
  by_cases hxy : x = y
  · have hdone := hxy
    refine reg_guard (fun w2 => Below w'.heap.size w' w2) [.inl (.slice (some ⟨ga, 0, none⟩) N ca), .inl (.int .i64 (i : Int)), .inl (.pointer (some ⟨ga, 0 + i, none⟩)), .inl (.string (S x)), .inl (.slice (some ⟨gb, 0, none⟩) N cb), .inl (.int .i64 (i : Int)), .inl (.pointer (some ⟨gb, 0 + i, none⟩)), .inl (.string (S y)), .inl (.bool false), .inl (.bool false), .inl undef, .inl undef, .inl undef, .inl undef, .inl undef, .inl undef, .inl undef, .inl undef, .inl undef, .inl undef, .inl undef, .inl (.bool false)] 22 0 mixed rfl (by kernel_rfl) hS (Below.refl _ _) (fun _ h => h.drew) ?_
    refine hs_is rfl (fun w' hw => runs_move rfl) ?_
    refine hs_is rfl (fun w' hw => runs_move rfl) ?_
    refine hs_is rfl (fun w' hw => runs_indexAddr (j := i) rfl rfl undStrs infStr1 rfl hlt) ?_
    refine hs_is rfl (fun w' hw => runs_load rfl (by kernel_rfl) (by rw [hw.cell (p := ⟨ga, 0 + i, none⟩) (Nat.lt_of_lt_of_le hga.2 hBi.size), hBi.cell (p := ⟨ga, 0 + i, none⟩) hga.2]; exact hca)) ?_
    refine hs_is rfl (fun w' hw => runs_move rfl) ?_
    refine hs_is rfl (fun w' hw => runs_move rfl) ?_
    refine hs_is rfl (fun w' hw => runs_indexAddr (j := i) rfl rfl undStrs infStr1 rfl hlt) ?_
    refine hs_is rfl (fun w' hw => runs_load rfl (by kernel_rfl) (by rw [hw.cell (p := ⟨gb, 0 + i, none⟩) (Nat.lt_of_lt_of_le hgb.2 hBi.size), hBi.cell (p := ⟨gb, 0 + i, none⟩) hgb.2]; exact hcb)) ?_
    refine hs_is rfl (fun w' hw => runs_neStr (r := false) rfl rfl (by rw [bl_S hb1, bl_S hb2]; rw [hxy]; simp)) ?_
    refine hs_is rfl (fun w' hw => runs_move rfl) ?_
    refine hs_no rfl rfl rfl ?_
    refine hs_no rfl rfl rfl ?_
    refine hs_no rfl rfl rfl ?_
    refine hs_no rfl rfl rfl ?_
    refine hs_no rfl rfl rfl ?_
    refine hs_no rfl rfl rfl ?_
    refine hs_no rfl rfl rfl ?_
    refine hs_no rfl rfl rfl ?_
    refine hs_no rfl rfl rfl ?_
    refine hs_no rfl rfl rfl ?_
    refine hs_no rfl rfl rfl ?_
    refine hs_is rfl (fun w' hw => runs_pick rfl rfl) ?_
    refine (fun a5 w5 hS5 hB5 _ => ?_)
    refine wpAnyH_done (by kernel_rfl) ?_ _
    exact wp_cond_false (hS5.eval rfl) (wp_skip (next _ _ _ hB5 (fun h => absurd hxy h) hS5 rfl rfl rfl _ _))
  by_cases hsh : Sha.sha x = Sha.sha y
  rotate_left
  · have hdone := hsh
    refine reg_guard (fun w2 => Below w'.heap.size w' w2) [.inl (.slice (some ⟨ga, 0, none⟩) N ca), .inl (.int .i64 (i : Int)), .inl (.pointer (some ⟨ga, 0 + i, none⟩)), .inl (.string (S x)), .inl (.slice (some ⟨gb, 0, none⟩) N cb), .inl (.int .i64 (i : Int)), .inl (.pointer (some ⟨gb, 0 + i, none⟩)), .inl (.string (S y)), .inl (.bool true), .inl (.bool true), .inl (.slice (some ⟨ga, 0, none⟩) N ca), .inl (.int .i64 (i : Int)), .inl (.pointer (some ⟨ga, 0 + i, none⟩)), .inl (.string (S x)), .inl (.string (S (Sha.sha x))), .inl (.slice (some ⟨gb, 0, none⟩) N cb), .inl (.int .i64 (i : Int)), .inl (.pointer (some ⟨gb, 0 + i, none⟩)), .inl (.string (S y)), .inl (.string (S (Sha.sha y))), .inl (.bool false), .inl (.bool false)] 22 0 mixed rfl (by kernel_rfl) hS (Below.refl _ _) (fun _ h => h.drew) ?_
    refine hs_is rfl (fun w' hw => runs_move rfl) ?_
    refine hs_is rfl (fun w' hw => runs_move rfl) ?_
    refine hs_is rfl (fun w' hw => runs_indexAddr (j := i) rfl rfl undStrs infStr1 rfl hlt) ?_
    refine hs_is rfl (fun w' hw => runs_load rfl (by kernel_rfl) (by rw [hw.cell (p := ⟨ga, 0 + i, none⟩) (Nat.lt_of_lt_of_le hga.2 hBi.size), hBi.cell (p := ⟨ga, 0 + i, none⟩) hga.2]; exact hca)) ?_
    refine hs_is rfl (fun w' hw => runs_move rfl) ?_
    refine hs_is rfl (fun w' hw => runs_move rfl) ?_
    refine hs_is rfl (fun w' hw => runs_indexAddr (j := i) rfl rfl undStrs infStr1 rfl hlt) ?_
    refine hs_is rfl (fun w' hw => runs_load rfl (by kernel_rfl) (by rw [hw.cell (p := ⟨gb, 0 + i, none⟩) (Nat.lt_of_lt_of_le hgb.2 hBi.size), hBi.cell (p := ⟨gb, 0 + i, none⟩) hgb.2]; exact hcb)) ?_
    refine hs_is rfl (fun w' hw => runs_neStr (r := true) rfl rfl (by rw [bl_S hb1, bl_S hb2]; rw [bne_iff_ne]; exact hxy)) ?_
    refine hs_is rfl (fun w' hw => runs_move rfl) ?_
    refine hs_yis rfl rfl (fun w' hw => runs_move rfl) ?_
    refine hs_yis rfl rfl (fun w' hw => runs_move rfl) ?_
    refine hs_yis rfl rfl (fun w' hw => runs_indexAddr (j := i) rfl rfl undStrs infStr1 rfl hlt) ?_
    refine hs_yis rfl rfl (fun w' hw => runs_load rfl (by kernel_rfl) (by rw [hw.cell (p := ⟨ga, 0 + i, none⟩) (Nat.lt_of_lt_of_le hga.2 hBi.size), hBi.cell (p := ⟨ga, 0 + i, none⟩) hga.2]; exact hca)) ?_
    refine hs_yval rfl rfl (fun w' hw hq => runs_call (args := [.string (S x)]) goes45 rfl (str_post _ (hofx w') (fun _ h => ⟨hw.trans (h.mono hw.size), h⟩))) ?_
    refine hs_yis rfl rfl (fun w' hw => runs_move rfl) ?_
    refine hs_yis rfl rfl (fun w' hw => runs_move rfl) ?_
    refine hs_yis rfl rfl (fun w' hw => runs_indexAddr (j := i) rfl rfl undStrs infStr1 rfl hlt) ?_
    refine hs_yis rfl rfl (fun w' hw => runs_load rfl (by kernel_rfl) (by rw [hw.cell (p := ⟨gb, 0 + i, none⟩) (Nat.lt_of_lt_of_le hgb.2 hBi.size), hBi.cell (p := ⟨gb, 0 + i, none⟩) hgb.2]; exact hcb)) ?_
    refine hs_yval rfl rfl (fun w' hw hq => runs_call (args := [.string (S y)]) goes45 rfl (str_post _ (hofy w') (fun _ h => ⟨hw.trans (h.mono hw.size), h⟩))) ?_
    refine hs_yis rfl rfl (fun w' hw => runs_eqStr (r := false) rfl rfl (by rw [bl_S hsax, bl_S hsay]; rw [beq_eq_false_iff_ne]; exact hsh)) ?_
    refine hs_is rfl (fun w' hw => runs_pick rfl rfl) ?_
    refine (fun a5 w5 hS5 hB5 _ => ?_)
    refine wpAnyH_done (by kernel_rfl) ?_ _
    exact wp_cond_false (hS5.eval rfl) (wp_skip (next _ _ _ hB5 (fun _ => hsh) hS5 rfl rfl rfl _ _))
  refine reg_guard (fun w2 => Below w'.heap.size w' w2) [.inl (.slice (some ⟨ga, 0, none⟩) N ca), .inl (.int .i64 (i : Int)), .inl (.pointer (some ⟨ga, 0 + i, none⟩)), .inl (.string (S x)), .inl (.slice (some ⟨gb, 0, none⟩) N cb), .inl (.int .i64 (i : Int)), .inl (.pointer (some ⟨gb, 0 + i, none⟩)), .inl (.string (S y)), .inl (.bool true), .inl (.bool true), .inl (.slice (some ⟨ga, 0, none⟩) N ca), .inl (.int .i64 (i : Int)), .inl (.pointer (some ⟨ga, 0 + i, none⟩)), .inl (.string (S x)), .inl (.string (S (Sha.sha x))), .inl (.slice (some ⟨gb, 0, none⟩) N cb), .inl (.int .i64 (i : Int)), .inl (.pointer (some ⟨gb, 0 + i, none⟩)), .inl (.string (S y)), .inl (.string (S (Sha.sha y))), .inl (.bool true), .inl (.bool true)] 22 0 mixed rfl (by kernel_rfl) hS (Below.refl _ _) (fun _ h => h.drew) ?_
  refine hs_is rfl (fun w' hw => runs_move rfl) ?_
  refine hs_is rfl (fun w' hw => runs_move rfl) ?_
  refine hs_is rfl (fun w' hw => runs_indexAddr (j := i) rfl rfl undStrs infStr1 rfl hlt) ?_
  refine hs_is rfl (fun w' hw => runs_load rfl (by kernel_rfl) (by rw [hw.cell (p := ⟨ga, 0 + i, none⟩) (Nat.lt_of_lt_of_le hga.2 hBi.size), hBi.cell (p := ⟨ga, 0 + i, none⟩) hga.2]; exact hca)) ?_
  refine hs_is rfl (fun w' hw => runs_move rfl) ?_
  refine hs_is rfl (fun w' hw => runs_move rfl) ?_
  refine hs_is rfl (fun w' hw => runs_indexAddr (j := i) rfl rfl undStrs infStr1 rfl hlt) ?_
  refine hs_is rfl (fun w' hw => runs_load rfl (by kernel_rfl) (by rw [hw.cell (p := ⟨gb, 0 + i, none⟩) (Nat.lt_of_lt_of_le hgb.2 hBi.size), hBi.cell (p := ⟨gb, 0 + i, none⟩) hgb.2]; exact hcb)) ?_
  refine hs_is rfl (fun w' hw => runs_neStr (r := true) rfl rfl (by rw [bl_S hb1, bl_S hb2]; rw [bne_iff_ne]; exact hxy)) ?_
  refine hs_is rfl (fun w' hw => runs_move rfl) ?_
  refine hs_yis rfl rfl (fun w' hw => runs_move rfl) ?_
  refine hs_yis rfl rfl (fun w' hw => runs_move rfl) ?_
  refine hs_yis rfl rfl (fun w' hw => runs_indexAddr (j := i) rfl rfl undStrs infStr1 rfl hlt) ?_
  refine hs_yis rfl rfl (fun w' hw => runs_load rfl (by kernel_rfl) (by rw [hw.cell (p := ⟨ga, 0 + i, none⟩) (Nat.lt_of_lt_of_le hga.2 hBi.size), hBi.cell (p := ⟨ga, 0 + i, none⟩) hga.2]; exact hca)) ?_
  refine hs_yval rfl rfl (fun w' hw hq => runs_call (args := [.string (S x)]) goes45 rfl (str_post _ (hofx w') (fun _ h => ⟨hw.trans (h.mono hw.size), h⟩))) ?_
  refine hs_yis rfl rfl (fun w' hw => runs_move rfl) ?_
  refine hs_yis rfl rfl (fun w' hw => runs_move rfl) ?_
  refine hs_yis rfl rfl (fun w' hw => runs_indexAddr (j := i) rfl rfl undStrs infStr1 rfl hlt) ?_
  refine hs_yis rfl rfl (fun w' hw => runs_load rfl (by kernel_rfl) (by rw [hw.cell (p := ⟨gb, 0 + i, none⟩) (Nat.lt_of_lt_of_le hgb.2 hBi.size), hBi.cell (p := ⟨gb, 0 + i, none⟩) hgb.2]; exact hcb)) ?_
  refine hs_yval rfl rfl (fun w' hw hq => runs_call (args := [.string (S y)]) goes45 rfl (str_post _ (hofy w') (fun _ h => ⟨hw.trans (h.mono hw.size), h⟩))) ?_
  refine hs_yis rfl rfl (fun w' hw => runs_eqStr (r := true) rfl rfl (by rw [bl_S hsax, bl_S hsay]; rw [hsh]; simp)) ?_
  refine hs_is rfl (fun w' hw => runs_pick rfl rfl) ?_
  refine (fun a5 w5 hS5 hB5 _ => ?_)
  refine wpAnyH_done (by kernel_rfl) ?_ _
  have hB95 : Below w9.heap.size w9 w5 := hBi.trans (hB5.mono hBi.size)
  refine wp_cond_true (hS5.eval rfl) (qx_seq ?_)
  have hS := hS5.only [(20, .int .i64 (i : Int)), (18, .slice (some ⟨ga, 0, none⟩) N ca), (19, .slice (some ⟨gb, 0, none⟩) N cb)] ⟨rfl, rfl, rfl, trivial⟩
  refine reg_guard (fun w2 => Below w5.heap.size w5 w2) [.inl (.slice (some ⟨ga, 0, none⟩) N ca), .inl (.int .i64 (i : Int)), .inl (.pointer (some ⟨ga, 0 + i, none⟩)), .inl (.string (S x)), .inl (.slice (some ⟨gb, 0, none⟩) N cb), .inl (.int .i64 (i : Int)), .inl (.pointer (some ⟨gb, 0 + i, none⟩)), .inl (.string (S y)), .inl (.string (S x)), .inl (.string (S y)), .inl (.bool true)] 11 0 mixed rfl (by kernel_rfl) hS (Below.refl _ _) (fun _ h => h.drew) ?_
  refine hs_is rfl (fun w' hw => runs_move rfl) ?_
  refine hs_is rfl (fun w' hw => runs_move rfl) ?_
  refine hs_is rfl (fun w' hw => runs_indexAddr (j := i) rfl rfl undStrs infStr1 rfl hlt) ?_
  refine hs_is rfl (fun w' hw => runs_load rfl (by kernel_rfl) (by rw [hw.cell (p := ⟨ga, 0 + i, none⟩) (Nat.lt_of_lt_of_le hga.2 hB95.size), hB95.cell (p := ⟨ga, 0 + i, none⟩) hga.2]; exact hca)) ?_
  refine hs_is rfl (fun w' hw => runs_move rfl) ?_
  refine hs_is rfl (fun w' hw => runs_move rfl) ?_
  refine hs_is rfl (fun w' hw => runs_indexAddr (j := i) rfl rfl undStrs infStr1 rfl hlt) ?_
  refine hs_is rfl (fun w' hw => runs_load rfl (by kernel_rfl) (by rw [hw.cell (p := ⟨gb, 0 + i, none⟩) (Nat.lt_of_lt_of_le hgb.2 hB95.size), hB95.cell (p := ⟨gb, 0 + i, none⟩) hgb.2]; exact hcb)) ?_
  refine hs_is rfl (fun w' hw => runs_assign rfl) ?_
  refine hs_is rfl (fun w' hw => runs_assign rfl) ?_
  refine hs_is rfl (fun w' hw => runs_assign rfl) ?_
  refine (fun a6 w6' hS6 hB6' _ => ?_)
  refine wpAnyH_done (by kernel_rfl) ?_ _
  exact qx_ret (ret3 (t := 12) (u := 13) (r := 14) (by kernel_rfl) hS6 rfl rfl rfl ⟨S x, S y, rfl, by rw [bl_S hb1, bl_S hb2]; exact hxy, by rw [bl_S hb1, bl_S hb2]; exact hsh, by rw [S_size]; omega, by rw [S_size]; omega, hB19.trans ((hB95.trans (hB6'.mono hB95.size)).mono hB19.size)⟩)
end Go.Proofs.YtdemoidmhmdgkaaDoor
