/- Layer 4: the chapter's example. Conditions: the table of constants lies as it was laid. -/
import Derived.Test.YtdemoidmhmdgkaaDoorMCode
namespace Go.Proofs.YtdemoidmhmdgkaaDoor
open Go.RowKit Many
set_option maxRecDepth 100000

theorem goes19 : Goes Tryd.prog 19 := goes_of Tryd.func19 (by kernel_rfl) rfl
theorem foldl_setO (off : Nat) : ∀ (l : List Value) (k : Nat) (z : Array Value), off + k + l.length ≤ z.size → ((l.zipIdx k).foldl (fun (acc : Array Value) (p : Value × Nat) => acc.setIfInBounds (off + p.2) p.1) z).toList = z.toList.take (off + k) ++ l ++ z.toList.drop (off + k + l.length)
  | [], k, z, _ => by simp
  | x :: l, k, z, h => by
    simp only [List.length_cons] at h
    rw [List.zipIdx_cons, List.foldl_cons, foldl_setO off l (k + 1) _ (by simp; omega)]
    simp only [Array.toList_setIfInBounds, List.length_cons]
    have hk : off + k < z.toList.length := by simp; omega
    rw [show off + (k + 1) = off + k + 1 by omega, List.take_add_one, List.take_set_of_le (by omega), List.getElem?_set_self hk, List.drop_set_of_lt (by omega), show off + k + 1 + l.length = off + k + (l.length + 1) by omega]
    simp
theorem fill_step (sz i : Nat) (z : Array Value) (cs : List Value) (rest : List (Nat × Value)) (hl : cs.length = sz) (h : i * sz + sz ≤ z.size) : Instr.fill (fun i => some (i * sz, sz)) z ((i, .agg cs.toArray) :: rest) = Instr.fill (fun i => some (i * sz, sz)) (z.toList.take (i * sz) ++ cs ++ z.toList.drop (i * sz + sz)).toArray rest := by
  have hf := foldl_setO (i * sz) cs 0 z (by omega)
  conv => lhs; unfold Instr.fill
  simp only []
  split
  · rename_i hc
    exfalso
    simp [Value.cells, hl] at hc
    omega
  · congr 1
    apply Array.toList_inj.1
    rw [← Array.foldl_toList]
    simp only [Value.cells, Array.toList_zipIdx]
    rw [hf, Nat.add_zero, hl]
section
variable {P : Program} {L : List (Nat × Value)} {w : World} {ty : TypeId}
/-- A slice of two elements of several cells. -/
theorem runs_buildRow2 {t e : TypeId} {x y : Operand} {cs ds : List Value} {ie : TypeInfo} {z : Value} (hx : vals L x = some (.agg cs.toArray)) (hy : vals L y = some (.agg ds.toArray)) (hu : P.underlying t = some (.slice e)) (hie : P.info? e = some ie) (hz : ie.zero = some z) (hsz : ie.size = cs.length) (hsz2 : ie.size = ds.length) (hsmall : ie.size ≤ 1000) (hpos : 0 < ie.size) :
    Runs P (.buildSlice t 2 #[(0, x), (1, y)]) ty L w (Built w e 2 (cs ++ ds).toArray) := fun o a K Q ho _ hL hK => by
  have ex := hL x (by simp [Op.operands]) _ hx
  have ey := hL y (by simp [Op.operands]) _ hy
  refine wp_buildSlice t e 2 _ ho (cs ++ ds).toArray ie z hu hie hz (by omega) (by omega) ?_ (hK _ _ ⟨rfl, rfl⟩)
  simp only [List.map_toArray, List.map_cons, List.map_nil, ex, ey]
  rw [fill_step ie.size 0 _ cs _ hsz.symm (by simp; omega), fill_step ie.size 1 _ ds _ hsz2.symm (by simp; omega)]
  unfold Instr.fill
  congr 1
  apply Array.toList_inj.1
  have h1 : cs.length = ie.size := hsz.symm
  simp [List.drop_append, h1]
  omega
end
theorem ints_has {w : World} {g : Nat} {xs : List Int} (h : Has w g 3 (xs.map (Value.int .i64))) (hm : xs.length ≤ 1000 := by decide +kernel) : Ints w (.slice (some ⟨g, 0, none⟩) xs.length xs.length) xs :=
  ⟨_, _, rfl, Nat.le_refl _, by unfold maxLen; omega, fun _ => ⟨g, 0, rfl, h.lt, fun i hi => by rw [h.cell, Nat.zero_add, List.getElem?_map, List.getElem?_eq_getElem hi, List.getD_eq_getElem?_getD, List.getElem?_eq_getElem hi]; rfl⟩⟩
def sE : ByteArray := ⟨#[101]⟩
def exM : List ByteArray := [sA, sB, sC, sD]
def exP : List (List Nat) := [Tree.leaf (bl sB), Tree.leaf (bl sC)]
def exR : List Nat := Tree.root 4 (Tree.top (exM.map bl))
theorem exM_size : ∀ s ∈ exM, s.size ≤ 100000 := by
  intro s hs
  simp only [exM, List.mem_cons, List.not_mem_nil, or_false] at hs
  rcases hs with rfl | rfl | rfl | rfl <;> decide
theorem exM_size9 : ∀ s ∈ exM, s.size ≤ 900 := by
  intro s hs
  simp only [exM, List.mem_cons, List.not_mem_nil, or_false] at hs
  rcases hs with rfl | rfl | rfl | rfl <;> decide
theorem exM_root : Tree.root exM.length (Tree.top (exM.map bl)) = exR := rfl
theorem exR_len : exR.length = 32 := Sha.Holds.sumText
theorem exP_len : exP.length = 2 := rfl
theorem exP_ok : ∀ h ∈ exP, h.length = 32 ∧ Sha.Bytes h := by
  intro h hh
  simp only [exP, List.mem_cons, List.not_mem_nil, or_false] at hh
  rcases hh with rfl | rfl <;> exact ⟨Tree.leaf_len _, sha_bytes _⟩
theorem half4 : Tree.half 4 = 2 := by kernel_rfl
theorem half2 : Tree.half 2 = 1 := by kernel_rfl
theorem ex_parts : parts 0 4 [0, 3] = [(1, 1), (2, 1)] := by
  rw [parts_more (by simp) (by omega), half4]
  show parts 0 2 [0] ++ parts 2 2 [3] = _
  rw [parts_more (by simp) (by omega), half2, parts_more (at_ := [3]) (by simp) (by omega), half2]
  show (parts 0 1 [0] ++ parts 1 1 []) ++ (parts 2 1 [] ++ parts 3 1 [3]) = _
  rw [parts_small (by simp) (by omega), parts_nil, parts_nil, parts_small (by simp) (by omega)]; rfl
theorem exM_proof : provesL (exM.map bl) [0, 3] = exP := by
  unfold provesL
  rw [show (exM.map bl).length = 4 from rfl, ex_parts]
  show [Tree.top [bl sB], Tree.top [bl sC]] = _
  rw [Tree.top_one, Tree.top_one]; rfl
theorem exM_ask : askB 4 (ofN [0, 3]) = true := by kernel_rfl
theorem exM_size4 : sizeZ 4 (ofN [0, 3]) = 2 := by
  unfold sizeZ
  rw [if_pos exM_ask, toN_of]
  show (parts 0 4 [0, 3]).length = 2
  rw [ex_parts]; rfl
theorem ex_chk (s : List Nat) : chk 0 4 [0, 3] exP [bl sA, s] = Tree.node (Tree.node (Tree.leaf (bl sA)) (Tree.leaf (bl sB))) (Tree.node (Tree.leaf (bl sC)) (Tree.leaf s)) := by
  have e2 : parts 0 2 [0] = [(1, 1)] := by
    rw [parts_more (by simp) (by omega), half2]
    show parts 0 1 [0] ++ parts 1 1 [] = _
    rw [parts_small (by simp) (by omega), parts_nil]; rfl
  have a2 : asks 0 2 [0] = 1 := by
    rw [asks_more (by simp) (by omega), half2]
    show asks 0 1 [0] + asks 1 1 [] = _
    rw [asks_small (by simp) (by omega), asks_nil]
  rw [chk_more _ _ (by simp) (by omega), half4]
  show Tree.node (chk 0 2 [0] exP [bl sA, s]) (chk 2 2 [3] (exP.drop (parts 0 2 [0]).length) ([bl sA, s].drop (asks 0 2 [0]))) = _
  rw [e2, a2]
  show Tree.node (chk 0 2 [0] exP [bl sA, s]) (chk 2 2 [3] [Tree.leaf (bl sC)] [s]) = _
  rw [chk_more _ _ (by simp) (by omega), half2, chk_more (first := 2) _ _ (by simp) (by omega), half2]
  show Tree.node (Tree.node (chk 0 1 [0] exP [bl sA, s]) (chk 1 1 [] (exP.drop (parts 0 1 [0]).length) ([bl sA, s].drop (asks 0 1 [0])))) (Tree.node (chk 2 1 [] [Tree.leaf (bl sC)] [s]) (chk 3 1 [3] ([Tree.leaf (bl sC)].drop (parts 2 1 []).length) ([s].drop (asks 2 1 [])))) = _
  rw [parts_small (by simp) (by omega), asks_small (by simp) (by omega), parts_nil, asks_nil, chk_small _ _ (by simp) (by omega), chk_small (first := 3) _ _ (by simp) (by omega), chk_nil, chk_nil]
  rfl
def exSum4 (c : Nat) : List Nat := Sha.sha (3 :: 4 :: Sha.sha (1 :: (Sha.sha (1 :: (Sha.sha [0, 97] ++ Sha.sha [0, 98])) ++ Sha.sha (1 :: (Sha.sha [0, 99] ++ Sha.sha [0, c])))))
theorem ex_apart4 : (exSum4 101 == exSum4 100) = false := by decide +kernel
theorem ex_sum4 (c : Nat) : Tree.root 4 (Tree.node (Tree.node (Tree.leaf (bl sA)) (Tree.leaf (bl sB))) (Tree.node (Tree.leaf (bl sC)) (Tree.leaf [c]))) = exSum4 c := by
  unfold Tree.root
  rw [Wire.num_lt (by omega)]
  rfl
theorem exR_is : exR = exSum4 100 := by
  unfold exR
  have := chk_proof (exM.map bl) 4 0 [0, 3] ⟨by omega, by omega, by omega, by omega, trivial⟩ (by simp [exM])
  rw [ex_parts] at this
  have e : ([(1, 1), (2, 1)] : List (Nat × Nat)).map (topP (exM.map bl)) = exP := by
    show [Tree.top [bl sB], Tree.top [bl sC]] = _
    rw [Tree.top_one, Tree.top_one]; rfl
  rw [e] at this
  have e3 : ([0, 3] : List Nat).map (fun x => (exM.map bl).getD x []) = [bl sA, bl sD] := rfl
  rw [e3, ex_chk] at this
  rw [show ((exM.map bl).drop 0).take 4 = exM.map bl from rfl] at this
  rw [← this]
  exact ex_sum4 100
theorem exM_check (s : ByteArray) : checkM exR 4 (ofN [0, 3]) ([sA, s].map bl) exP = (Tree.root 4 (Tree.node (Tree.node (Tree.leaf (bl sA)) (Tree.leaf (bl sB))) (Tree.node (Tree.leaf (bl sC)) (Tree.leaf (bl s)))) == exR) := by
  unfold checkM
  rw [if_pos ⟨exM_ask, rfl, by rw [exM_size4]; rfl⟩, toN_of]
  show (Tree.root 4 (chk 0 4 [0, 3] exP [bl sA, bl s]) == exR) = _
  rw [ex_chk]
theorem exM_good : checkM exR 4 (ofN [0, 3]) ([sA, sD].map bl) exP = true := by
  rw [exM_check, show bl sD = [100] from rfl, ex_sum4, exR_is]; simp
theorem exM_bad : checkM exR 4 (ofN [0, 3]) ([sA, sE].map bl) exP = false := by
  rw [exM_check, show bl sE = [101] from rfl, ex_sum4, exR_is]; exact ex_apart4
set_option maxHeartbeats 2000000 in
theorem awakeM_any (w : World) (hk : Kept w) : Calls Tryd.prog 19 #[] w fun e w' => e = .returned (.bool true) ∧ Below w.heap.size w w' := by
  refine calls_qx (args := []) 46 Tryd.func19 rfl (by kernel_rfl) (by simp) (fun a hS => ?_)
  obtain ⟨i9, hi9, hz9, hzs9, hzb9⟩ := info_parts infStr
  obtain ⟨i3, hi3, hz3, hzs3, hzb3⟩ := info_parts infInt
  obtain ⟨ih, hih, hzh, hszh, hbh⟩ := info_parts infHashb
  refine qx_seq (reg_seq ?_)
  refine seq_is hS (by decide) (runs_assign rfl) (fun a1 hS => ?_)
  refine nil_ok (qx_seq (reg_seq ?_))
  refine seq_op hS (by decide) (runs_buildSlice (pv := [(0, .string sA), (1, .string sB), (2, .string sC), (3, .string sD)]) rfl undStrs hi9 hz9 hzs9 (by omega) (by omega) (cells := #[.string sA, .string sB, .string sC, .string sD]) (by kernel_rfl)) (fun v1 w1 a1 hp1 hS => ?_)
  obtain ⟨rfl, rfl⟩ := hp1
  have hL1 : Has (w.alloc (.cells #[.string sA, .string sB, .string sC, .string sD] 9)) w.heap.size 9 (exM.map Value.string) := Has.new w 9 (exM.map Value.string)
  have hB1 : Below w.heap.size w (w.alloc (.cells #[.string sA, .string sB, .string sC, .string sD] 9)) := (Below.refl _ _).alloc (Nat.le_refl _) _
  generalize w.alloc (.cells #[.string sA, .string sB, .string sC, .string sD] 9) = w1 at *
  refine seq_is hS (by decide) (runs_assign rfl) (fun a1 hS => ?_)
  have hS1 : Strs w1 (.slice (some ⟨w.heap.size, 0, none⟩) 4 4) exM := strs_has hL1 (by unfold maxLen; simp [exM])
  have hk1 := hk.below hB1 hk.pos
  refine nil_ok (qx_seq (reg_seq ?_))
  refine seq_is hS (by decide) (runs_move rfl) (fun a1 hS => ?_)
  refine seq_op hS (by decide) (runs_buildSlice (pv := [(0, .int .i64 0), (1, .int .i64 3)]) rfl undInts hi3 hz3 hzs3 (by omega) (by omega) (cells := #[.int .i64 0, .int .i64 3]) (by kernel_rfl)) (fun v w2 a1 hpw2 hS => ?_)
  obtain ⟨rfl, rfl⟩ := hpw2
  have hA2 : Ints (w1.alloc (.cells #[.int .i64 0, .int .i64 3] 3)) (.slice (some ⟨w1.heap.size, 0, none⟩) 2 2) (ofN [0, 3]) := ints_has (xs := ofN [0, 3]) (Has.new w1 3 [.int .i64 0, .int .i64 3])
  have hD2 : Below w1.heap.size w1 (w1.alloc (.cells #[.int .i64 0, .int .i64 3] 3)) := (Below.refl _ _).alloc (Nat.le_refl _) _
  generalize w1.alloc (.cells #[.int .i64 0, .int .i64 3] 3) = w2 at *
  have hC2 : Below w1.heap.size w1 w2 := hD2
  refine seq_op hS (by decide) (runs_call (args := [.slice (some ⟨w.heap.size, 0, none⟩) 4 4, .slice (some ⟨w1.heap.size, 0, none⟩) 2 2]) (Post := fun v w' => ∃ pv : Value, v = .tuple #[pv, .int .i64 0] ∧ Hashes w' pv exP ∧ Below w2.heap.size w2 w') goes20 rfl ((proveM_yes exM _ _ [0, 3] w2 (hS1.kept hC2) hA2 (by kernel_rfl) exM_size (by simp [exM]) (hk1.below hC2 hk1.pos)).mono (by rintro e w' ⟨pv, rfl, h1, h2⟩; rw [exM_proof] at h1; exact ⟨_, rfl, pv, rfl, h1, h2⟩))) (fun v w3 a1 hpw3 hS => ?_)
  obtain ⟨pv, rfl, hP3, hD3⟩ := hpw3
  have hC3 : Below w1.heap.size w1 w3 := hC2.trans (hD3.mono hC2.size)
  obtain ⟨A, c, rfl, _⟩ := id hP3
  refine seq_is hS (by decide) (runs_move rfl) (fun a1 hS => ?_)
  refine seq_is hS (by decide) (runs_extract rfl rfl) (fun a1 hS => ?_)
  refine seq_is hS (by decide) (runs_extract rfl rfl) (fun a1 hS => ?_)
  refine seq_is hS (by decide) (runs_assign rfl) (fun a1 hS => ?_)
  refine seq_is hS (by decide) (runs_assign rfl) (fun a1 hS => ?_)
  refine nil_ok (qx_seq (reg_seq ?_))
  refine seq_is hS (by decide) (runs_move rfl) (fun a1 hS => ?_)
  refine seq_is hS (by decide) (runs_eql (r := true) rfl rfl rfl) (fun a1 hS => ?_)
  refine seq_is hS (by decide) (runs_move rfl) (fun a1 hS => ?_)
  refine seq_yis hS (by decide) rfl (by decide) rfl (runs_move rfl) (fun a1 hS => ?_)
  refine seq_yes hS (by decide) rfl (by decide) rfl (runs_call (args := [.string sB]) goes49 rfl (hash_call (refLeafH_any sB w3 (by decide)))) (fun v w4 a1 hpw4 hS => ?_)
  obtain ⟨rfl, hD4⟩ := hpw4
  have hC4 : Below w1.heap.size w1 w4 := hC3.trans (hD4.mono hC3.size)
  refine seq_yes hS (by decide) rfl (by decide) rfl (runs_call (args := [.string sC]) goes49 rfl (hash_call (refLeafH_any sC w4 (by decide)))) (fun v w5 a1 hpw5 hS => ?_)
  obtain ⟨rfl, hD5⟩ := hpw5
  have hC5 : Below w1.heap.size w1 w5 := hC4.trans (hD5.mono hC4.size)
  refine seq_yes hS (by decide) rfl (by decide) rfl (runs_buildRow2 rfl rfl undHashes hih hzh (by rw [hszh, U8_length, Tree.leaf_len]) (by rw [hszh, U8_length, Tree.leaf_len]) (by rw [hszh]; omega) (by rw [hszh]; omega)) (fun v w6 a1 hpw6 hS => ?_)
  obtain ⟨rfl, rfl⟩ := hpw6
  have hG : Hashes (w5.alloc (.cells (U8 (Tree.leaf (bl sB)) ++ U8 (Tree.leaf (bl sC))).toArray 26)) (.slice (some ⟨w5.heap.size, 0, none⟩) 2 2) exP := by
    have := World.ownsRow_lit (e := 26) (size := 32) (base := 0) w5 (U8 (Tree.leaf (bl sB)) ++ U8 (Tree.leaf (bl sC))).toArray 2 (by omega) (by unfold maxLen; omega) (by simp [Tree.leaf_len])
    refine hashes_own (base := 0) ?_ exP_ok
    show World.ownsRow _ 0 26 32 _ 2 (U8 [Tree.leaf (bl sB), Tree.leaf (bl sC)].flatten)
    rw [show [Tree.leaf (bl sB), Tree.leaf (bl sC)].flatten = Tree.leaf (bl sB) ++ Tree.leaf (bl sC) by simp, U8_append]
    simpa using this
  have hD6 : Below w5.heap.size w5 (w5.alloc (.cells (U8 (Tree.leaf (bl sB)) ++ U8 (Tree.leaf (bl sC))).toArray 26)) := (Below.refl _ _).alloc (Nat.le_refl _) _
  generalize w5.alloc (.cells (U8 (Tree.leaf (bl sB)) ++ U8 (Tree.leaf (bl sC))).toArray 26) = w6 at *
  have hC6 : Below w1.heap.size w1 w6 := hC5.trans (hD6.mono hC5.size)
  have hQ6 : Below w3.heap.size w3 w6 := (hD4.trans (hD5.mono hD4.size)).trans (hD6.mono (Nat.le_trans hD4.size hD5.size))
  refine seq_yes hS (by decide) rfl (by decide) rfl (runs_call (args := [.slice A exP.length c, .slice (some ⟨w5.heap.size, 0, none⟩) 2 2]) goes24 rfl (bool_call (by have := refSame_any exP exP _ _ w6 (hP3.kept hQ6) hG; rwa [beq_self_eq_true] at this))) (fun v w7 a1 hpw7 hS => ?_)
  obtain ⟨rfl, hD7⟩ := hpw7
  have hC7 : Below w1.heap.size w1 w7 := hC6.trans (hD7.mono hC6.size)
  have hQ7 : Below w3.heap.size w3 w7 := hQ6.trans (hD7.mono hQ6.size)
  refine seq_is hS (by decide) (runs_pick rfl rfl) (fun a1 hS => ?_)
  refine seq_is hS (by decide) (runs_move rfl) (fun a1 hS => ?_)
  refine seq_yis hS (by decide) rfl (by decide) rfl (runs_move rfl) (fun a1 hS => ?_)
  refine seq_yes hS (by decide) rfl (by decide) rfl (runs_call (args := [.slice (some ⟨w.heap.size, 0, none⟩) 4 4]) goes27 rfl (hash_call (by have := refRootH_any exM _ w7 (hS1.kept hC7) exM_size9 (by simp [exM]); rwa [exM_root] at this))) (fun v w8 a1 hpw8 hS => ?_)
  obtain ⟨rfl, hD8⟩ := hpw8
  have hC8 : Below w1.heap.size w1 w8 := hC7.trans (hD8.mono hC7.size)
  have hQ8 : Below w3.heap.size w3 w8 := hQ7.trans (hD8.mono hQ7.size)
  refine seq_yes hS (by decide) rfl (by decide) rfl (runs_buildSlice (pv := [(0, .int .i64 0), (1, .int .i64 3)]) rfl undInts hi3 hz3 hzs3 (by omega) (by omega) (cells := #[.int .i64 0, .int .i64 3]) (by kernel_rfl)) (fun v w9 a1 hpw9 hS => ?_)
  obtain ⟨rfl, rfl⟩ := hpw9
  have hA9 : Ints (w8.alloc (.cells #[.int .i64 0, .int .i64 3] 3)) (.slice (some ⟨w8.heap.size, 0, none⟩) 2 2) (ofN [0, 3]) := ints_has (xs := ofN [0, 3]) (Has.new w8 3 [.int .i64 0, .int .i64 3])
  have hD9 : Below w8.heap.size w8 (w8.alloc (.cells #[.int .i64 0, .int .i64 3] 3)) := (Below.refl _ _).alloc (Nat.le_refl _) _
  generalize w8.alloc (.cells #[.int .i64 0, .int .i64 3] 3) = w9 at *
  have hC9 : Below w1.heap.size w1 w9 := hC8.trans (hD9.mono hC8.size)
  have hQ9 : Below w3.heap.size w3 w9 := hQ8.trans (hD9.mono hQ8.size)
  refine seq_yes hS (by decide) rfl (by decide) rfl (runs_buildSlice (pv := [(0, .string sA), (1, .string sD)]) rfl undStrs hi9 hz9 hzs9 (by omega) (by omega) (cells := #[.string sA, .string sD]) (by kernel_rfl)) (fun v w10 a1 hpw10 hS => ?_)
  obtain ⟨rfl, rfl⟩ := hpw10
  have hA10 : Strs (w9.alloc (.cells #[.string sA, .string sD] 9)) (.slice (some ⟨w9.heap.size, 0, none⟩) 2 2) [sA, sD] := strs_has (ss := [sA, sD]) (Has.new w9 9 [.string sA, .string sD]) (by unfold maxLen; simp)
  have hD10 : Below w9.heap.size w9 (w9.alloc (.cells #[.string sA, .string sD] 9)) := (Below.refl _ _).alloc (Nat.le_refl _) _
  generalize w9.alloc (.cells #[.string sA, .string sD] 9) = w10 at *
  have hC10 : Below w1.heap.size w1 w10 := hC9.trans (hD10.mono hC9.size)
  have hQ10 : Below w3.heap.size w3 w10 := hQ9.trans (hD10.mono hQ9.size)
  refine seq_yis hS (by decide) rfl (by decide) rfl (runs_move rfl) (fun a1 hS => ?_)
  refine seq_yes hS (by decide) rfl (by decide) rfl (runs_call (args := [.agg (U8 exR).toArray, .int .i64 4, .slice (some ⟨w8.heap.size, 0, none⟩) 2 2, .slice (some ⟨w9.heap.size, 0, none⟩) 2 2, .slice A exP.length c]) goes26 rfl (bool_call (by have := checkM_any exR 4 (ofN [0, 3]) [sA, sD] exP _ _ _ w10 exR_len (hA9.kept hD10) hA10 (hP3.kept hQ10) (by simp [sA, sD]; decide) (by rw [exP_len]; omega) (by simp) (hk1.below hC10 hk1.pos); rwa [exM_good] at this))) (fun v w11 a1 hpw11 hS => ?_)
  obtain ⟨rfl, hD11⟩ := hpw11
  have hC11 : Below w1.heap.size w1 w11 := hC10.trans (hD11.mono hC10.size)
  have hQ11 : Below w3.heap.size w3 w11 := hQ10.trans (hD11.mono hQ10.size)
  refine seq_is hS (by decide) (runs_pick rfl rfl) (fun a1 hS => ?_)
  refine seq_is hS (by decide) (runs_move rfl) (fun a1 hS => ?_)
  refine seq_yis hS (by decide) rfl (by decide) rfl (runs_move rfl) (fun a1 hS => ?_)
  refine seq_yes hS (by decide) rfl (by decide) rfl (runs_call (args := [.slice (some ⟨w.heap.size, 0, none⟩) 4 4]) goes27 rfl (hash_call (by have := refRootH_any exM _ w11 (hS1.kept hC11) exM_size9 (by simp [exM]); rwa [exM_root] at this))) (fun v w12 a1 hpw12 hS => ?_)
  obtain ⟨rfl, hD12⟩ := hpw12
  have hC12 : Below w1.heap.size w1 w12 := hC11.trans (hD12.mono hC11.size)
  have hQ12 : Below w3.heap.size w3 w12 := hQ11.trans (hD12.mono hQ11.size)
  refine seq_yes hS (by decide) rfl (by decide) rfl (runs_buildSlice (pv := [(0, .int .i64 0), (1, .int .i64 3)]) rfl undInts hi3 hz3 hzs3 (by omega) (by omega) (cells := #[.int .i64 0, .int .i64 3]) (by kernel_rfl)) (fun v w13 a1 hpw13 hS => ?_)
  obtain ⟨rfl, rfl⟩ := hpw13
  have hA13 : Ints (w12.alloc (.cells #[.int .i64 0, .int .i64 3] 3)) (.slice (some ⟨w12.heap.size, 0, none⟩) 2 2) (ofN [0, 3]) := ints_has (xs := ofN [0, 3]) (Has.new w12 3 [.int .i64 0, .int .i64 3])
  have hD13 : Below w12.heap.size w12 (w12.alloc (.cells #[.int .i64 0, .int .i64 3] 3)) := (Below.refl _ _).alloc (Nat.le_refl _) _
  generalize w12.alloc (.cells #[.int .i64 0, .int .i64 3] 3) = w13 at *
  have hC13 : Below w1.heap.size w1 w13 := hC12.trans (hD13.mono hC12.size)
  have hQ13 : Below w3.heap.size w3 w13 := hQ12.trans (hD13.mono hQ12.size)
  refine seq_yes hS (by decide) rfl (by decide) rfl (runs_buildSlice (pv := [(0, .string sA), (1, .string sE)]) rfl undStrs hi9 hz9 hzs9 (by omega) (by omega) (cells := #[.string sA, .string sE]) (by kernel_rfl)) (fun v w14 a1 hpw14 hS => ?_)
  obtain ⟨rfl, rfl⟩ := hpw14
  have hA14 : Strs (w13.alloc (.cells #[.string sA, .string sE] 9)) (.slice (some ⟨w13.heap.size, 0, none⟩) 2 2) [sA, sE] := strs_has (ss := [sA, sE]) (Has.new w13 9 [.string sA, .string sE]) (by unfold maxLen; simp)
  have hD14 : Below w13.heap.size w13 (w13.alloc (.cells #[.string sA, .string sE] 9)) := (Below.refl _ _).alloc (Nat.le_refl _) _
  generalize w13.alloc (.cells #[.string sA, .string sE] 9) = w14 at *
  have hC14 : Below w1.heap.size w1 w14 := hC13.trans (hD14.mono hC13.size)
  have hQ14 : Below w3.heap.size w3 w14 := hQ13.trans (hD14.mono hQ13.size)
  refine seq_yis hS (by decide) rfl (by decide) rfl (runs_move rfl) (fun a1 hS => ?_)
  refine seq_yes hS (by decide) rfl (by decide) rfl (runs_call (args := [.agg (U8 exR).toArray, .int .i64 4, .slice (some ⟨w12.heap.size, 0, none⟩) 2 2, .slice (some ⟨w13.heap.size, 0, none⟩) 2 2, .slice A exP.length c]) goes26 rfl (bool_call (by have := checkM_any exR 4 (ofN [0, 3]) [sA, sE] exP _ _ _ w14 exR_len (hA13.kept hD14) hA14 (hP3.kept hQ14) (by simp [sA, sE]; decide) (by rw [exP_len]; omega) (by simp) (hk1.below hC14 hk1.pos); rwa [exM_bad] at this))) (fun v w15 a1 hpw15 hS => ?_)
  obtain ⟨rfl, hD15⟩ := hpw15
  have hC15 : Below w1.heap.size w1 w15 := hC14.trans (hD15.mono hC14.size)
  have hQ15 : Below w3.heap.size w3 w15 := hQ14.trans (hD15.mono hQ14.size)
  refine seq_yis hS (by decide) rfl (by decide) rfl (runs_not (b := false) rfl) (fun a1 hS => ?_)
  refine seq_is hS (by decide) (runs_pick rfl rfl) (fun a1 hS => ?_)
  refine seq_is hS (by decide) (runs_move rfl) (fun a1 hS => ?_)
  refine seq_yes hS (by decide) rfl (by decide) rfl (runs_buildSlice (pv := [(0, .int .i64 0), (1, .int .i64 3)]) rfl undInts hi3 hz3 hzs3 (by omega) (by omega) (cells := #[.int .i64 0, .int .i64 3]) (by kernel_rfl)) (fun v w16 a1 hpw16 hS => ?_)
  obtain ⟨rfl, rfl⟩ := hpw16
  have hA16 : Ints (w15.alloc (.cells #[.int .i64 0, .int .i64 3] 3)) (.slice (some ⟨w15.heap.size, 0, none⟩) 2 2) (ofN [0, 3]) := ints_has (xs := ofN [0, 3]) (Has.new w15 3 [.int .i64 0, .int .i64 3])
  have hD16 : Below w15.heap.size w15 (w15.alloc (.cells #[.int .i64 0, .int .i64 3] 3)) := (Below.refl _ _).alloc (Nat.le_refl _) _
  generalize w15.alloc (.cells #[.int .i64 0, .int .i64 3] 3) = w16 at *
  have hC16 : Below w1.heap.size w1 w16 := hC15.trans (hD16.mono hC15.size)
  have hQ16 : Below w3.heap.size w3 w16 := hQ15.trans (hD16.mono hQ15.size)
  refine seq_yis hS (by decide) rfl (by decide) rfl (runs_call (args := [.int .i64 4, .slice (some ⟨w15.heap.size, 0, none⟩) 2 2]) (Post := Is (.int .i64 2) w16) goes23 rfl (by have := size_call 4 (ofN [0, 3]) _ w16 hA16; rwa [exM_size4] at this)) (fun a1 hS => ?_)
  refine seq_yis hS (by decide) rfl (by decide) rfl (runs_eql (r := true) rfl rfl rfl) (fun a1 hS => ?_)
  refine seq_is hS (by decide) (runs_pick rfl rfl) (fun a1 hS => ?_)
  refine seq_is hS (by decide) (runs_move rfl) (fun a1 hS => ?_)
  refine seq_yes hS (by decide) rfl (by decide) rfl (runs_buildSlice (pv := [(0, .int .i64 0), (1, .int .i64 3)]) rfl undInts hi3 hz3 hzs3 (by omega) (by omega) (cells := #[.int .i64 0, .int .i64 3]) (by kernel_rfl)) (fun v w17 a1 hpw17 hS => ?_)
  obtain ⟨rfl, rfl⟩ := hpw17
  have hA17 : Ints (w16.alloc (.cells #[.int .i64 0, .int .i64 3] 3)) (.slice (some ⟨w16.heap.size, 0, none⟩) 2 2) (ofN [0, 3]) := ints_has (xs := ofN [0, 3]) (Has.new w16 3 [.int .i64 0, .int .i64 3])
  have hD17 : Below w16.heap.size w16 (w16.alloc (.cells #[.int .i64 0, .int .i64 3] 3)) := (Below.refl _ _).alloc (Nat.le_refl _) _
  generalize w16.alloc (.cells #[.int .i64 0, .int .i64 3] 3) = w17 at *
  have hC17 : Below w1.heap.size w1 w17 := hC16.trans (hD17.mono hC16.size)
  have hQ17 : Below w3.heap.size w3 w17 := hQ16.trans (hD17.mono hQ16.size)
  refine seq_yis hS (by decide) rfl (by decide) rfl (runs_call (args := [.int .i64 4, .slice (some ⟨w16.heap.size, 0, none⟩) 2 2]) goes22 rfl (rises_call 4 (ofN [0, 3]) _ w17 hA17)) (fun a1 hS => ?_)
  refine seq_is hS (by decide) (runs_pick rfl rfl) (fun a1 hS => ?_)
  refine seq_is hS (by decide) (runs_assign rfl) (fun a1 hS => ?_)
  exact nil_ok (qx_ret (ret1 (t := 0) (by kernel_rfl) hS rfl ⟨rfl, hB1.trans (hC17.mono hB1.size)⟩))
theorem awakeM_call (w : World) (hk : Kept w) : Calls Tryd.prog 19 ([] : List Value).toArray w fun e w' => ∃ v, e = .returned v ∧ v = .bool true ∧ Below w.heap.size w w' := bool_call (awakeM_any w hk)
end Go.Proofs.YtdemoidmhmdgkaaDoor
