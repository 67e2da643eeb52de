/- The walk of HashNone. Conditions: the table of constants lies as it was laid. -/
import Derived.Test.YtcinhbhagiffgaaDoorPair
import Derived.Test.YtcinhbhagiffgaaDoorWApart
namespace Go.Proofs.YtcinhbhagiffgaaDoor
open Go.RowKit

theorem parts_one {w : World} {v : Value} {l : List Nat} (h : Sl w w.heap.size v l) : Parts (w.alloc (.cells #[v] 27)) (.slice (some ⟨w.heap.size, 0, none⟩) 1 1) [l] :=
  parts_new w [v] [l] _ 1 rfl rfl rfl (by simp; unfold maxLen; omega) (fun i u l h1 h2 => by
    match i, h1, h2 with
    | 0, h1, h2 => simp at h1 h2; subst h1 h2; exact h
    | i + 1, h1, h2 => simp at h1)
theorem parts_three {w : World} {v1 v2 v3 : Value} {l1 l2 l3 : List Nat} (h1 : Sl w w.heap.size v1 l1) (h2 : Sl w w.heap.size v2 l2) (h3 : Sl w w.heap.size v3 l3) :
    Parts (w.alloc (.cells #[v1, v2, v3] 27)) (.slice (some ⟨w.heap.size, 0, none⟩) 3 3) [l1, l2, l3] :=
  parts_new w [v1, v2, v3] [l1, l2, l3] _ 3 rfl rfl rfl (by simp; unfold maxLen; omega) (fun i u l e1 e2 => by
    match i, e1, e2 with
    | 0, e1, e2 => simp at e1 e2; subst e1 e2; exact h1
    | 1, e1, e2 => simp at e1 e2; subst e1 e2; exact h2
    | 2, e1, e2 => simp at e1 e2; subst e1 e2; exact h3
    | i + 3, e1, e2 => simp at e1)
theorem bl_extract (s : ByteArray) (i j : Nat) : bl (s.extract i j) = ((bl s).drop i).take (j - i) := by
  obtain ⟨⟨l⟩⟩ := s
  simp [bl, List.extract_eq_take_drop, List.map_take, List.map_drop]
theorem bl_cut (s : ByteArray) (k : Nat) : bl (s.extract 0 k) ++ bl (s.extract k s.size) = bl s := by
  rw [bl_extract, bl_extract, List.drop_zero, Nat.sub_zero, List.take_of_length_le (i := s.size - k) (by rw [List.length_drop, bl_length]; omega), List.take_append_drop]
theorem cut_size (s : ByteArray) (i j : Nat) : (s.extract i j).size ≤ s.size := by
  rw [← bl_length, ← bl_length s, bl_extract, List.length_take, List.length_drop]
  omega

set_option maxRecDepth 100000 in
set_option maxHeartbeats 1000000 in
theorem none_walk (s : ByteArray) (n : Nat) (hn : n < 256) (w : World) (hk : Kept w) :
    Calls Tryd.prog 8 #[.string s, .int .u8 (n : Int)] w fun e w' => e = .returned (.bool true) ∧ Below w.heap.size w w' := by
  have HK := Lib.hid hk
  clear hk
  by_cases h200 : 200 < s.size
  · have t1 : decide ((s.size : Int) > 200) = true := by simp; omega
    go_enter Tryd.func8, Tryd.ntmps8
    go_wp2_with fail
    refine (awake_any _ HK.out).mono ?_
    rintro e w1 ⟨rfl, hb1⟩
    have HB1 := Lib.hid hb1
    clear hb1
    go_wp2_with fail
    refine (awake_any _ (HK.out.below HB1.out HK.out.pos)).mono ?_
    rintro e w2 ⟨rfl, hb2⟩
    have HB2 := Lib.hid (HB1.out.trans (hb2.mono HB1.out.size))
    clear hb2 HB1
    go_wp2
    go_ret
    exact ⟨rfl, HB2.out⟩
  · have hs : s.size ≤ 1000 := by omega
    have t1 : decide ((s.size : Int) > 200) = false := by simp; omega
    go_enter Tryd.func8, Tryd.ntmps8
    go_wp2_with fail
    refine (awake_any _ HK.out).mono ?_
    rintro e w1 ⟨rfl, hb1⟩
    have HB1 := Lib.hid hb1
    clear hb1
    obtain ⟨W1, cc, hcv, hz1, hB1, hS1⟩ := conv_str w1 s (by unfold maxLen; omega)
    have HZ1 := Lib.hid hz1
    have HC1 := Lib.hid hB1
    have HS1 := Lib.hid hS1
    clear hz1 hB1 hS1
    go_wp2_with fail
    obtain ⟨k, hk, hkk⟩ : ∃ k : Nat, k ≤ s.size ∧ (n : Int) % ((s.size : Int) + 1) = (k : Int) := ⟨n % (s.size + 1), by have := Nat.mod_lt n (show 0 < s.size + 1 by omega); omega, by simp⟩
    have hb2 : Below w.heap.size w (W1.alloc (.cells #[.slice (some ⟨w1.heap.size, 0, none⟩) s.size cc] 27)) :=
      (HB1.out.trans (HC1.out.mono HB1.out.size)).alloc (by have := HC1.out.size; have := HB1.out.size; omega) _
    refine (of_any [bl s] _ _ (parts_one HS1.out) (fun l hl => by rw [List.mem_singleton.1 hl]; exact bl_bytes s) (HK.out.below hb2 HK.out.pos) (by simp [bl_length]; omega)).mono ?_
    rintro e w3 ⟨rfl, hb3⟩
    rw [show [bl s].flatten = bl s from by simp, hkk]
    have HB3 := Lib.hid (hb2.trans (hb3.mono hb2.size))
    clear hb3 hb2 HB1 HC1 HS1 hcv hkk hn
    have HL : Hid ((Sha.sha (bl s)).length = 32) := Sha.Holds.sumText
    obtain ⟨X, hX⟩ : ∃ X, X = Sha.sha (bl s) := ⟨_, rfl⟩
    rw [← hX] at HL ⊢
    have HX := Lib.hid hX
    clear hX
    have hXl := HL.out
    have HSz : Hid ((Tryd.prog.info? 25).map (·.size) = some (U8 X).toArray.size) := by
      show _ = _
      rw [size25', List.size_toArray, U8_length, HL.out]
    have hst := run_storeCells_new (P := Tryd.prog) w3 25 (U8 (List.replicate 32 0)).toArray (U8 X).toArray HSz.out (by simp [HL.out]) (all_oneCell_toArray (U8_one _))
    have hst1 : Sem.run Tryd.prog (storeCells ⟨w3.heap.size, 0, none⟩ (U8 X)) (w3.alloc (.cells #[.int .u8 0, .int .u8 0, .int .u8 0, .int .u8 0, .int .u8 0, .int .u8 0, .int .u8 0, .int .u8 0, .int .u8 0, .int .u8 0, .int .u8 0, .int .u8 0, .int .u8 0, .int .u8 0, .int .u8 0, .int .u8 0, .int .u8 0, .int .u8 0, .int .u8 0, .int .u8 0, .int .u8 0, .int .u8 0, .int .u8 0, .int .u8 0, .int .u8 0, .int .u8 0, .int .u8 0, .int .u8 0, .int .u8 0, .int .u8 0, .int .u8 0, .int .u8 0] 25)) = .ok () (w3.alloc (.cells (U8 X).toArray 25)) := hst
    clear hst
    have hx4 := Has.new w3 25 (U8 X)
    have hB4 : Below w.heap.size w (w3.alloc (.cells (U8 X).toArray 25)) := HB3.out.alloc (by have := HB3.out.size; omega) _
    generalize hW4 : w3.alloc (.cells (U8 X).toArray 25) = W4 at *
    have HX4 := Lib.hid hx4
    have HB4 := Lib.hid hB4
    clear hx4 hB4 hW4 HB3
    go_wp2_with fail
    clear hst1
    have heh := fun W : World => run_eqHash X X HL.out HL.out W
    rw [beq_self_eq_true] at heh
    have HS4 := Lib.hid (show Below W4.heap.size W4 W4.drew from (Below.refl _ _).drew)
    have kS : ∀ w w' : World, Below W4.heap.size W4 w → Below w.heap.size w w' → Below W4.heap.size W4 w' := fun w w' h k => h.trans (k.mono h.size)
    have KS := Lib.hid kS
    have HKS : Hid (∀ w', Below W4.heap.size W4 w' → Kept w') := fun w' h => HK.out.below (HB4.out.trans (h.mono HB4.out.size)) HK.out.pos
    clear kS
    have hS := HS4.out
    refine wp_region_held (S := fun w' => Below W4.heap.size W4 w') (by kernel_rfl) ?_
    change wpAnyH _ _ _ _ _ _ _ _ W4.drew
    refine held_take 0 (some 25) (v := .string s) rfl rfl (by kernel_rfl) (by kernel_rfl) (by kernel_rfl) (fun _ _ _ h => h) (Or.inl ⟨by rfl, fun _ _ => by go_simp⟩) hS ?_
    go_frame
    refine held_take 5 (some 30) rfl rfl (by kernel_rfl) (by kernel_rfl) (by kernel_rfl) (fun _ _ _ h => h) (yieldsIf_load_mid (by rfl) 25 (.tmp 6) rfl w3.heap.size 0 rfl (U8 X) (.array 32 5) (fun _ h => has_range (HX4.out.below h HX4.out.lt)) und25 rfl (by rw [U8_length, HL.out]; kernel_rfl)) hS ?_
    go_frame
    refine held_pair 1 2 26 27 rfl rfl (by kernel_rfl) (by kernel_rfl) (by kernel_rfl) (by decide) (by decide) (fun v w' => Sl w' w'.heap.size v (bl s)) (fun v _ => ∃ A, v = .slice A 0 0) (fun v w w' h k => h.below (B := 0) k (Nat.le_refl _) rfl) (fun v _ _ h _ => h) KS.out hS ?c1 ?c2 ?c3 ?c4 ?_
    case c1 =>
      clear hS
      intro w5 hS
      refine ⟨by rfl, fun K hK => ?_⟩
      obtain ⟨W5, c5, hcv, hz, hB, hSl⟩ := conv_str w5 s (by unfold maxLen; omega)
      go_simp
      exact hK _ _ hB hSl
    case c2 =>
      clear hS
      intro w5 hS
      refine ⟨by rfl, fun K hK => ?_⟩
      go_simp
      exact hK _ _ ((Below.refl _ _).alloc (Nat.le_refl _) _) ⟨_, rfl⟩
    case c3 =>
      clear hS
      intro v w5 hS
      refine ⟨by rfl, fun K hK => ?_⟩
      obtain ⟨W5, c5, hcv, hz, hB, hSl⟩ := conv_str w5 s (by unfold maxLen; omega)
      go_simp
      exact hK _ _ hB hSl
    case c4 =>
      clear hS
      intro v w5 hS
      refine ⟨by rfl, fun K hK => ?_⟩
      go_simp
      exact hK _ _ ((Below.refl _ _).alloc (Nat.le_refl _) _) ⟨_, rfl⟩
    clear hS
    rintro v26 v27 w5 hS hSl ⟨A27, rfl⟩
    obtain ⟨A26, c26, rfl, _⟩ := id hSl
    have HSl := Lib.hid hSl
    clear hSl
    go_frame
    refine held_one 3 (some 28) rfl rfl (by kernel_rfl) (by rfl) (fun K hK => ?_)
    go_simp
    have HP := Lib.hid (parts_three (sl_nil w5 w5.heap.size) HSl.out (sl_none w5 w5.heap.size A27))
    have hS6 : Below W4.heap.size W4 (w5.alloc (.cells #[.slice none 0 0, .slice A26 (bl s).length c26, .slice A27 0 0] 27)) := hS.alloc hS.size _
    refine hK _ _ hS6 ?_
    clear hK K hS HSl
    generalize w5.alloc (.cells #[.slice none 0 0, .slice A26 (bl s).length c26, .slice A27 0 0] 27) = w6 at *
    go_frame
    refine held_one 4 (some 29) rfl rfl (by kernel_rfl) (by rfl) (fun K hK => ?_)
    go_simp
    refine (of_any [[], bl s, []] _ w6 HP.out (fun l hl => by
      rcases (by simpa using hl : l = [] ∨ l = bl s ∨ l = []) with rfl | rfl | rfl
      · intro x hx; cases hx
      · exact bl_bytes s
      · intro x hx; cases hx) (HKS.out _ hS6) (by simp [bl_length]; omega)).mono ?_
    rintro e w7 ⟨rfl, hb7⟩
    rw [show [[], bl s, []].flatten = bl s from by simp, ← HX.out]
    have hS := KS.out _ _ hS6 hb7
    refine hK _ _ hS ?_
    clear hK K hS6 hb7 HP
    go_frame
    refine held_take 6 (some 31) (v := .bool true) rfl rfl (by kernel_rfl) (by kernel_rfl) (by kernel_rfl) (fun _ _ _ h => h) (Or.inl ⟨by rfl, fun _ _ => by go_simp⟩) hS ?_
    go_frame
    refine held_take 7 (some 32) (v := .bool true) rfl rfl (by kernel_rfl) (by kernel_rfl) (by kernel_rfl) (fun _ _ _ h => h) (Or.inl ⟨by rfl, fun _ _ => by go_simp⟩) hS ?_
    go_frame
    refine held_take 8 (some 33) (v := .string s) rfl rfl (by kernel_rfl) (by kernel_rfl) (by kernel_rfl) (fun _ _ _ h => h) (Or.inl ⟨by rfl, fun _ _ => by go_simp⟩) hS ?_
    go_frame
    refine held_take 9 (some 34) (v := .int .i64 (k : Int)) rfl rfl (by kernel_rfl) (by kernel_rfl) (by kernel_rfl) (fun _ _ _ h => h) (Or.inl ⟨by rfl, fun _ _ => by go_simp⟩) hS ?_
    go_frame
    refine held_take 12 (some 37) (v := .string s) rfl rfl (by kernel_rfl) (by kernel_rfl) (by kernel_rfl) (fun _ _ _ h => h) (Or.inl ⟨by rfl, fun _ _ => by go_simp⟩) hS ?_
    go_frame
    refine held_take 13 (some 38) (v := .int .i64 (k : Int)) rfl rfl (by kernel_rfl) (by kernel_rfl) (by kernel_rfl) (fun _ _ _ h => h) (Or.inl ⟨by rfl, fun _ _ => by go_simp⟩) hS ?_
    go_frame
    refine held_take 18 (some 43) rfl rfl (by kernel_rfl) (by kernel_rfl) (by kernel_rfl) (fun _ _ _ h => h) (yieldsIf_load_mid (by rfl) 25 (.tmp 6) rfl w3.heap.size 0 rfl (U8 X) (.array 32 5) (fun _ h => has_range (HX4.out.below h HX4.out.lt)) und25 rfl (by rw [U8_length, HL.out]; kernel_rfl)) hS ?_
    go_frame
    have hk1 : (k : Int) ≤ s.size := by omega
    refine held_take 10 (some 35) (v := .string (s.extract 0 k)) rfl rfl (by kernel_rfl) (by kernel_rfl) (by kernel_rfl) (fun _ _ _ h => h) (Or.inl ⟨by rfl, fun _ _ => by go_simp⟩) hS ?_
    go_frame
    refine held_take 14 (some 39) (v := .string (s.extract k s.size)) rfl rfl (by kernel_rfl) (by kernel_rfl) (by kernel_rfl) (fun _ _ _ h => h) (Or.inl ⟨by rfl, fun _ _ => by go_simp⟩) hS ?_
    go_frame
    have HCut := Lib.hid (bl_cut s k)
    have hp1 := cut_size s 0 k
    have hp2 := cut_size s k s.size
    generalize s.extract 0 k = p1 at *
    generalize s.extract k s.size = p2 at *
    refine held_pair 11 15 36 40 rfl rfl (by kernel_rfl) (by kernel_rfl) (by kernel_rfl) (by decide) (by decide) (fun v w' => Sl w' w'.heap.size v (bl p1)) (fun v w' => Sl w' w'.heap.size v (bl p2)) (fun v w w' h k => h.below (B := 0) k (Nat.le_refl _) rfl) (fun v w w' h k => h.below (B := 0) k (Nat.le_refl _) rfl) KS.out hS ?c1 ?c2 ?c3 ?c4 ?_
    case c1 =>
      clear hS
      intro w8 hS
      refine ⟨by rfl, fun K hK => ?_⟩
      obtain ⟨W5, c5, hcv, hz, hB, hSl⟩ := conv_str w8 p1 (by unfold maxLen; omega)
      go_simp
      exact hK _ _ hB hSl
    case c2 =>
      clear hS
      intro w8 hS
      refine ⟨by rfl, fun K hK => ?_⟩
      obtain ⟨W5, c5, hcv, hz, hB, hSl⟩ := conv_str w8 p2 (by unfold maxLen; omega)
      go_simp
      exact hK _ _ hB hSl
    case c3 =>
      clear hS
      intro v w8 hS
      refine ⟨by rfl, fun K hK => ?_⟩
      obtain ⟨W5, c5, hcv, hz, hB, hSl⟩ := conv_str w8 p1 (by unfold maxLen; omega)
      go_simp
      exact hK _ _ hB hSl
    case c4 =>
      clear hS
      intro v w8 hS
      refine ⟨by rfl, fun K hK => ?_⟩
      obtain ⟨W5, c5, hcv, hz, hB, hSl⟩ := conv_str w8 p2 (by unfold maxLen; omega)
      go_simp
      exact hK _ _ hB hSl
    clear hS
    intro v36 v40 w8 hS hSl1 hSl2
    obtain ⟨A36, c36, rfl, _⟩ := id hSl1
    obtain ⟨A40, c40, rfl, _⟩ := id hSl2
    have HP := Lib.hid (parts_three hSl1 (sl_nil w8 w8.heap.size) hSl2)
    clear hSl1 hSl2
    go_frame
    refine held_one 16 (some 41) rfl rfl (by kernel_rfl) (by rfl) (fun K hK => ?_)
    go_simp
    have hS9 : Below W4.heap.size W4 (w8.alloc (.cells #[.slice A36 (bl p1).length c36, .slice none 0 0, .slice A40 (bl p2).length c40] 27)) := hS.alloc hS.size _
    refine hK _ _ hS9 ?_
    clear hK K hS
    generalize w8.alloc (.cells #[.slice A36 (bl p1).length c36, .slice none 0 0, .slice A40 (bl p2).length c40] 27) = w9 at *
    go_frame
    refine held_one 17 (some 42) rfl rfl (by kernel_rfl) (by rfl) (fun K hK => ?_)
    go_simp
    refine (of_any [bl p1, [], bl p2] _ w9 HP.out (fun l hl => by
      rcases (by simpa using hl : l = bl p1 ∨ l = [] ∨ l = bl p2) with rfl | rfl | rfl
      · exact bl_bytes p1
      · intro x hx; cases hx
      · exact bl_bytes p2) (HKS.out _ hS9) (by simp [bl_length]; omega)).mono ?_
    rintro e w10 ⟨rfl, hb10⟩
    rw [show [bl p1, [], bl p2].flatten = bl p1 ++ bl p2 from by simp, HCut.out, ← HX.out]
    have hS := KS.out _ _ hS9 hb10
    refine hK _ _ hS ?_
    clear hK K hS9 hb10 HP
    go_frame
    refine held_take 19 (some 44) (v := .bool true) rfl rfl (by kernel_rfl) (by kernel_rfl) (by kernel_rfl) (fun _ _ _ h => h) (Or.inl ⟨by rfl, fun _ _ => by go_simp⟩) hS ?_
    go_frame
    refine held_take 20 (some 45) (v := .bool true) rfl rfl (by kernel_rfl) (by kernel_rfl) (by kernel_rfl) (fun _ _ _ h => h) (Or.inl ⟨by rfl, fun _ _ => by go_simp⟩) hS ?_
    go_frame
    refine held_take 21 (some 46) (v := .bool true) rfl rfl (by kernel_rfl) (by kernel_rfl) (by kernel_rfl) (fun _ _ _ h => h) (Or.inl ⟨by rfl, fun _ _ => by go_simp⟩) hS ?_
    go_frame
    obtain ⟨E, hE⟩ : ∃ E, E = Sha.sha [] := ⟨_, rfl⟩
    have HE := Lib.hid hE
    have HEl : Hid (E.length = 32) := by rw [hE]; exact Sha.Holds.sumText
    clear hE
    have hOf : ∀ w' : World, Below W4.heap.size W4 w' → Calls Tryd.prog 13 #[.slice none 0 0] w' fun e w'' => e = .returned (.agg (U8 E).toArray) ∧ Below w'.heap.size w' w'' := fun w' h => by
      have := of_any [] _ w' (parts_nil w') (fun l hl => by cases hl) (HKS.out _ h) (by simp)
      rw [show ([] : List (List Nat)).flatten = [] from rfl, ← HE.out] at this
      exact this
    have HOf := Lib.hid hOf
    clear hOf
    refine held_tri 22 23 24 47 48 49 rfl rfl rfl (by kernel_rfl) (by kernel_rfl) (by kernel_rfl) (by kernel_rfl) (by kernel_rfl) (by decide) (by decide) (by decide) (by decide) (fun v _ => v = .agg (U8 E).toArray) (fun v _ => ∃ A, v = .slice A 0 0) (fun v w' => Parts w' v [[]]) (fun v _ _ h _ => h) (fun v _ _ h _ => h) (fun v w w' h k => h.below k) KS.out hS ?c1 ?c2 ?c3 ?c4 ?c5 ?c6 ?c7 ?_
    case c1 =>
      clear hS
      intro w11 hS
      refine ⟨by rfl, fun K hK => ?_⟩
      go_simp
      refine (HOf.out _ hS).mono ?_
      rintro e w12 ⟨rfl, hb⟩
      exact hK _ _ hb rfl
    case c2 =>
      clear hS
      intro v w11 hS
      refine ⟨by rfl, fun K hK => ?_⟩
      go_simp
      refine (HOf.out _ hS).mono ?_
      rintro e w12 ⟨rfl, hb⟩
      exact hK _ _ hb rfl
    case c3 =>
      clear hS
      intro v u w11 hS
      refine ⟨by rfl, fun K hK => ?_⟩
      go_simp
      refine (HOf.out _ hS).mono ?_
      rintro e w12 ⟨rfl, hb⟩
      exact hK _ _ hb rfl
    case c4 =>
      clear hS
      intro w11 hS
      refine ⟨by rfl, fun K hK => ?_⟩
      go_simp
      exact hK _ _ ((Below.refl _ _).alloc (Nat.le_refl _) _) ⟨_, rfl⟩
    case c5 =>
      clear hS
      intro v w11 hS
      refine ⟨by rfl, fun K hK => ?_⟩
      go_simp
      exact hK _ _ ((Below.refl _ _).alloc (Nat.le_refl _) _) ⟨_, rfl⟩
    case c6 =>
      clear hS
      rintro v w11 hS ⟨A, rfl⟩
      refine ⟨by rfl, fun K hK => ?_⟩
      go_simp
      exact hK _ _ ((Below.refl _ _).alloc (Nat.le_refl _) _) (parts_one (sl_none _ _ A))
    case c7 =>
      clear hS
      rintro u v w11 hS ⟨A, rfl⟩
      refine ⟨by rfl, fun K hK => ?_⟩
      go_simp
      exact hK _ _ ((Below.refl _ _).alloc (Nat.le_refl _) _) (parts_one (sl_none _ _ A))
    clear hS
    rintro v47 v48 v49 w11 hS rfl ⟨A48, rfl⟩ hP
    have HP := Lib.hid hP
    clear hP
    go_frame
    refine held_one 25 (some 50) rfl rfl (by kernel_rfl) (by rfl) (fun K hK => ?_)
    go_simp
    refine (of_any [[]] _ w11 HP.out (fun l hl => by rw [List.mem_singleton.1 hl]; intro x hx; cases hx) (HKS.out _ hS) (by simp)).mono ?_
    rintro e w12 ⟨rfl, hb12⟩
    rw [show [([] : List Nat)].flatten = [] from rfl, ← HE.out]
    have hS2 := KS.out _ _ hS hb12
    refine hK _ _ hS2 ?_
    clear hK K hS hb12 HP
    have hS := hS2
    clear hS2 heh
    have heh := fun W : World => run_eqHash E E HEl.out HEl.out W
    rw [beq_self_eq_true] at heh
    go_frame
    refine held_take 26 (some 51) (v := .bool true) rfl rfl (by kernel_rfl) (by kernel_rfl) (by kernel_rfl) (fun _ _ _ h => h) (Or.inl ⟨by rfl, fun _ _ => by go_simp⟩) hS ?_
    go_frame
    refine held_take 27 (some 52) (v := .bool true) rfl rfl (by kernel_rfl) (by kernel_rfl) (by kernel_rfl) (fun _ _ _ h => h) (Or.inl ⟨by rfl, fun _ _ => by go_simp⟩) hS ?_
    go_frame
    refine held_take 28 (some 4) (v := .bool true) rfl rfl (by kernel_rfl) (by kernel_rfl) (by kernel_rfl) (fun _ _ _ h => h) (Or.inl ⟨by rfl, fun _ _ => by go_simp⟩) hS ?_
    go_frame
    refine wpAnyH_done (by kernel_rfl) ?_ _
    have HB12 := Lib.hid (HB4.out.trans (hS.mono HB4.out.size))
    clear hS
    go_wp2
    go_ret
    exact ⟨rfl, HB12.out⟩
end Go.Proofs.YtcinhbhagiffgaaDoor
