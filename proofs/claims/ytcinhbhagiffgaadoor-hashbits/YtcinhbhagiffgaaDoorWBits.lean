/- The walk of HashBits, given the contract of the document's own Of. Conditions: that contract; the table of constants lies as it was laid. -/
import Derived.Test.YtcinhbhagiffgaaDoorAllOf
import Derived.Test.YtcinhbhagiffgaaDoorWOf
namespace Go.Proofs.YtcinhbhagiffgaaDoor
open Go.RowKit

theorem parts_two {w : World} {v1 v2 : Value} {l1 l2 : List Nat} (h1 : Sl w w.heap.size v1 l1) (h2 : Sl w w.heap.size v2 l2) :
    Parts (w.alloc (.cells #[v1, v2] 27)) (.slice (some ⟨w.heap.size, 0, none⟩) 2 2) [l1, l2] :=
  parts_new w [v1, v2] [l1, l2] _ 2 rfl rfl rfl (by simp; unfold maxLen; omega) (fun i u l e1 e2 => by
    match i, e1, e2 with
    | 0, e1, e2 => simp at e1 e2; subst e1 e2; exact h1
    | 1, e1, e2 => simp at e1 e2; subst e1 e2; exact h2
    | i + 2, e1, e2 => simp at e1)
def DB (i : Nat) : Tmp := if i = 14 then 4 else 13 + i
def RB (s : ByteArray) (n : Nat) (X : List Nat) (i : Nat) (v : Value) (w' : World) : Prop :=
  match i with
  | 0 | 7 => v = .string s
  | 1 => Sl w' w'.heap.size v (bl s)
  | 2 | 8 => v = .int .u8 (n : Int)
  | 3 | 9 => ∃ b, v = .slice (some ⟨b, 0, none⟩) 1 1 ∧ Has w' b 5 (U8 [n])
  | 4 => ∃ c k, v = .slice c 2 k ∧ Parts w' v [bl s, [n]]
  | 5 => v = .agg (U8 X).toArray
  | 6 | 12 => v = .string (S X)
  | 10 => v = .string (S [n])
  | 11 => v = .string (s ++ S [n])
  | _ => v = .bool true
theorem getD_tt {l : Array Bool} {j : Nat} (h : l.getD j false = true) : l.getD j true = true := by
  by_cases hj : j < l.size
  · simpa [hj] using h
  · simp [hj] at h
theorem DB_inj (i j : Nat) (hi : i < 15) (hj : j < 15) (h : DB i = DB j) : i = j := by
  have : ∀ i : Fin 15, ∀ j : Fin 15, DB i.val = DB j.val → i = j := by decide
  simpa using this ⟨i, hi⟩ ⟨j, hj⟩ h
theorem DB_lt (i : Nat) (hi : i < 15) : DB i < 27 := by
  have : ∀ i : Fin 15, DB i.val < 27 := by decide
  exact this ⟨i, hi⟩
theorem DB_old (i : Nat) (hi : i < 15) : DB i ≠ 0 ∧ DB i ≠ 1 := by
  have : ∀ i : Fin 15, DB i.val ≠ 0 ∧ DB i.val ≠ 1 := by decide
  exact this ⟨i, hi⟩
theorem ord_of {ops : Array Oper} (h : (List.range ops.size).all (fun i => match ops[i]? with | some o => o.after.all (fun e => decide (e.on < i)) | none => true) = true) : ∀ (i : Nat) (o : Oper), ops[i]? = some o → o.after.all (fun e => decide (e.on < i)) = true := fun i o ho => by
  have := List.all_eq_true.1 h i (List.mem_range.2 (Array.getElem?_eq_some_iff.1 ho).1)
  simpa only [ho] using this
theorem RB_mono (s : ByteArray) (n : Nat) (X : List Nat) (i : Nat) (v : Value) (w w' : World) (h : RB s n X i v w) (k : Below w.heap.size w w') : RB s n X i v w' := by
  unfold RB at *
  split at h <;> first
    | exact h
    | exact h.below (B := 0) k (Nat.le_refl _) rfl
    | (obtain ⟨b, e, h⟩ := h; exact ⟨b, e, Has.below h k h.lt⟩)
    | (obtain ⟨c, d, e, h⟩ := h; exact ⟨c, d, e, h.below k⟩)

set_option maxRecDepth 100000 in
set_option maxHeartbeats 1000000 in
theorem bits_walk (href : RefOf) (s : ByteArray) (n : Nat) (hn : n < 256) (w : World) (hk : Kept w) :
    Calls Tryd.prog 10 #[.string s, .int .u8 (n : Int)] w fun e w' => e = .returned (.bool true) ∧ Below w.heap.size w w' := by
  have HRef := Lib.hid href
  have HK := Lib.hid hk
  clear hk href
  by_cases h200 : 200 < s.size
  · have t1 : decide ((s.size : Int) > 200) = true := by simp; omega
    go_enter Tryd.func10, Tryd.ntmps10
    go_wp2_with fail
    refine (awake_any _ HK.out).mono ?_
    rintro e w1 ⟨rfl, hb1⟩
    have HB1 := Lib.hid hb1
    clear hb1
    go_wp2_with fail
    refine (awake_any _ (HK.out.below HB1.out HK.out.pos)).mono ?_
    rintro e w2 ⟨rfl, hb2⟩
    have HB2 := Lib.hid (HB1.out.trans (hb2.mono HB1.out.size))
    clear hb2 HB1
    go_wp2
    go_ret
    exact ⟨rfl, HB2.out⟩
  · have t1 : decide ((s.size : Int) > 200) = false := by simp; omega
    go_enter Tryd.func10, Tryd.ntmps10
    go_wp2_with fail
    refine (awake_any _ HK.out).mono ?_
    rintro e W0 ⟨rfl, hb1⟩
    have HB1 := Lib.hid hb1
    clear hb1
    go_wp2_with fail
    have KS : Hid (∀ w w' : World, Below W0.heap.size W0 w → Below w.heap.size w w' → Below W0.heap.size W0 w') := fun w w' h k => h.trans (k.mono h.size)
    have HKS : Hid (∀ w', Below W0.heap.size W0 w' → Kept w') := fun w' h => HK.out.below (HB1.out.trans (h.mono HB1.out.size)) HK.out.pos
    obtain ⟨X, hX⟩ : ∃ X, X = Sha.sha (bl s ++ [n]) := ⟨_, rfl⟩
    have HX := Lib.hid hX
    clear hX
    have HXl : Hid (X.length = 32) := by show _ = _; rw [HX.out]; exact Sha.Holds.sumText
    refine wp_region_held (S := fun w' => Below W0.heap.size W0 w') (by kernel_rfl) ?_
    refine held_all0 (RB s n X) DB ?inj ?lt ?ord (RB_mono s n X) KS.out (Below.refl _ _).drew ?step ?fin
    case inj => exact fun i j hi hj h => DB_inj i j hi hj h
    case lt => exact fun i hi => DB_lt i hi
    case ord => exact ord_of (by kernel_rfl)
    case step =>
      intro listed a w5 i o hs ho hdeps
      have z0 : a.tmps[0]?.getD undef = .string s := by simpa using hs.old 0 (fun i hi _ => (DB_old i hi).1)
      have z1 : a.tmps[1]?.getD undef = .int .u8 (n : Int) := by simpa using hs.old 1 (fun i hi _ => (DB_old i hi).2)
      have hS := hs.S
      have dep : ∀ j, j < 15 → listed.getD j false = true → RB s n X j (a.tmps[DB j]?.getD undef) w5 := fun j hj h => by simpa using hs.has j hj (getD_tt h)
      have KS' := KS.out
      clear hs
      match i, ho with
      | 0, ho =>
        obtain rfl := Option.some.inj ho
        clear dep hdeps
        refine ⟨by rfl, fun K hK => ?_⟩
        go_simp
        exact hK _ _ (Below.refl _ _) rfl
      | 1, ho =>
        obtain rfl := Option.some.inj ho
        have r0 := dep 0 (by omega) (hdeps ⟨0, .data⟩ (by simp) (by rfl))
        change a.tmps[13]?.getD undef = .string s at r0
        clear dep hdeps
        refine ⟨by rfl, fun K hK => ?_⟩
        obtain ⟨W5, c5, hcv, hz, hB, hSl⟩ := conv_str w5 s (by unfold maxLen; omega)
        go_simp
        exact hK _ _ hB hSl
      | 2, ho =>
        obtain rfl := Option.some.inj ho
        clear dep hdeps
        refine ⟨by rfl, fun K hK => ?_⟩
        go_simp
        exact hK _ _ (Below.refl _ _) rfl
      | 3, ho =>
        obtain rfl := Option.some.inj ho
        have r2 := dep 2 (by omega) (hdeps ⟨2, .data⟩ (by simp) (by rfl))
        change a.tmps[15]?.getD undef = .int .u8 (n : Int) at r2
        clear dep hdeps
        refine ⟨by rfl, fun K hK => ?_⟩
        go_simp
        exact hK _ _ ((Below.refl _ _).alloc (Nat.le_refl _) _) ⟨_, rfl, Has.new _ _ _⟩
      | 4, ho =>
        obtain rfl := Option.some.inj ho
        have r1 := dep 1 (by omega) (hdeps ⟨1, .data⟩ (by simp) (by rfl))
        have r3 := dep 3 (by omega) (hdeps ⟨3, .data⟩ (by simp) (by rfl))
        clear dep hdeps
        change Sl w5 w5.heap.size (a.tmps[14]?.getD undef) (bl s) at r1
        change ∃ b, a.tmps[16]?.getD undef = .slice (some ⟨b, 0, none⟩) 1 1 ∧ Has w5 b 5 (U8 [n]) at r3
        obtain ⟨b, e3, h3⟩ := r3
        obtain ⟨A1, c1, e1, _⟩ := id r1
        rw [e1] at r1
        have HP := Lib.hid (parts_two r1 (sl_new h3.lt (has_range h3) (n := 1) rfl 1 (by omega) (by unfold maxLen; omega)))
        clear r1 h3
        refine ⟨by rfl, fun K hK => ?_⟩
        go_simp
        exact hK _ _ ((Below.refl _ _).alloc (Nat.le_refl _) _) ⟨_, _, rfl, HP.out⟩
      | 5, ho =>
        obtain rfl := Option.some.inj ho
        have r4 := dep 4 (by omega) (hdeps ⟨4, .data⟩ (by simp) (by rfl))
        clear dep hdeps
        change ∃ c k, a.tmps[17]?.getD undef = .slice c 2 k ∧ Parts w5 (a.tmps[17]?.getD undef) [bl s, [n]] at r4
        obtain ⟨c4, k4, e4, h4⟩ := r4
        rw [e4] at h4
        have HP := Lib.hid h4
        clear h4
        refine ⟨by rfl, fun K hK => ?_⟩
        go_simp
        refine (of_any [bl s, [n]] _ w5 HP.out (fun l hl => by
            rcases (by simpa using hl : l = bl s ∨ l = [n]) with rfl | rfl
            · exact bl_bytes s
            · intro x hx; rw [List.mem_singleton.1 hx]; exact hn) (HKS.out _ hS) (by simp [bl_length]; omega)).mono ?_
        rintro e w6 ⟨rfl, hb⟩
        exact hK _ _ hb (show _ = _ by rw [HX.out]; simp)
      | 6, ho =>
        obtain rfl := Option.some.inj ho
        have r5 := dep 5 (by omega) (hdeps ⟨5, .data⟩ (by simp) (by rfl))
        change a.tmps[18]?.getD undef = .agg (U8 X).toArray at r5
        clear dep hdeps
        refine ⟨by rfl, fun K hK => ?_⟩
        go_simp
        refine (str_any X HXl.out _).mono ?_
        rintro e w6 ⟨rfl, hb⟩
        exact hK _ _ hb rfl
      | 7, ho =>
        obtain rfl := Option.some.inj ho
        clear dep hdeps
        refine ⟨by rfl, fun K hK => ?_⟩
        go_simp
        exact hK _ _ (Below.refl _ _) rfl
      | 8, ho =>
        obtain rfl := Option.some.inj ho
        clear dep hdeps
        refine ⟨by rfl, fun K hK => ?_⟩
        go_simp
        exact hK _ _ (Below.refl _ _) rfl
      | 9, ho =>
        obtain rfl := Option.some.inj ho
        have r8 := dep 8 (by omega) (hdeps ⟨8, .data⟩ (by simp) (by rfl))
        change a.tmps[21]?.getD undef = .int .u8 (n : Int) at r8
        clear dep hdeps
        refine ⟨by rfl, fun K hK => ?_⟩
        go_simp
        exact hK _ _ ((Below.refl _ _).alloc (Nat.le_refl _) _) ⟨_, rfl, Has.new _ _ _⟩
      | 10, ho =>
        obtain rfl := Option.some.inj ho
        have r9 := dep 9 (by omega) (hdeps ⟨9, .data⟩ (by simp) (by rfl))
        clear dep hdeps
        change ∃ b, a.tmps[22]?.getD undef = .slice (some ⟨b, 0, none⟩) 1 1 ∧ Has w5 b 5 (U8 [n]) at r9
        obtain ⟨b, e9, h9⟩ := r9
        have hcv : Sem.run Tryd.prog (convert 27 9 (.slice (some ⟨b, 0, none⟩) 1 1)) w5 = .ok (.string (S [n])) w5 := conv_has h9 1
        clear h9
        refine ⟨by rfl, fun K hK => ?_⟩
        go_simp
        exact hK _ _ (Below.refl _ _) rfl
      | 11, ho =>
        obtain rfl := Option.some.inj ho
        have r7 := dep 7 (by omega) (hdeps ⟨7, .data⟩ (by simp) (by rfl))
        change a.tmps[20]?.getD undef = .string s at r7
        have r10 := dep 10 (by omega) (hdeps ⟨10, .data⟩ (by simp) (by rfl))
        change a.tmps[23]?.getD undef = .string (S [n]) at r10
        clear dep hdeps
        have hz : (S [n]).size = 1 := by rw [S_size']; rfl
        have hz2 : ¬ 9223372036854775807 < s.size + 1 := by omega
        refine ⟨by rfl, fun K hK => ?_⟩
        go_simp
        exact hK _ _ (Below.refl _ _) rfl
      | 12, ho =>
        obtain rfl := Option.some.inj ho
        have r11 := dep 11 (by omega) (hdeps ⟨11, .data⟩ (by simp) (by rfl))
        change a.tmps[24]?.getD undef = .string (s ++ S [n]) at r11
        clear dep hdeps
        refine ⟨by rfl, fun K hK => ?_⟩
        go_simp
        refine (HRef.out (s ++ S [n]) w5 (by rw [ByteArray.size_append, S_size']; simp; omega)).mono ?_
        rintro e w6 ⟨rfl, hb⟩
        exact hK _ _ hb (show _ = _ by rw [HX.out, bl_append, bl_S (l := [n]) (fun x hx => by rw [List.mem_singleton.1 hx]; exact hn)])
      | 13, ho =>
        obtain rfl := Option.some.inj ho
        have r6 := dep 6 (by omega) (hdeps ⟨6, .data⟩ (by simp) (by rfl))
        change a.tmps[19]?.getD undef = .string (S X) at r6
        have r12 := dep 12 (by omega) (hdeps ⟨12, .data⟩ (by simp) (by rfl))
        change a.tmps[25]?.getD undef = .string (S X) at r12
        clear dep hdeps
        refine ⟨by rfl, fun K hK => ?_⟩
        go_simp
        exact hK _ _ (Below.refl _ _) rfl
      | 14, ho =>
        obtain rfl := Option.some.inj ho
        have r13 := dep 13 (by omega) (hdeps ⟨13, .data⟩ (by simp) (by rfl))
        change a.tmps[26]?.getD undef = .bool true at r13
        clear dep hdeps
        refine ⟨by rfl, fun K hK => ?_⟩
        go_simp
        exact hK _ _ (Below.refl _ _) rfl
      | i + 15, ho => exact absurd (Array.getElem?_eq_some_iff.1 ho).1 (by change ¬ i + 15 < 15; omega)
    case fin =>
      intro listed a w5 hs hall
      have x4 : a.tmps[4]?.getD undef = .bool true := by simpa [RB, DB] using hs.has 14 (by decide) (hall 14 (by decide))
      have HB5 := Lib.hid (HB1.out.trans (hs.S.mono HB1.out.size))
      have hd : a.defers = [] := hs.defers
      have hsz : a.tmps.size = 27 := hs.tmps
      clear hs hall
      obtain ⟨tmps, defers⟩ := a
      subst hd
      simp only at x4 hsz
      go_wp2
      go_ret
      exact ⟨by simp [x4], HB5.out⟩
end Go.Proofs.YtcinhbhagiffgaaDoor
