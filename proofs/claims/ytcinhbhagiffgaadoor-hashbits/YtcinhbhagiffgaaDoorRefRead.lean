/- The contract of the document side Read: the 32 bytes of a text, or none. Conditions: at most 1000 bytes. -/
import Derived.Test.YtcinhbhagiffgaaDoorRefText
namespace Go.Proofs.YtcinhbhagiffgaaDoor
open Go.RowKit

/-- The place of a byte among the digits, looked for up to place j; none: -1. -/
def posTo (c : Nat) : Nat → Int
  | 0 => -1
  | j + 1 => if dig j = c then (j : Int) else posTo c j
theorem posTo_range (c j : Nat) (h : j ≤ 16) : -1 ≤ posTo c j ∧ posTo c j < 16 := by
  induction j with
  | zero => simp [posTo]
  | succ j ih =>
    have := ih (by omega)
    simp only [posTo]
    split <;> omega
theorem posTo_is (c : Nat) (h : c < 256) : posTo c 16 = if isd c then (vald c : Int) else -1 := by
  have : ∀ c : Fin 256, posTo c.val 16 = if isd c.val then (vald c.val : Int) else -1 := by decide +kernel
  exact this ⟨c, h⟩

def nAt (l : List Nat) (m k : Nat) : Nat := if k = 0 then 0 else if k = 1 then vald (l.getD (2 * m) 0) else hexAt l m
theorem nAt_lt (l : List Nat) (m k : Nat) : nAt l m k < 256 := by
  unfold nAt hexAt
  have h1 := vald_lt (l.getD (2 * m) 0)
  have h2 := vald_lt (l.getD (2 * m + 1) 0)
  split
  · omega
  · split <;> omega
theorem nAt_succ (l : List Nat) (m k : Nat) (h : k < 2) : 16 * nAt l m k + vald (l.getD (2 * m + k) 0) = nAt l m (k + 1) := by
  obtain rfl | rfl : k = 0 ∨ k = 1 := by omega
  · simp [nAt]
  · simp [nAt, hexAt]; omega
/-- What the document side reads: the bytes; whether it is a sum's text. -/
def refOut (l : List Nat) : List Nat := if (l.take (2 * (l.length / 2))).all isd then (List.range (l.length / 2)).map (hexAt l) else []
def refOk (l : List Nat) : Bool := (l.take (2 * (l.length / 2))).all isd && l.length == 64
def RR (w : World) (V : World) : Prop := Below w.heap.size w V

set_option maxRecDepth 100000 in
set_option maxHeartbeats 1000000 in
theorem refread_any (s : ByteArray) (hs : s.size ≤ 1000) (w : World) :
    Calls Tryd.prog 18 #[.string s] w fun e w' => e = .returned (.tuple #[.string (S (refOut (bl s))), .bool (refOk (bl s))]) ∧ Below w.heap.size w w' := by
  go_enter Tryd.func18, Tryd.ntmps18
  go_wp2
  go_loopw [4, 5] (fun o i V => ∃ m : Nat, 2 * m ≤ s.size ∧ i = .int .i64 (2 * (m : Int)) ∧ o = .string (S ((List.range m).map (hexAt (bl s)))) ∧ (∀ j, j < 2 * m → isd ((bl s).getD j 0) = true) ∧ RR w V) (fun _ i _ => s.size - (intOf i).toNat)
  case atStart => exact ⟨0, by omega, rfl, rfl, fun j hj => by omega, Below.refl _ _⟩
  case round =>
    obtain ⟨m, hm, rfl, rfl, hd, hb⟩ := hrel
    have HD := Lib.hid hd
    have HB := Lib.hid hb
    clear hd hb
    by_cases hlt : 2 * m + 1 < s.size
    · go_wp2
      go_loopw [6, 7] (fun n k V => ∃ q : Nat, q ≤ 2 ∧ k = .int .i64 (q : Int) ∧ n = .int .i64 (nAt (bl s) m q : Nat) ∧ (∀ j, j < q → isd ((bl s).getD (2 * m + j) 0) = true) ∧ RR w V) (fun _ k _ => 2 - (intOf k).toNat)
      case atStart => exact ⟨0, by omega, rfl, rfl, fun j hj => by omega, HB.out⟩
      case round =>
        clear HB
        obtain ⟨q, hq, rfl, rfl, hd2, hb2⟩ := hrel
        have HD2 := Lib.hid hd2
        have HB2 := Lib.hid hb2
        clear hd2 hb2
        have hn := nAt_lt (bl s) m q
        by_cases hq2 : q < 2
        · have hc := (bl_bytes s).getD (2 * m + q)
          have hix : ∀ W : World, (Instr.index 9 (.string s) (.int .i64 (2 * (m : Int) + (q : Int)))).run Tryd.prog W = .ok (.int .u8 ((bl s).getD (2 * m + q) 0 : Nat)) W := fun W => by
            have := index_str (k := .i64) s (2 * m + q) (by omega) W
            simpa using this
          have HN := Lib.hid (nAt_succ (bl s) m q hq2)
          have HP := Lib.hid (posTo_is _ hc)
          generalize hce : (bl s).getD (2 * m + q) 0 = c at *
          have HC := Lib.hid hce
          clear hce
          go_wp2
          go_loopw [8, 9] (fun d j V => ∃ t : Nat, t ≤ 16 ∧ j = .int .i64 (t : Int) ∧ d = .int .i64 (posTo c t) ∧ RR w V) (fun _ j _ => 16 - (intOf j).toNat)
          case atStart => exact ⟨0, by omega, rfl, rfl, HB2.out⟩
          case round =>
            clear HB2
            obtain ⟨t, ht, rfl, rfl, hb3⟩ := hrel
            have HB3 := Lib.hid hb3
            clear hb3
            by_cases ht16 : t < 16
            · have hdj := fun W : World => index_digs (k := .i64) t ht16 W
              have HT := Lib.hid (show posTo c (t + 1) = if dig t = c then (t : Int) else posTo c t from rfl)
              by_cases he : dig t = c
              · have t1 : (((dig t : Nat) : Int) == ((c : Nat) : Int)) = true := by rw [he]; exact beq_self_eq_true _
                have HE := Lib.hid he
                clear he
                go_wp2
                go_quiet (fail)
                go_wp2
                exact ⟨⟨t + 1, by omega, by go_num, by rw [HT.out, if_pos HE.out], below_drewN' HB3.out _⟩, by simp [intOf]; omega⟩
              · have t1 : (((dig t : Nat) : Int) == ((c : Nat) : Int)) = false := by rw [beq_eq_false_iff_ne]; omega
                have HE := Lib.hid he
                clear he
                go_wp2
                go_quiet (fail)
                go_wp2
                exact ⟨⟨t + 1, by omega, by go_num, by rw [HT.out, if_neg HE.out], below_drewN' HB3.out _⟩, by simp [intOf]; omega⟩
            · obtain rfl : t = 16 := by omega
              have hpr := posTo_range c 16 (by omega)
              cases hi : isd c with
              | true =>
                have hp : posTo c 16 = (vald c : Int) := by rw [HP.out, hi]; rfl
                have hv := vald_lt c
                rw [hp]
                clear hp hpr
                go_wp2
                refine ⟨⟨q + 1, by omega, by go_num, ?_, fun j hj => ?_, HB3.out⟩, by simp [intOf]; omega⟩
                · rw [← HN.out]; go_num
                · by_cases hj2 : j < q
                  · exact HD2.out j hj2
                  · obtain rfl : j = q := by omega
                    rw [HC.out]; exact hi
              | false =>
                have hp : posTo c 16 = -1 := by rw [HP.out, hi]; rfl
                rw [hp]
                clear hp hpr
                have hall : ((bl s).take (2 * ((bl s).length / 2))).all isd = false := by
                  rw [List.all_eq_false]
                  have hlt2 : 2 * m + q < (bl s).length := by rw [bl_length]; omega
                  refine ⟨(bl s)[2 * m + q], ?_, ?_⟩
                  · rw [List.mem_take_iff_getElem]
                    refine ⟨2 * m + q, ?_, rfl⟩
                    rw [bl_length] at hlt2 ⊢
                    omega
                  · have h1 : (bl s)[2 * m + q] = c := by rw [← HC.out, List.getD_eq_getElem?_getD, List.getElem?_eq_getElem hlt2]; rfl
                    rw [h1, hi]; simp
                have HO : Hid (refOut (bl s) = [] ∧ refOk (bl s) = false) := ⟨by simp [refOut, hall], by simp [refOk, hall]⟩
                clear hall
                go_wp2
                go_ret2
                refine ⟨?_, HB3.out⟩
                rw [HO.out.1, HO.out.2]
                rfl
        · obtain rfl : q = 2 := by omega
          have hx : nAt (bl s) m 2 = hexAt (bl s) m := by simp [nAt]
          rw [hx] at hn ⊢
          have HX := Lib.hid hx
          have hconv := conv_has (Has.new wr 5 (U8 [hexAt (bl s) m])) 1
          have hconv1 : Sem.run Tryd.prog (convert 27 9 (.slice (some ⟨wr.heap.size, 0, none⟩) 1 1)) (wr.alloc (.cells #[.int .u8 (hexAt (bl s) m : Nat)] 5)) = .ok (.string (S [hexAt (bl s) m])) (wr.alloc (.cells #[.int .u8 (hexAt (bl s) m : Nat)] 5)) := hconv
          have hA : (S ((List.range m).map (hexAt (bl s)))).size ≤ 2000 := by rw [S_size', List.length_map, List.length_range]; omega
          have hB : (S [hexAt (bl s) m]).size = 1 := rfl
          have HN : Hid (S ((List.range m).map (hexAt (bl s))) ++ S [hexAt (bl s) m] = S ((List.range (m + 1)).map (hexAt (bl s)))) := by
            show _ = _
            rw [S_append, List.range_succ, List.map_append]; rfl
          generalize S ((List.range m).map (hexAt (bl s))) = A at *
          generalize S [hexAt (bl s) m] = B at *
          generalize hexAt (bl s) m = x at *
          have n2 : ¬ (9223372036854775807 < A.size + B.size) := by omega
          have w8 : IntKind.u8.wrap (x : Int) = (x : Int) := by rw [IntKind.wrap_u8]; omega
          clear hx hconv hB HX
          go_wp2
          refine ⟨⟨m + 1, by omega, by go_num, congrArg Value.string HN.out, fun j hj => ?_, HB2.out.alloc (by have := HB2.out.size; omega) _⟩, by simp [intOf]; omega⟩
          by_cases hj2 : j < 2 * m
          · exact HD.out j hj2
          · have := HD2.out (j - 2 * m) (by omega)
            rwa [show 2 * m + (j - 2 * m) = j by omega] at this
    · have hm2 : s.size / 2 = m := by omega
      have hall : ((bl s).take (2 * ((bl s).length / 2))).all isd = true := by
        rw [bl_length, hm2, List.all_eq_true]
        intro x hx
        obtain ⟨j, hj, rfl⟩ := List.mem_take_iff_getElem.1 hx
        have := HD.out j (by omega)
        rwa [List.getD_eq_getElem?_getD, List.getElem?_eq_getElem (by omega)] at this
      have HO : Hid (refOut (bl s) = (List.range m).map (hexAt (bl s)) ∧ refOk (bl s) = (((s.size : Int)) == 64)) := by
        refine ⟨by unfold refOut; rw [if_pos hall, bl_length, hm2], ?_⟩
        unfold refOk
        rw [hall, Bool.true_and, bl_length, Bool.eq_iff_iff, beq_iff_eq, beq_iff_eq]
        omega
      clear hall hm2
      go_wp2
      go_ret2
      refine ⟨?_, HB.out⟩
      rw [HO.out.1, HO.out.2]
      rfl
end Go.Proofs.YtcinhbhagiffgaaDoor
