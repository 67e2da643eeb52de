/- The contract of the document side Text: bytes as digits. Conditions: at most 1000 bytes. -/
import Derived.Test.YtcinhbhagiffgaaDoorAwake
namespace Go.Proofs.YtcinhbhagiffgaaDoor
open Go.RowKit

theorem hexs_step (l : List Nat) (i : Nat) (h : i < l.length) : hexs (l.take (i + 1)) = hexs (l.take i) ++ [dig (l.getD i 0 / 16), dig (l.getD i 0 % 16)] := by
  rw [List.take_add_one, List.getElem?_eq_getElem h]
  unfold hexs
  rw [List.flatMap_append]
  simp only [Option.toList_some, List.flatMap_cons, List.flatMap_nil, List.append_nil]
  rw [List.getD_eq_getElem?_getD, List.getElem?_eq_getElem h]
  rfl
theorem S_append (a b : List Nat) : S a ++ S b = S (a ++ b) := by
  unfold S
  rw [ByteArray.mk_append_mk]
  simp
theorem S_size' (l : List Nat) : (S l).size = l.length := by
  show ((l.map UInt8.ofNat).toArray).size = l.length
  rw [List.size_toArray, List.length_map]
theorem digs_cut (n : Nat) (h : n < 16) : digs.extract n (n + 1) = S [dig n] := by
  have : ∀ n : Fin 16, digs.extract n.val (n.val + 1) = S [dig n.val] := by decide +kernel
  exact this ⟨n, h⟩
set_option maxRecDepth 100000 in
set_option maxHeartbeats 1000000 in
theorem reftext_any (s : ByteArray) (hs : s.size ≤ 1000) (w : World) :
    Calls Tryd.prog 17 #[.string s] w fun e w' => e = .returned (.string (S (hexs (bl s)))) ∧ Below w.heap.size w w' := by
  go_enter Tryd.func17, Tryd.ntmps17
  go_wp2
  go_loopw [3, 4] (fun o i V => ∃ k : Nat, k ≤ s.size ∧ i = .int .i64 (k : Int) ∧ o = .string (S (hexs ((bl s).take k))) ∧ Below w.heap.size w V) (fun _ i _ => s.size - (intOf i).toNat)
  case atStart => exact ⟨0, by omega, rfl, rfl, Below.refl _ _⟩
  case round =>
    obtain ⟨k, hk, rfl, rfl, hb⟩ := hrel
    by_cases hlt : k < s.size
    · have hix := fun W : World => index_str (k := .i64) s k hlt W
      have hx := (bl_bytes s).getD k
      generalize hxe : (bl s).getD k 0 = x at *
      have HXe := Lib.hid hxe
      clear hxe
      have e1 := digs_cut (x / 16) (by omega)
      have e2 := digs_cut (x % 16) (by omega)
      simp only [digs] at e1 e2
      have e3 : S [dig (x / 16)] ++ S [dig (x % 16)] = S [dig (x / 16), dig (x % 16)] := S_append _ _
      have hA : (S (hexs ((bl s).take k))).size ≤ 2000 := by
        rw [S_size', hexs_length, List.length_take]; omega
      have e4 : (S [dig (x / 16), dig (x % 16)]).size = 2 := rfl
      generalize hAe : S (hexs ((bl s).take k)) = A at *
      have HAe := Lib.hid hAe
      clear hAe
      generalize hBe : S [dig (x / 16), dig (x % 16)] = B at *
      have HBe := Lib.hid hBe
      clear hBe
      have hB : B.size ≤ 2 := by omega
      clear e4
      have s1 : (S [dig (x / 16)]).size = 1 := rfl
      have s2 : (S [dig (x % 16)]).size = 1 := rfl
      have n1 : ¬ (9223372036854775807 < (S [dig (x / 16)]).size + (S [dig (x % 16)]).size) := by rw [s1, s2]; omega
      have n2 : ¬ (9223372036854775807 < A.size + B.size) := by omega
      clear s1 s2
      have HN : Hid (A ++ B = S (hexs ((bl s).take (k + 1)))) := by
        show _ = _
        rw [← HAe.out, ← HBe.out, S_append, hexs_step _ _ (by rw [bl_length]; exact hlt), HXe.out]
      have HB := Lib.hid hb
      clear hb
      go_wp2
      go_quiet (fail)
      go_wp2
      exact ⟨⟨k + 1, by omega, by go_num, congrArg Value.string HN.out, below_drewN' HB.out _⟩, by simp [intOf]; omega⟩
    · go_wp2
      go_ret
      refine ⟨?_, hb⟩
      rw [List.take_of_length_le (by rw [bl_length]; omega)]
      rfl
end Go.Proofs.YtcinhbhagiffgaaDoor
