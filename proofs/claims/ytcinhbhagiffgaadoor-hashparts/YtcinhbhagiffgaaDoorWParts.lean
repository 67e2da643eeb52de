/- The walk of HashParts. Conditions: the table of constants lies as it was laid. -/
import Derived.Test.YtcinhbhagiffgaaDoorConv
namespace Go.Proofs.YtcinhbhagiffgaaDoor
open Go.RowKit

set_option maxRecDepth 100000 in
set_option maxHeartbeats 1000000 in
theorem parts_walk (v : Value) (ss : List ByteArray) (w : World) (hs : Strs w v ss) (hk : Kept w) :
    Calls Tryd.prog 4 #[v] w fun e w' => e = .returned (.bool true) ∧ Below w.heap.size w w' := by
  obtain ⟨A, c, rfl, hc1, hc2, hA⟩ := hs
  have HK := Lib.hid hk
  have HA := Lib.hid hA
  have HC := Lib.hid hc2
  clear hk hA hc2
  by_cases h20 : 20 < ss.length
  · have t1 : decide ((ss.length : Int) > 20) = true := by simp; omega
    go_enter Tryd.func4, Tryd.ntmps4
    go_wp2_with fail
    refine (awake_any _ HK.out).mono ?_
    rintro e w1 ⟨rfl, hb1⟩
    have HB1 := Lib.hid hb1
    clear hb1
    go_wp2_with fail
    refine (awake_any _ (HK.out.below HB1.out HK.out.pos)).mono ?_
    rintro e w2 ⟨rfl, hb2⟩
    have HB2 := Lib.hid (HB1.out.trans (hb2.mono HB1.out.size))
    clear hb2 HB1
    go_wp2
    go_ret
    exact ⟨rfl, HB2.out⟩
  · have t1 : decide ((ss.length : Int) > 20) = false := by simp; omega
    go_enter Tryd.func4, Tryd.ntmps4
    go_wp2_with fail
    refine (awake_any _ HK.out).mono ?_
    rintro e w1 ⟨rfl, hb1⟩
    have H0 := Lib.hid (prel_start' w w1 ss hb1)
    clear hb1
    go_wp2_with fail
    go_loopw [3, 4, 5] (fun sv pv i V => ∃ k : Nat, k ≤ ss.length ∧ i = .int .i64 (k : Int) ∧ PRel w ss k sv pv V) (fun _ _ i _ => ss.length - (intOf i).toNat)
    case atStart => exact ⟨0, by omega, rfl, H0.out⟩
    case round =>
      clear H0
      obtain ⟨k, hk, rfl, hrel⟩ := hrel
      obtain ⟨J, g, cap, vs, rfl, hJ, hJs, rfl, hown, hS, hB⟩ := hrel
      have HJ := Lib.hid hJ
      have HOwn := Lib.hid hown
      have HS := Lib.hid hS
      have HB := Lib.hid hB
      clear hJ hown hS hB
      by_cases hlt : k < ss.length
      · obtain ⟨b, o, rfl, hb, hra⟩ := HA.out (by omega)
        have hc : wr.cell? ⟨b, o + k, none⟩ = some (.string ss[k]) := by
          rw [HB.out.cell (p := ⟨b, o + k, none⟩) hb, hra k hlt, List.getD_eq_getElem?_getD, List.getElem?_eq_getElem hlt]; rfl
        have k1 : (k : Int) < ss.length := by omega
        have HL := Lib.hid hlt
        by_cases h200 : 200 < ss[k].size
        · have t2 : decide ((ss[k].size : Int) > 200) = true := by simp; omega
          generalize ss[k] = s at *
          go_wp2_with fail
          go_ret
          exact ⟨rfl, HB.out⟩
        · have t2 : decide ((ss[k].size : Int) > 200) = false := by simp; omega
          obtain ⟨W1, cc, hcv, hz1, hB1, hS1⟩ := conv_str wr ss[k] (by unfold maxLen; omega)
          obtain ⟨i0, hi, hz0, hzs, hzb⟩ := info_parts info27
          have HI := Lib.hid hi
          have HZ0 := Lib.hid hz0
          have HZs := Lib.hid hzs
          have HZb := Lib.hid hzb
          have hown1 : W1.ownsRow w.heap.size 27 1 (.slice (some ⟨g, 0, none⟩) k cap) k vs := HOwn.out.kept (row := none) ⟨hB1.os, hB1.tape, hB1.output, hB1.size, fun k hk _ => hB1.block k hk⟩ (.inr (by simp [Value.ownBlock]))
          have HOwn1 := Lib.hid (hown1.alloc (.cells #[.slice (some ⟨wr.heap.size, 0, none⟩) ss[k].size cc] 27))
          have HZ1 := Lib.hid hz1
          have HB1 := Lib.hid hB1
          have HS1 := Lib.hid hS1
          have H2 := Lib.hid h200
          have hcell := (Has.new W1 27 [.slice (some ⟨wr.heap.size, 0, none⟩) ss[k].size cc]).cell 0
          have HCell := Lib.hid hcell
          have hbase : w.heap.size ≤ (W1.alloc (.cells #[.slice (some ⟨wr.heap.size, 0, none⟩) ss[k].size cc] 27)).heap.size := by have := hB1.size; have := HB.out.size; simp; omega
          have HBase := Lib.hid hbase
          have hJk : J.size ≤ 4000 := by omega
          clear hown1 hi hz0 hzs hzb hz1 hB1 hS1 hcell hbase hra hb
          have HStep := Lib.hid (fun (v' : Value) (W2 : World) => prel_step (v' := v') (W2 := W2) (cap := cap) HL.out (Nat.le_of_not_lt H2.out) HJ.out hJs HS.out HB.out (HOwn.out.lt g rfl).1 (by have := HOwn.out.1; omega) HB1.out HZ1.out HS1.out (HOwn.out.lt g rfl).2)
          generalize ss[k] = s at *
          go_wp2_with (at_builtin; refine wpList_append_own_at _ rfl _ _ 31 rfl w.heap.size 27 i0 (.slice none 0 0) 1 24 und31 HI.out HZ0.out HZs.out HZb.out rfl (by decide) _ _ _ rfl HOwn1.out ⟨W1.heap.size, 0, none⟩ 1 1 [.slice (some ⟨wr.heap.size, 0, none⟩) s.size cc] rfl rfl (fun j u hj => by match j, hj with | 0, hj => rw [← hj]; exact HCell.out) (fun u hu => by rw [List.mem_singleton.1 hu]; rfl) (by unfold maxLen; omega) (by omega) HBase.out ?_; intro v' W2 hown2 hgr2 hnil2 hat2)
          exact ⟨⟨k + 1, by omega, by go_num, HStep.out v' W2 hown2 hgr2 (fun h => absurd (hnil2.1 h).2 (by decide)) hat2⟩, by simp [intOf]; omega⟩
      · obtain rfl : k = ss.length := by omega
        have hbe := HJ.out
        rw [List.take_length] at hbe
        have HBe := Lib.hid hbe
        have hby : ∀ l ∈ ss.map bl, Sha.Bytes l := fun l hl => by obtain ⟨s, _, rfl⟩ := List.mem_map.1 hl; exact bl_bytes s
        have hJk : J.size ≤ 4000 := by omega
        have HLen := Lib.hid (show (ss.map bl).flatten.length ≤ 4000 by rw [← hbe, bl_length]; exact hJk)
        clear hbe HJ
        go_wp2_with fail
        refine (of_any (ss.map bl) _ wr (prel_parts HOwn.out HS.out) hby (HK.out.below HB.out HK.out.pos) (by have := HLen.out; omega)).mono ?_
        rintro e w2 ⟨rfl, hb2⟩
        rw [← HBe.out]
        have HB2 := Lib.hid (HB.out.trans (hb2.mono HB.out.size))
        clear hb2 HB HOwn HS HBe HLen hby
        obtain ⟨W1, cc, hcv, hz1, hB1, hS1⟩ := conv_str w2 J (by unfold maxLen; omega)
        have HZ1 := Lib.hid hz1
        have HB1 := Lib.hid hB1
        have HS1 := Lib.hid hS1
        have HJk := Lib.hid hJk
        clear hz1 hB1 hS1
        have heh := fun W : World => run_eqHash (Sha.sha (bl J)) (Sha.sha (bl J)) Sha.Holds.sumText Sha.Holds.sumText W
        rw [beq_self_eq_true] at heh
        go_wp2_with fail
        have hp : Parts (W1.alloc (.cells #[.slice (some ⟨w2.heap.size, 0, none⟩) J.size cc] 27)) (.slice (some ⟨W1.heap.size, 0, none⟩) 1 1) [bl J] :=
          parts_new W1 [.slice (some ⟨w2.heap.size, 0, none⟩) J.size cc] [bl J] _ 1 rfl rfl rfl (by simp; unfold maxLen; omega) (fun i u l h1 h2 => by
            match i, h1, h2 with
            | 0, h1, h2 => simp at h1 h2; subst h1 h2; exact HS1.out
            | i + 1, h1, h2 => simp at h1)
        have hb3 : Below w.heap.size w (W1.alloc (.cells #[.slice (some ⟨w2.heap.size, 0, none⟩) J.size cc] 27)) :=
          (HB2.out.trans (HB1.out.mono HB2.out.size)).alloc (by have := HB1.out.size; have := HB2.out.size; omega) _
        refine (of_any [bl J] _ _ hp (fun l hl => by rw [List.mem_singleton.1 hl]; exact bl_bytes J) (HK.out.below hb3 HK.out.pos) (by simp [bl_length]; omega)).mono ?_
        rintro e w4 ⟨rfl, hb4⟩
        rw [show [bl J].flatten = bl J from by simp]
        have HB4 := Lib.hid (hb3.trans (hb4.mono hb3.size))
        clear hb4 hb3 hp HB2 HB1 HS1 hcv
        generalize Sha.sha (bl J) = H at *
        go_wp2
        go_ret
        exact ⟨rfl, HB4.out⟩
end Go.Proofs.YtcinhbhagiffgaaDoor
