/- The walk of WireCuts. Conditions: a slice of numbers of 64 bits, a number of 16 bits. -/
import Derived.Test.YtiifdbagmbikpaaAwake
import Derived.Test.YtiifdbagmbikpaaCutsMath
import Derived.Deep.QuietTactic
import Derived.BigQuiet
namespace Go.Proofs.Ytiifdbagmbikpaa
open Go.RowKit

def I64 (l : List Nat) : List Value := l.map fun n : Nat => Value.int .i64 (n : Int)
theorem und49 : Try.prog.underlying 49 = some (.slice 3) := by kernel_rfl
theorem info3 : (Try.prog.info? 3).map (fun i => (i.zero, i.size, i.bytes)) = some (some (.int .i64 0), 1, 8) := by kernel_rfl
/-- The value v is a slice of the numbers ns. -/
def Nums (w : World) (v : Value) (ns : List Nat) : Prop :=
  ∃ (A : Option Addr) (c : Nat), v = .slice A ns.length c ∧ ns.length ≤ c ∧ c ≤ maxLen ∧ (∀ n ∈ ns, n < 18446744073709551616) ∧ (0 < ns.length → ∃ b o, A = some ⟨b, o, none⟩ ∧ b < w.heap.size ∧ ∀ i, i < ns.length → w.cell? ⟨b, o + i, none⟩ = some (.int .u64 (ns.getD i 0 : Nat)))
theorem own_fr {base b n : Nat} {e t : TypeId} {v sv : Value} {cs xs l : List Value} {m : Nat} {V V1 : World} (h : V.ownsRow base e 1 sv n xs) (k : Fr b v V V1) (hb : Has V b t cs) (he : e ≠ t) (ho : V.ownsRow 0 5 1 v m l) (h5 : e ≠ 5) : V1.ownsRow base e 1 sv n xs := by
  have hne := own_ne h hb he
  refine ⟨h.1, ?_⟩
  rcases h.2 with hr | ⟨g, cap, cur, rfl, hg, hh, r⟩
  · exact .inl hr
  · refine .inr ⟨g, cap, cur, rfl, hg, ?_, r⟩
    rw [k.block g (Array.getElem?_eq_some_iff.1 hh).1 (fun e => hne (by simp [Value.ownBlock, e])) (fun e => by
      rcases ho.2 with ⟨rfl, _⟩ | ⟨g', cap', cur', rfl, _, hh', _⟩
      · simp [Value.ownBlock] at e
      · simp [Value.ownBlock] at e
        subst e
        rw [hh] at hh'
        injection hh' with hh'
        injection hh' with _ ht
        exact h5 ht)]
    exact hh
theorem own_below {base n : Nat} {e : TypeId} {sv : Value} {xs : List Value} {V V1 : World} (h : V.ownsRow base e 1 sv n xs) (k : Below V.heap.size V V1) : V1.ownsRow base e 1 sv n xs := by
  refine ⟨h.1, ?_⟩
  rcases h.2 with hr | ⟨g, cap, cur, rfl, hg, hh, r⟩
  · exact .inl hr
  · exact .inr ⟨g, cap, cur, rfl, hg, (k.block g (Array.getElem?_eq_some_iff.1 hh).1).trans hh, r⟩
theorem own_two {w : World} {b1 b2 n1 n2 : Nat} {e1 e2 : TypeId} {v1 v2 : Value} {x1 x2 : List Value} (h1 : w.ownsRow b1 e1 1 v1 n1 x1) (h2 : w.ownsRow b2 e2 1 v2 n2 x2) (hne : e1 ≠ e2) : v1.ownBlock = none ∨ v1.ownBlock ≠ v2.ownBlock := by
  rcases h1.2 with ⟨rfl, _⟩ | ⟨g, cap, cur, rfl, _, hh, _⟩
  · exact .inl rfl
  · right
    intro e
    rcases h2.2 with ⟨rfl, _⟩ | ⟨g', cap', cur', rfl, _, hh', _⟩
    · simp [Value.ownBlock] at e
    · simp [Value.ownBlock] at e
      subst e
      rw [hh] at hh'
      injection hh' with hh'
      injection hh' with _ ht
      exact hne ht
theorem ob_sizes {w V1 V2 : World} {b n : Nat} {v sv x : Value} {l : List Nat} {xs : List Value} (hO : OB w V1 b v l) (hs : V1.ownsRow w.heap.size 3 1 sv n xs) (hg : (V1.alloc (.cells #[x] 3)).grownBy V2 sv.ownBlock) : OB w V2 b v l := by
  have hB : Below V1.heap.size V1 (V1.alloc (.cells #[x] 3)) := (Below.refl _ _).alloc (Nat.le_refl _) _
  have hO1 := hO.out.below hB
  have hblk : ∀ k, k < V1.heap.size → some k ≠ sv.ownBlock → V2.heap[k]? = V1.heap[k]? := fun k hk hn => (hg.block k (by simp; omega) hn).trans (hB.block k hk)
  have hb : some b ≠ sv.ownBlock := own_ne hs hO.out.1 (by decide)
  refine ⟨⟨(hblk b hO.out.1.lt hb).trans hO.out.1, hO.out.2.1, ?_⟩, hO.hb, hO.own, hO.below.trans ⟨hg.os, hg.tape, hg.output, Nat.le_trans hB.size hg.size, fun k hk => hblk k (Nat.lt_of_lt_of_le hk hO.below.size) (fun e => by have := (hs.lt k e.symm).1; omega)⟩⟩
  rcases hO.out.2.2 with hr | ⟨g, cap, cur, rfl, hg0, hh, r⟩
  · exact .inl hr
  · refine .inr ⟨g, cap, cur, rfl, hg0, ?_, r⟩
    rw [hblk g (Array.getElem?_eq_some_iff.1 hh).1 (by
      rcases own_two hO.out.2 hs (by decide) with h | h
      · simp [Value.ownBlock] at h
      · simpa [Value.ownBlock] using h)]
    exact hh
def CRel (w : World) (b : Nat) (ns : List Nat) (k : Nat) (sv : Value) (V : World) : Prop := ∃ v, OB w V b v (Wire.enc (ns.take k)) ∧ V.ownsRow w.heap.size 3 1 sv (k + 1) (I64 (Wire.szs ns k))
theorem own_nul {base c n : Nat} {e : TypeId} {sv : Value} {cs xs : List Value} {V V1 : World} (h : V.ownsRow base e 1 sv n xs) (k : Fr c nul V V1) (hc : Has V c 68 cs) (he : e ≠ 68) : V1.ownsRow base e 1 sv n xs := by
  have hne := own_ne h hc he
  refine ⟨h.1, ?_⟩
  rcases h.2 with hr | ⟨g, cap, cur, rfl, hg, hh, r⟩
  · exact .inl hr
  · refine .inr ⟨g, cap, cur, rfl, hg, ?_, r⟩
    rw [k.block g (Array.getElem?_eq_some_iff.1 hh).1 (fun e => hne (by simp [Value.ownBlock, e])) (by simp [nul, Value.ownBlock])]
    exact hh
/-- Behind k readings of the first K bytes. -/
def LRel (w : World) (ns : List Nat) (K c : Nat) (sv : Value) (k : Nat) (V : World) : Prop := Below w.heap.size w V ∧ V.ownsRow w.heap.size 3 1 sv (ns.length + 1) (I64 (Wire.szs ns ns.length)) ∧ w.heap.size ≤ c ∧
  (Wire.sz ns k ≤ K → In V c (S (Wire.rest ns K k)) 0) ∧ (K < Wire.sz ns k → ∃ t, In V c t 20)
theorem LRel.drewN {w V : World} {ns : List Nat} {K c k : Nat} {sv : Value} (h : LRel w ns K c sv k V) (n : Nat) : LRel w ns K c sv k (V.drewN n) := ⟨below_drewN' h.1 n, h.2.1, h.2.2.1, h.2.2.2⟩
theorem err_q (b : Nat) (s : ByteArray) (x : Nat) (w : World) (h : In w b s x) : Calls Try.prog 19 #[.pointer (some ⟨b, 0, none⟩)] w fun e w' => e = .returned (.int .i64 (x : Int)) ∧ w' = w := (err_any b s x w h).mono fun _ _ ⟨h1, h2⟩ => ⟨h1, h2.symm⟩
theorem left_q (b : Nat) (s : ByteArray) (x L : Nat) (w : World) (hL : s.size = L) (h : In w b s x) : Calls Try.prog 20 #[.pointer (some ⟨b, 0, none⟩)] w fun e w' => e = .returned (.int .i64 (L : Int)) ∧ w' = w := (left_any b s x w h).mono fun _ _ ⟨h1, h2⟩ => ⟨by rw [h1, hL], h2.symm⟩
/-- A reading that comes too late. -/
theorem late {w V : World} {ns : List Nat} {K c k : Nat} {sv : Value} (hns : ∀ n ∈ ns, n < 18446744073709551616) (h : LRel w ns K c sv k V) (hk : k < ns.length) (hK : ¬ Wire.sz ns (k + 1) ≤ K) : ∃ s x, In V c s x ∧ numRes s x = (0, s, 20) := by
  by_cases h1 : Wire.sz ns k ≤ K
  · obtain ⟨e, hl⟩ := Wire.rest_cut ns K k hk h1 (by omega)
    refine ⟨_, 0, h.2.2.2.1 h1, ?_⟩
    have hn : ns.getD k 0 < 18446744073709551616 := by
      rw [List.getD_eq_getElem?_getD, List.getElem?_eq_getElem hk]
      exact hns _ (List.getElem_mem hk)
    have hrd : Wire.rd (bl (S (Wire.rest ns K k))) = (0, 0, 20) := by
      rw [bl_S (Wire.rest_bytes ns K k), e]
      exact Wire.rd_cut _ _ hn hl
    unfold numRes
    rw [if_neg (by omega), hrd]
    simp
  · obtain ⟨t, ht⟩ := h.2.2.2.2 (by omega)
    exact ⟨t, 20, ht, by unfold numRes; rw [if_pos (by omega)]⟩
theorem extract_S (l : List Nat) (K : Nat) : (S l).extract 0 K = S (l.take K) := by
  apply ByteArray.ext
  rw [ByteArray.data_extract]
  apply Array.ext'
  rw [Array.toList_extract, List.extract_eq_take_drop]
  simp [S]
theorem done_of (b : Nat) (v : Value) (l : List Nat) (s : ByteArray) (w : World) (hs : S l = s) (h : Out w b v l) :
    Calls Try.prog 16 #[.pointer (some ⟨b, 0, none⟩)] w fun e w' => e = .returned (.string s) ∧ w = w' := by
  rw [← hs]; exact done_any b v l w h
set_option maxRecDepth 100000 in
set_option maxHeartbeats 4000000 in
theorem cuts_walk {w : World} (lv : Value) (ns : List Nat) (hl : Nums w lv ns) (a : Nat) (ha : a < 65536) :
    Calls Try.prog 7 #[lv, .int .u16 (a : Int)] w fun e w' => e = .returned (.bool true) ∧ Below w.heap.size w w' := by
  obtain ⟨A, c, rfl, hc1, hc2, hns, hcell⟩ := hl
  have HNs := Lib.hid hns
  have HCell := Lib.hid hcell
  clear hns hcell
  unfold maxLen at hc2
  by_cases h20 : 20 < ns.length
  · have t1 : decide ((20 : Int) < (ns.length : Int)) = true := by simp; omega
    clear HNs HCell hc1 hc2
    go_enter Try.func7, Try.ntmps7
    go_wp2_with fail
    refine (newOut_any w).mono ?_
    rintro e w1 ⟨rfl, hw⟩
    have HB1 : Hid (Below w.heap.size w w1) := by show Below _ _ _; rw [hw]; exact (Below.refl _ _).alloc (Nat.le_refl _) _
    clear hw
    go_wp2_with fail
    refine (awake_any w1).mono ?_
    rintro e w2 ⟨rfl, hb⟩
    have HB2 := Lib.hid (HB1.out.trans (hb.mono HB1.out.size))
    clear hb HB1
    go_wp2_with fail
    refine (awake_any w2).mono ?_
    rintro e w3 ⟨rfl, hb⟩
    have HB3 := Lib.hid (HB2.out.trans (hb.mono HB2.out.size))
    clear hb HB2
    go_wp2
    go_ret
    exact ⟨rfl, HB3.out⟩
  · have t1 : decide ((20 : Int) < (ns.length : Int)) = false := by simp; omega
    have hle := Wire.enc_le ns HNs.out
    go_enter Try.func7, Try.ntmps7
    go_wp2_with fail
    refine (newOut_any w).mono ?_
    rintro e w1 ⟨rfl, hw⟩
    have hO := OB.new (Below.refl w.heap.size w)
    rw [← hw] at hO
    have H1 := Lib.hid hO
    clear hw hO
    go_wp2_with fail
    refine (awake_any w1).mono ?_
    rintro e w2 ⟨rfl, hb⟩
    have H2 := Lib.hid (show OB w w2 w.heap.size (.slice none 0 0) [] from ⟨H1.out.out.below hb, H1.out.hb, H1.out.own, H1.out.below.trans (hb.mono H1.out.below.size)⟩)
    clear hb H1
    go_wp2_with fail
    have HC0 := Lib.hid (show CRel w w.heap.size ns 0 (.slice (some ⟨w2.heap.size, 0, none⟩) 1 1) (w2.alloc (.cells #[.int .i64 0] 3)) from ⟨_, ⟨H2.out.out.below ((Below.refl _ _).alloc (Nat.le_refl _) _), H2.out.hb, H2.out.own, H2.out.below.alloc H2.out.below.size _⟩, by simp [I64, Wire.szs, Wire.sz_zero], .inr ⟨_, 1, _, rfl, H2.out.below.size, heap_alloc_new _ _, by omega, by unfold maxLen; omega, rfl, by simp [I64, Wire.szs, Wire.sz_zero]⟩⟩)
    clear H2
    go_loopw [6, 7] (fun sv i V => ∃ k : Nat, k ≤ ns.length ∧ i = .int .i64 (k : Int) ∧ CRel w w.heap.size ns k sv V) (fun _ i _ => ns.length - (intOf i).toNat)
    case atStart => exact ⟨0, by omega, rfl, HC0.out⟩
    case round =>
      clear HC0
      obtain ⟨k, hk, hi, hrel⟩ := hrel
      subst hi
      obtain ⟨v, hO, hS⟩ := hrel
      by_cases hlt : k < ns.length
      · obtain ⟨b, o, rfl, hb, hcl⟩ := HCell.out (by omega)
        have c1 : wr.cell? ⟨b, o + k, none⟩ = some (.int .u64 (ns.getD k 0 : Nat)) := by rw [hO.below.cell (p := ⟨b, o + k, none⟩) hb]; exact hcl k hlt
        have hn : ns.getD k 0 < 18446744073709551616 := by
          rw [List.getD_eq_getElem?_getD, List.getElem?_eq_getElem hlt]
          exact HNs.out _ (List.getElem_mem hlt)
        have HStep := Lib.hid (Wire.enc_step ns k hlt)
        have HSz := Lib.hid (Wire.szs_step ns k)
        have hel : (Wire.enc (ns.take k)).length ≤ 1000 := by
          have := Wire.enc_le (ns.take k) (fun n hn => HNs.out n (List.mem_of_mem_take hn))
          rw [List.length_take] at this; omega
        have HEl := Lib.hid hel
        have HO := Lib.hid hO
        have HS := Lib.hid hS
        obtain ⟨A6, C6, rfl⟩ := own_shape hS
        clear hcl hO hS hel
        generalize ns.getD k 0 = n at *
        go_wp2_with fail
        refine (outNum_any w.heap.size n v _ wr hn HO.out.out (by have := HEl.out; omega)).mono ?_
        rintro e w3 ⟨rfl, hw⟩
        obtain ⟨v3, ho3, hf3, _⟩ := HO.out.wrote hw
        rw [← HStep.out] at ho3
        have H3 := Lib.hid ho3
        have HS3 := Lib.hid (own_fr HS.out hf3 HO.out.out.1 (by decide) HO.out.out.2 (by decide))
        clear hw ho3 hf3 HS HO c1
        obtain ⟨B, hB⟩ : ∃ B, S (Wire.enc (ns.take (k + 1))) = B := ⟨_, rfl⟩
        have eB : B.size = Wire.sz ns (k + 1) := by rw [← hB, S_size]; rfl
        have HB := Lib.hid hB
        generalize hz : Wire.sz ns (k + 1) = z at *
        obtain ⟨i0, hi, hz0, hzs, hzb⟩ := info_parts info3
        have HI := Lib.hid hi
        have HZ0 := Lib.hid hz0
        have HZs := Lib.hid hzs
        have HZb := Lib.hid hzb
        have HOwn := Lib.hid (World.ownsRow.alloc (w := w3) HS3.out (.cells #[.int .i64 (z : Int)] 3))
        clear hB hz hi hz0 hzs hzb
        go_wp2_with fail
        refine (done_of w.heap.size v3 _ B w3 HB.out H3.out.out).mono ?_
        rintro e w4 ⟨rfl, rfl⟩
        go_wp2_with (at_builtin; refine wpList_append_own_at _ rfl _ _ 49 rfl w.heap.size 3 i0 (.int .i64 0) 1 8 und49 HI.out HZ0.out HZs.out HZb.out rfl (by decide) _ _ _ rfl HOwn.out ⟨w3.heap.size, 0, none⟩ 1 1 [.int .i64 (z : Int)] rfl rfl (cell_one_new _ _ _) (fun u hu => by rw [List.mem_singleton.1 hu]; rfl) (by unfold maxLen; omega) (by omega) (by have := H3.out.below.size; simp; omega) ?_; intro v2 V2 hown2 hgr2 hnil2 hat2)
        refine ⟨⟨k + 1, by omega, by go_num, v3, ob_sizes H3.out HS3.out hgr2, ?_⟩, by simp [intOf]; omega⟩
        rw [HSz.out]
        unfold I64 at hown2 ⊢
        simpa using hown2
      · obtain rfl : k = ns.length := by omega
        rw [List.take_length] at hO
        obtain ⟨B, hB⟩ : ∃ B, S (Wire.enc ns) = B := ⟨_, rfl⟩
        obtain ⟨E, hE⟩ : ∃ E, E = (Wire.enc ns).length := ⟨_, rfl⟩
        have eB : B.size = E := by rw [← hB, S_size, hE]
        have hE2 : E ≤ 200 := by rw [hE]; omega
        obtain ⟨K, hK⟩ : ∃ K, K = a % (E + 1) := ⟨_, rfl⟩
        have hKE : K ≤ E := by rw [hK]; have := Nat.mod_lt a (show 0 < E + 1 by omega); omega
        have hrem : (a : Int).tmod ((E : Int) + 1) = (K : Int) := by
          rw [hK, Int.tmod_eq_emod_of_nonneg (by omega)]
          simp
        have hrem2 : (a : Int) % ((E : Int) + 1) = (K : Int) := by rw [hK]; simp
        have hq : ¬ ((E : Int) + 1 = 0) := by omega
        have HB := Lib.hid hB
        have HE := Lib.hid hE
        have HK := Lib.hid hK
        have HO := Lib.hid hO
        have HS := Lib.hid hS
        obtain ⟨A6, C6, rfl⟩ := own_shape hS
        clear hB hE hK hO hS hle hlt
        go_wp2_with fail
        refine (done_of w.heap.size v _ B wr HB.out HO.out.out).mono ?_
        rintro e w4 ⟨rfl, rfl⟩
        go_wp2_with fail
        have hX : B.extract 0 K = S (Wire.rest ns K 0) := by
          rw [← HB.out, extract_S]
          unfold Wire.rest
          rw [Wire.sz_zero]; rfl
        rw [hX]
        clear hX
        refine (newIn_any _ wr).mono ?_
        rintro e w4 ⟨rfl, hw⟩
        have hI := in_new wr (S (Wire.rest ns K 0))
        rw [← hw] at hI
        have hba : Below wr.heap.size wr w4 := by rw [hw]; exact (Below.refl _ _).alloc (Nat.le_refl _) _
        have HL0 := Lib.hid (show LRel w ns K wr.heap.size (.slice A6 (ns.length + 1) C6) 0 w4 from ⟨HO.out.below.trans (hba.mono HO.out.below.size), own_below HS.out hba, HO.out.below.size, fun _ => hI, fun h => by rw [Wire.sz_zero] at h; omega⟩)
        clear hI hba hw HS HO hrem hrem2 hq
        generalize wr.heap.size = cc at *
        go_wp2_with fail
        go_loopw [11] (fun i V => ∃ k : Nat, k ≤ ns.length ∧ i = .int .i64 (k : Int) ∧ LRel w ns K cc (.slice A6 (ns.length + 1) C6) k V) (fun i _ => ns.length - (intOf i).toNat)
        case atStart => exact ⟨0, by omega, rfl, HL0.out⟩
        case round =>
          clear HL0
          obtain ⟨k, hk, hi, hrel⟩ := hrel
          subst hi
          have HR := Lib.hid hrel
          clear hrel
          by_cases hlt : k < ns.length
          · obtain ⟨b, o, rfl, hb, hcl⟩ := HCell.out (by omega)
            have hn : ns.getD k 0 < 18446744073709551616 := by
              rw [List.getD_eq_getElem?_getD, List.getElem?_eq_getElem hlt]
              exact HNs.out _ (List.getElem_mem hlt)
            have hcn := hcl k hlt
            clear hcl
            obtain ⟨g, rfl⟩ : ∃ g, A6 = some ⟨g, 0, none⟩ := by
              rcases HR.out.2.1.2 with ⟨hv, hn⟩ | ⟨g, cap, cur, hv, _⟩
              · omega
              · injection hv with h1; exact ⟨g, h1⟩
            by_cases hK2 : Wire.sz ns (k + 1) ≤ K
            · have hsz := Wire.sz_step ns k hlt
              have hI := HR.out.2.2.2.1 (by omega)
              rw [Wire.rest_all ns K k hlt hK2] at hI
              have HN := Lib.hid (num_back (ns.getD k 0) (Wire.rest ns K (k + 1)) hn (Wire.rest_bytes ns K (k + 1)))
              have hLn := Wire.rest_length ns K (k + 1) (by rw [← HE.out]; exact hKE)
              have HLn := Lib.hid ((S_size (Wire.rest ns K (k + 1))).trans hLn)
              have HI := Lib.hid hI
              clear hsz hI hLn
              go_wp2_with fail
              refine (inNum_any cc _ 0 wr HI.out).mono ?_
              rintro e w5 ⟨rfl, hd⟩
              rw [HN.out] at hd ⊢
              have hB5 := fr_nul HR.out.1 HR.out.2.2.1 hd.2
              have hS5 := own_nul HR.out.2.1 hd.2 HI.out (by decide)
              have c1 : w5.cell? ⟨b, o + k, none⟩ = some (.int .u64 (ns.getD k 0 : Nat)) := by rw [hB5.cell (p := ⟨b, o + k, none⟩) hb]; exact hcn
              have c6 : w5.cell? ⟨g, k + 1, none⟩ = some (.int .i64 (Wire.sz ns (k + 1) : Nat)) := by
                have := hS5.cells (g := g) rfl (k + 1) (.int .i64 (Wire.sz ns (k + 1) : Nat)) (by unfold I64; rw [List.getElem?_map, Wire.szs_get ns _ _ (by omega)]; rfl)
                simpa [Addr.add] using this
              have HL5 := Lib.hid (show LRel w ns K cc (.slice (some ⟨g, 0, none⟩) (ns.length + 1) C6) (k + 1) w5 from ⟨hB5, hS5, HR.out.2.2.1, fun _ => hd.1, fun h => by omega⟩)
              have HI5 := Lib.hid hd.1
              have HQ1 := Lib.hid (fun n => err_q cc (S (Wire.rest ns K (k + 1))) 0 (w5.drewN n) hd.1)
              have HQ2 := Lib.hid (fun n => left_q cc (S (Wire.rest ns K (k + 1))) 0 _ (w5.drewN n) HLn.out hd.1)
              clear hd hB5 hS5 hcn HI HN HLn HR
              generalize Wire.sz ns (k + 1) = Z at *
              generalize ns.getD k 0 = n at *
              have q1 : ((n : Int) != (n : Int)) = false := by simp
              have q2 : IntKind.i64.wrap ((k : Int) + 1) = (k : Int) + 1 := by simp [IntKind.wrap, IntKind.signed, IntKind.bits]; omega
              have q3 : IntKind.i64.wrap ((K : Int) - (Z : Int)) = ((K - Z : Nat) : Int) := by simp [IntKind.wrap, IntKind.signed, IntKind.bits]; omega
              have q4 : ((k : Int) + 1).toNat = k + 1 := by omega
              generalize K - Z = L at *
              go_wp2_with fail
              go_quiet ((first | (go_at_call 19; exact Calls.quiet_of_same (HQ1.out _)) | (go_at_call 20; exact Calls.quiet_of_same (HQ2.out _))))
              go_wp2
              clear q1 q2 q3 q4
              exact ⟨⟨k + 1, by omega, by go_num, HL5.out.drewN nq⟩, by simp [intOf]; omega⟩
            · obtain ⟨s, x, hI, hres⟩ := late HNs.out HR.out hlt hK2
              have HI := Lib.hid hI
              have HN := Lib.hid hres
              clear hI hres hn
              go_wp2_with fail
              refine (inNum_any cc s x wr HI.out).mono ?_
              rintro e w5 ⟨rfl, hd⟩
              rw [HN.out] at hd ⊢
              have hB5 := fr_nul HR.out.1 HR.out.2.2.1 hd.2
              have hS5 := own_nul HR.out.2.1 hd.2 HI.out (by decide)
              have c6 : w5.cell? ⟨g, k + 1, none⟩ = some (.int .i64 (Wire.sz ns (k + 1) : Nat)) := by
                have := hS5.cells (g := g) rfl (k + 1) (.int .i64 (Wire.sz ns (k + 1) : Nat)) (by unfold I64; rw [List.getElem?_map, Wire.szs_get ns _ _ (by omega)]; rfl)
                simpa [Addr.add] using this
              have HL5 := Lib.hid (show LRel w ns K cc (.slice (some ⟨g, 0, none⟩) (ns.length + 1) C6) (k + 1) w5 from ⟨hB5, hS5, HR.out.2.2.1, fun h => by omega, fun _ => ⟨_, hd.1⟩⟩)
              have HI5 := Lib.hid hd.1
              clear hd hB5 hS5 hcn HI HN HR
              generalize Wire.sz ns (k + 1) = Z at *
              go_wp2_with fail
              refine (err_any cc s 20 w5 HI5.out).mono ?_
              rintro e w6 ⟨rfl, rfl⟩
              go_wp2
              exact ⟨⟨k + 1, by omega, by go_num, HL5.out⟩, by simp [intOf]; omega⟩
          · go_wp2
            go_ret
            exact ⟨rfl, HR.out.1⟩
end Go.Proofs.Ytiifdbagmbikpaa
