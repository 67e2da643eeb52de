/- The walk of WireKeeps. Conditions: a slice of fields. -/
import Derived.Test.YtiifdbagmbikpaaAwake
import Derived.Test.YtiifdbagmbikpaaEq2
import Derived.Test.YtiifdbagmbikpaaPutsMath
import Derived.Deep.QuietTactic
import Derived.BigQuiet
namespace Go.Proofs.Ytiifdbagmbikpaa
open Go.RowKit

/-- A field of a kind with nothing in it. -/
def fk (k : Int) : Fld := ⟨k, 0, 0, 0, nil, Z32⟩
theorem keep_res (s : ByteArray) (x : Nat) (f : Fld) (hx : x ≠ 0) (h1 : 0 ≤ f.kind) (h2 : f.kind ≤ 3) : getRes s x f = (fk f.kind, s, x) := by
  have hn : numRes s x = (0, s, x) := by unfold numRes; rw [if_pos hx]
  have ht : textRes s x f.most = (nil, s, x) := by unfold textRes; rw [if_pos hx]
  have hh : hashRes s x = (Z32, s, x) := by unfold hashRes; rw [if_pos hx]
  unfold getRes
  rw [hn, ht, hh]
  obtain h | h | h | h : f.kind = 0 ∨ f.kind = 1 ∨ f.kind = 2 ∨ f.kind = 3 := by omega
  · simp [h, fk, fn0]
  · simp [h, fk, fi1, Wire.unfold_]
  · simp [h, fk, fs2]
  · simp [h, fk, fh3]
def T2 (s : ByteArray) : ByteArray := ⟨#[128, 0]⟩ ++ s
theorem bl_T2 (s : ByteArray) : bl (T2 s) = 128 :: 0 :: bl s := by unfold T2; rw [bl_append]; rfl
theorem num_T2 (s : ByteArray) : numRes (T2 s) 0 = (0, T2 s, 21) := by
  have : Wire.rd (bl (T2 s)) = (0, 0, 21) := by
    rw [bl_T2]
    show Wire.rdFrom 0 0 _ = _
    rw [Wire.rdFrom_more (by omega) (by omega), Wire.rdFrom_form (by omega)]
  unfold numRes
  rw [if_neg (by omega), this]
  simp
theorem T2_size (s : ByteArray) : (T2 s).size = 2 + s.size := by unfold T2; rw [ByteArray.size_append]; rfl
structure KRel (w V : World) (c : Nat) (T : ByteArray) : Prop where
  below : Below w.heap.size w V
  hc : w.heap.size ≤ c
  inn : In V c T 21
theorem err_k (b : Nat) (s : ByteArray) (x : Nat) (w : World) (h : In w b s x) : Calls Try.prog 19 #[.pointer (some ⟨b, 0, none⟩)] w fun e w' => e = .returned (.int .i64 (x : Int)) ∧ w' = w := (err_any b s x w h).mono fun _ _ ⟨h1, h2⟩ => ⟨h1, h2.symm⟩
theorem left_k (b : Nat) (s : ByteArray) (x L : Nat) (w : World) (hL : s.size = L) (h : In w b s x) : Calls Try.prog 20 #[.pointer (some ⟨b, 0, none⟩)] w fun e w' => e = .returned (.int .i64 (L : Int)) ∧ w' = w := (left_any b s x w h).mono fun _ _ ⟨h1, h2⟩ => ⟨by rw [h1, hL], h2.symm⟩
theorem wpQuiet_load {ops : Array Oper} {rest : List Oper} {o : Oper} {a : Act} {C : World → Prop} {Q : Act → Prop} (hgd : Region.wanted o (yielded ops a.tmps) = true) (d : Option Tmp) (hd : o.dst = d) (ty : TypeId) (x : Operand) (ho : o.op = .load ty x) (ad : Addr) (hx : a.eval x = .pointer (some ad)) (cs : Array Value)
    (hl : ∀ w, C w → (loadVar ty ad).run Try.prog w = .ok (.agg cs) w) (h : wpQuiet Try.prog ops C Q rest (a.put d (.agg cs))) : wpQuiet Try.prog ops C Q (o :: rest) a := by
  subst hd
  refine BigFrame.wpQuiet_want hgd fun K hK => ⟨.agg cs, fun w hw => ?_, hK _ h⟩
  unfold Oper.quietAt execOp
  simp only [ho, hx, Instr.loadAt, Instr.sureAddr, Sem.run_bind, Sem.run_pure, Result.andThen_ok, hl w hw]
  exact ⟨rfl, rfl⟩
theorem wpQuiet_neq {ops : Array Oper} {rest : List Oper} {o : Oper} {a : Act} {C : World → Prop} {Q : Act → Prop} (hgd : Region.wanted o (yielded ops a.tmps) = true) (d : Option Tmp) (hd : o.dst = d) (x y : Operand) (ho : o.op = .binOp .neq 32 x y 32) (f : Fld) (hl : f.h.length = 32)
    (hx : a.eval x = .agg f.cells.toArray) (hy : a.eval y = .agg f.cells.toArray) (h : wpQuiet Try.prog ops C Q rest (a.put d (.bool false))) : wpQuiet Try.prog ops C Q (o :: rest) a := by
  subst hd
  refine BigFrame.wpQuiet_want hgd fun K hK => ⟨.bool false, fun w _ => ?_, hK _ h⟩
  unfold Oper.quietAt execOp
  simp only [ho, hx, hy, Sem.run_bind, guard_same, neq_same f hl w, Result.andThen_ok, Sem.run_pure]
  exact ⟨rfl, rfl⟩
set_option maxRecDepth 100000 in
set_option maxHeartbeats 4000000 in
theorem keeps_walk {w : World} (s : ByteArray) (lv : Value) (fs : List Fld) (hl : Flds w lv fs) (hs : s.size ≤ 140737488355328) :
    Calls Try.prog 9 #[.string s, lv] w fun e w' => e = .returned (.bool true) ∧ Below w.heap.size w w' := by
  have HFl := Lib.hid hl
  obtain ⟨A, c, rfl, hc1, hc2, hok, hcell⟩ := hl
  have HOk := Lib.hid hok
  have HCell := Lib.hid hcell
  unfold maxLen at hc2
  clear hok hcell
  have hz3 : ¬ 9223372036854775807 < 2 + s.size := by omega
  have HT : Hid ((ByteArray.mk #[128, 0]) ++ s = T2 s) := rfl
  have HTs := Lib.hid (T2_size s)
  have HTn := Lib.hid (num_T2 s)
  clear hs
  generalize T2 s = T at *
  go_enter Try.func9, Try.ntmps9
  go_wp2_with fail
  rw [HT.out]
  refine (newIn_any T w).mono ?_
  rintro e w1 ⟨rfl, hw⟩
  have hI := in_new w T
  rw [← hw] at hI
  have HB1 : Hid (Below w.heap.size w w1) := by show Below _ _ _; rw [hw]; exact (Below.refl _ _).alloc (Nat.le_refl _) _
  have HI1 := Lib.hid hI
  clear hw hI
  go_wp2_with fail
  refine (awake_any w1).mono ?_
  rintro e w2 ⟨rfl, hb⟩
  have HB2 := Lib.hid (HB1.out.trans (hb.mono HB1.out.size))
  have HI2 := Lib.hid (show In w2 w.heap.size T 0 from Has.below HI1.out hb HI1.out.lt)
  have HF2 := Lib.hid (HFl.out.below HB2.out)
  clear hb HB1 HI1
  by_cases h300 : 300 < s.size
  · have t1 : decide ((s.size : Int) > 300) = true := by simp; omega
    go_wp2_with fail
    refine (awake_any w2).mono ?_
    rintro e w3 ⟨rfl, hb⟩
    go_wp2
    go_ret
    exact ⟨rfl, HB2.out.trans (hb.mono HB2.out.size)⟩
  · have t1 : decide ((s.size : Int) > 300) = false := by simp; omega
    go_wp2_with fail
    by_cases hsh : Short fs
    · refine (few_yes _ fs w2 HF2.out hsh).mono ?_
      rintro e w3 ⟨rfl, rfl⟩
      have h40 : fs.length ≤ 40 := hsh.2
      have HSh := Lib.hid hsh.1
      clear hsh
      go_wp2_with fail
      refine (inNum_any w.heap.size T 0 w2 HI2.out).mono ?_
      rintro e w3 ⟨rfl, hd⟩
      rw [HTn.out] at hd ⊢
      have HK0 := Lib.hid (show KRel w w3 w.heap.size T from ⟨fr_nul HB2.out (Nat.le_refl _) hd.2, Nat.le_refl _, hd.1⟩)
      clear hd HI2 HB2 HF2
      go_wp2_with fail
      go_loopw [6] (fun i V => ∃ k : Nat, k ≤ fs.length ∧ i = .int .i64 (k : Int) ∧ KRel w V w.heap.size T) (fun i _ => fs.length - (intOf i).toNat)
      case atStart => exact ⟨0, by omega, rfl, HK0.out⟩
      case round =>
        clear HK0
        obtain ⟨k, hk, hi, hrel⟩ := hrel
        subst hi
        have HK := Lib.hid hrel
        clear hrel
        by_cases hlt : k < fs.length
        · obtain ⟨b, o, rfl, hb, hcl⟩ := HCell.out (by omega)
          obtain ⟨f, hf⟩ : ∃ f, fs[k]? = some f := ⟨_, List.getElem?_eq_getElem hlt⟩
          have hfo := HOk.out f (List.mem_of_getElem? hf)
          have hfs := HSh.out f (List.mem_of_getElem? hf)
          have hrw : w.rangeAt b (o + k * 37) f.cells := flds_range (hcl k f hf)
          have HR0 : Hid (wr.rangeAt b (o + k * 37) f.cells) := fun j u hu => by rw [HK.out.below.cell (p := ⟨b, o + k * 37 + j, none⟩) hb]; exact hrw j u hu
          have HKr := Lib.hid (keep_res T 21 f (by omega) hfs.2.1 hfs.2.2)
          have HFo := Lib.hid hfo
          have HSz : Hid ((Try.prog.info? 32).map (·.size) = some f.cells.length) := by show _ = _; rw [size32, Fld.len hfo]
          have hk0 : w.cell? ⟨b, o + k * 37, none⟩ = some (.int .i64 f.kind) := by simpa using hcl k f hf 0 _ rfl
          have HK00 := Lib.hid hk0
          clear hcl hf hfo hfs hrw hk0
          go_wp2_with (refine wpList_load_mid rfl 32 (.tmp 39) rfl b (o + k * 37) rfl f.cells _ HR0.out Try.underlying32 rfl HSz.out ?_)
          refine (get_any w.heap.size T 21 f wr HFo.out (by rw [HTs.out]; omega) HK.out.inn).mono ?_
          rintro e w5 ⟨rfl, hd⟩
          rw [HKr.out] at hd ⊢
          unfold Fld.val
          obtain ⟨X3, hX3, hH3, hB3, hN3⟩ := box_new w5 (fk f.kind)
          have hB5 := fr_nul HK.out.below (Nat.le_refl _) hd.2
          have hK3 : KRel w X3 w.heap.size T := ⟨hB5.trans (hB3.mono hB5.size), Nat.le_refl _, Has.below hd.1 hB3 hd.1.lt⟩
          have HK3 := Lib.hid hK3
          have HX3 := Lib.hid hX3
          have HCs := Lib.hid (info32 (f := fk f.kind) rfl)
          have HCe := Lib.hid ((fld_size (f := fn0 0) rfl).trans (fld_size (f := fk f.kind) rfl).symm)
          have HZ5 : Hid (Has (w5.alloc (.cells (fn0 0).cells.toArray 32)) w5.heap.size 32 (fn0 0).cells) := Has.new _ _ _
          have c0 : X3.cell? ⟨b, o + k * 37, none⟩ = some (.int .i64 f.kind) := by rw [hK3.below.cell (p := ⟨b, o + k * 37, none⟩) hb]; exact HK00.out
          have HH3 := Lib.hid hH3
          clear hd hX3 hH3 hB3 hN3 hB5 hK3 HK HR0 HKr HSz
          go_wp2_with (refine wpList_store_row rfl 32 (.tmp 7) (.tmp 41) rfl w5.heap.size (fk f.kind).cells.toArray rfl rfl 32 _ HZ5.out HCs.out HCe.out (fld_one _) ?_; (change wpList _ _ _ _ _ ((w5.alloc (.cells (fn0 0).cells.toArray 32)).setRow w5.heap.size (fk f.kind).cells.toArray)); rw [HX3.out])
          have hrange : X3.rangeAt w5.heap.size 0 (fk f.kind).cells := by
            have := HH3.out.range 0 37
            exact this
          have hld : ∀ n, (loadVar 32 ⟨w5.heap.size, 0, none⟩).run Try.prog (X3.drewN n) = .ok (.agg (fk f.kind).cells.toArray) (X3.drewN n) := fun n => run_loadVar_mid (P := Try.prog) (X3.drewN n) w5.heap.size 0 32 (fk f.kind).cells _ hrange Try.underlying32 rfl (by rw [size32]; rfl)
          have HLd := Lib.hid hld
          clear hld
          obtain ⟨L, hL⟩ : ∃ L, L = 2 + s.size := ⟨_, rfl⟩
          have q1 : (2 : Int) + (s.size : Int) = (L : Int) := by omega
          have q2 : IntKind.i64.wrap (L : Int) = (L : Int) := by simp [IntKind.wrap, IntKind.signed, IntKind.bits]; omega
          have HQ1 := Lib.hid (fun n => err_k w.heap.size T 21 (X3.drewN n) HK3.out.inn)
          have HQ2 := Lib.hid (fun n => left_k w.heap.size T 21 L (X3.drewN n) (by rw [HTs.out, hL]) HK3.out.inn)
          clear hL hrange
          simp only [Act.put]
          refine wp_region_quiet_lit (by kernel_rfl) (by kernel_rfl) ?_
          refine wpQuiet_load (by rfl) (some 42) rfl 32 (.tmp 7) rfl ⟨w5.heap.size, 0, none⟩ rfl (fk f.kind).cells.toArray (fun w' hw' => by obtain ⟨n, rfl⟩ := hw'; exact HLd.out n) ?_
          go_frame
          go_big_quiet_step (fail)
          go_big_quiet_step (fail)
          go_big_quiet_step (fail)
          go_big_quiet_step (fail)
          go_big_quiet_step (fail)
          go_big_quiet_step (fail)
          refine wpQuiet_neq (by rfl) (some 49) rfl (.tmp 42) (.tmp 48) rfl (fk f.kind) rfl rfl rfl ?_
          go_frame
          repeat (go_big_quiet_step (first | (go_at_call 19; exact Calls.quiet_of_same (HQ1.out _)) | (go_at_call 20; exact Calls.quiet_of_same (HQ2.out _))))
          refine wpQuiet_nil ?_
          intro _ hw'
          obtain ⟨nq, hw''⟩ := hw'
          subst hw''
          go_wp2
          clear q1 q2
          exact ⟨⟨k + 1, by omega, by go_num, ⟨below_drewN' HK3.out.below nq, HK3.out.hc, HK3.out.inn⟩⟩, by simp [intOf]; omega⟩
        · go_wp2_with fail
          refine (end_any w.heap.size T 21 wr HK.out.inn).mono ?_
          rintro e w6 ⟨rfl, rfl⟩
          rw [show endOf T 21 = 21 by unfold endOf; rw [if_neg (by omega)]]
          go_wp2
          go_ret
          exact ⟨rfl, HK.out.below⟩
    · refine (few_no _ fs w2 HF2.out hsh).mono ?_
      rintro e w3 ⟨rfl, rfl⟩
      go_wp2_with fail
      refine (awake_any w2).mono ?_
      rintro e w3 ⟨rfl, hb⟩
      go_wp2
      go_ret
      exact ⟨rfl, HB2.out.trans (hb.mono HB2.out.size)⟩
end Go.Proofs.Ytiifdbagmbikpaa
