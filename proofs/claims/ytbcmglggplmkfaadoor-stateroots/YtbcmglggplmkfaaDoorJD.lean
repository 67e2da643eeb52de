/- The contract of (*running).take: the bytes of a slice are taken into a running sum. Conditions: the block is a running sum, the slice reads as bytes outside it, fewer than 2 to the 60 bytes in all. -/
import Derived.Test.YtbcmglggplmkfaaDoorJC
import Derived.Test.YtbcmglggplmkfaaDoorJA
import Derived.Laws.CopyOwn
namespace Go.Proofs.YtbcmglggplmkfaaDoor
open Go.RowKit

theorem held_take {P : Program} {md : Region.Mode} {ops : Array Oper} {Q : Exit → Act → World → Prop} {S : World → Prop} (i : Nat) (d : Option Tmp) {oi : Oper} {v : Value} {fuel : Nat} {listed : Array Bool} {a : Act} {w : World} (hi : ops[i]? = some oi) (hd : oi.dst = d)
    (hs : Region.noSelect ops = true) (hf : Region.free md ops listed i = true) (hr : (Region.ready md ops listed).contains i = true)
    (hQ : ∀ c a w, Q (.panic c) (a.put oi.dst v) w → Q (.panic c) a w) (hy : YieldsIf P ops S oi v a) (hS : S w)
    (h : wpAnyH P md ops Q S fuel (listed.setIfInBounds i true) (a.put d v) w) : wpAnyH P md ops Q S (fuel + 1) listed a w := by
  subst hd
  exact wpAnyH_take hi hs hf hr hQ hy hS h
theorem held_one {P : Program} {md : Region.Mode} {ops : Array Oper} {Q : Exit → Act → World → Prop} {S : World → Prop} (i : Nat) (d : Option Tmp) {o : Oper} {fuel : Nat} {listed : Array Bool} {a : Act} {w : World} (hi : ops[i]? = some o) (_hd : o.dst = d)
    (hr : Region.ready md ops listed = [i]) (hw : Region.wanted o (yielded ops a.tmps) = true)
    (h : ∀ K : Act → World → Prop, (∀ v w', S w' → wpAnyH P md ops Q S fuel (listed.setIfInBounds i true) (a.put d v) w' → K (a.put d v) w') → o.wp P a w K Q) : wpAnyH P md ops Q S (fuel + 1) listed a w := by
  refine wpAnyH_all hr (by simp) (fun j hj => ?_)
  obtain rfl : j = i := by simpa using hj
  unfold wpOp
  simp only [hi, hw, if_true]
  exact .inl (h _ (fun v w' h1 h2 => ⟨h1, h2⟩))
/-- The cells of a running sum. -/
def rl (s : Sha.St) (part : List Nat) (fill bytes : Nat) : List Value := U32 s.list ++ (U8 part ++ [.int .i64 (fill : Int), .int .u64 (bytes : Int)])
theorem rl_fill {s : Sha.St} {part : List Nat} {fill bytes : Nat} (h : part.length = 64) : (rl s part fill bytes)[72]? = some (.int .i64 (fill : Int)) := by
  unfold rl
  rw [List.getElem?_append_right (by simp [Sha.St.list]), List.getElem?_append_right (by simp [h, Sha.St.list])]
  simp [h, Sha.St.list]
theorem rl_bytes {s : Sha.St} {part : List Nat} {fill bytes : Nat} (h : part.length = 64) : (rl s part fill bytes)[73]? = some (.int .u64 (bytes : Int)) := by
  unfold rl
  rw [List.getElem?_append_right (by simp [Sha.St.list]), List.getElem?_append_right (by simp [h, Sha.St.list])]
  simp [h, Sha.St.list]
theorem rl_set_fill {s : Sha.St} {part : List Nat} {fill bytes : Nat} (h : part.length = 64) (f : Nat) : (rl s part fill bytes).set 72 (.int .i64 (f : Int)) = rl s part f bytes := by
  unfold rl
  rw [List.set_append_right _ _ (by simp [Sha.St.list]), List.set_append_right _ _ (by simp [h, Sha.St.list])]
  simp [h, Sha.St.list]
theorem rl_set_bytes {s : Sha.St} {part : List Nat} {fill bytes : Nat} (h : part.length = 64) (f : Nat) : (rl s part fill bytes).set 73 (.int .u64 (f : Int)) = rl s part fill f := by
  unfold rl
  rw [List.set_append_right _ _ (by simp [Sha.St.list]), List.set_append_right _ _ (by simp [h, Sha.St.list])]
  simp [h, Sha.St.list]
theorem rl_length {s : Sha.St} {part : List Nat} {fill bytes : Nat} (h : part.length = 64) : (rl s part fill bytes).length = 74 := by simp [rl, h, Sha.St.list]
theorem rl_now {s : Sha.St} {part : List Nat} {fill bytes : Nat} : ((rl s part fill bytes).drop 0).take 8 = U32 s.list := by simp [rl, Sha.St.list, U32]
theorem rl_part {s : Sha.St} {part : List Nat} {fill bytes : Nat} (h : part.length = 64) : ((rl s part fill bytes).drop 8).take 64 = U8 part := by
  unfold rl
  rw [List.drop_append_of_le_length (by simp [Sha.St.list]), List.drop_of_length_le (by simp [Sha.St.list]), List.nil_append, List.take_append_of_le_length (by simp [h]), List.take_of_length_le (by simp [h])]
theorem rl_over {s s' : Sha.St} {part : List Nat} {fill bytes : Nat} : over (rl s part fill bytes) 0 (U32 s'.list) = rl s' part fill bytes := by
  rw [over_eq _ _ _ (by simp [rl, Sha.St.list])]
  simp [rl, Sha.St.list, U32]
theorem rl_lay {s : Sha.St} {part x : List Nat} {f fill bytes : Nat} (h : part.length = 64) (hf : f + x.length ≤ 64) :
    (rl s part fill bytes).take (8 + f) ++ (U8 x ++ (rl s part fill bytes).drop (8 + f + (U8 x).length)) = rl s (Sha.laid part f x) fill bytes := by
  have h8 : (U32 s.list).length = 8 := by simp [Sha.St.list]
  have ht : (rl s part fill bytes).take (8 + f) = U32 s.list ++ U8 (part.take f) := by
    unfold rl
    rw [List.take_append, List.take_of_length_le (by omega), h8, show 8 + f - 8 = f by omega, List.take_append_of_le_length (by rw [U8_length]; omega)]
    simp [U8]
  have hd : (rl s part fill bytes).drop (8 + f + (U8 x).length) = U8 (part.drop (f + x.length)) ++ [.int .i64 (fill : Int), .int .u64 (bytes : Int)] := by
    unfold rl
    rw [U8_length, List.drop_append, List.drop_of_length_le (by omega), h8, show 8 + f + x.length - 8 = f + x.length by omega, List.nil_append, List.drop_append_of_le_length (by rw [U8_length]; omega), U8_drop]
  rw [ht, hd]
  simp [rl, Sha.laid, U8_append]

/-- Block g is a running sum of the bytes l; so many are counted. -/
def RunAt (w : World) (g : Nat) (l : List Nat) (bytes : Nat) : Prop := ∃ s part fill, Sha.Holds l s part fill ∧ Has w g 122 (rl s part fill bytes)
/-- The value v is a slice that reads as the bytes l, outside block g. -/
def Sl (w : World) (g : Nat) (v : Value) (l : List Nat) : Prop :=
  ∃ (A : Option Addr) (c : Nat), v = .slice A l.length c ∧ l.length ≤ c ∧ c ≤ maxLen ∧ (0 < l.length → ∃ b o, A = some ⟨b, o, none⟩ ∧ b ≠ g ∧ b < w.heap.size ∧ w.rangeAt b o (U8 l))

def slen : Value → Nat
  | .slice _ n _ => n
  | _ => 0
theorem grown_set {w : World} {g : Nat} (_hg : g < w.heap.size) (i : Nat) (u : Value) : w.grownBy (w.setCell ⟨g, i, none⟩ u) (some g) :=
  ⟨rfl, rfl, rfl, by simp [World.setCell], fun k _ hne => Below.heap_setCell w _ u k (fun e => hne (by rw [e]))⟩
theorem grown_setRow {w : World} (g : Nat) (cs : Array Value) : w.grownBy (w.drew.setRow g cs) (some g) :=
  ⟨rfl, rfl, rfl, by simp [World.setRow], fun k _ hne => setRow_other w.drew g k cs (fun e => hne (by rw [e]))⟩
theorem range_far {w : World} {b o g : Nat} {cs : List Value} (h : w.rangeAt b o cs) (hne : b ≠ g) (i : Nat) (u : Value) : (w.setCell ⟨g, i, none⟩ u).rangeAt b o cs := fun j v hv => by
  rw [World.cell?_setCell_other w _ _ u (fun e => hne (by injection e with e1; exact e1.symm))]; exact h j v hv
theorem kept_far {w : World} {g : Nat} (h : Kept w) (hg : 0 < g) (i : Nat) (u : Value) : Kept (w.setCell ⟨g, i, none⟩ u) := fun j hj => by
  rw [World.cell?_setCell_other w _ _ u (fun e => by injection e with e1; omega)]; exact h j hj
theorem grown_trans' {a b c : World} {g : Nat} (h : a.grownBy b (some g)) (k : b.grownBy c (some g)) (_hg : g < b.heap.size) : a.grownBy c (some g) :=
  ⟨k.os.trans h.os, k.tape.trans h.tape, k.output.trans h.output, Nat.le_trans h.size k.size, fun i hi hne => (k.block i (Nat.lt_of_lt_of_le hi h.size) hne).trans (h.block i hi hne)⟩
theorem range_grown {w w' : World} {b o g : Nat} {cs : List Value} (h : w.rangeAt b o cs) (k : w.grownBy w' (some g)) (hne : b ≠ g) (hb : b < w.heap.size) : w'.rangeAt b o cs := fun j v hv => by
  rw [World.cell?_of_block (k.block b hb (fun e => hne (by injection e)))]; exact h j v hv
theorem kept_grown {w w' : World} {g : Nat} (h : Kept w) (k : w.grownBy w' (some g)) (hg : 0 < g) : Kept w' := fun j hj => by
  rw [World.cell?_of_block (k.block 0 h.pos (fun e => by injection e with e; omega))]; exact h j hj
/-- What stands behind a piece that was copied. -/
def TakeStep (w wr W : World) (g b o : Nat) (q2 : List Nat) : Prop := wr.grownBy W (some g) ∧ w.grownBy W (some g) ∧ W.rangeAt b o (U8 q2) ∧ Kept W ∧ b < W.heap.size
theorem takeStep_set {w wr W : World} {g b o : Nat} {q2 : List Nat} (h : TakeStep w wr W g b o q2) (hbg : b ≠ g) (hg : 0 < g) (hgs : g < W.heap.size) (i : Nat) (u : Value) : TakeStep w wr (W.setCell ⟨g, i, none⟩ u) g b o q2 :=
  ⟨grown_trans' h.1 (grown_set hgs _ _) hgs, grown_trans' h.2.1 (grown_set hgs _ _) hgs, range_far h.2.2.1 hbg _ _, kept_far h.2.2.2.1 hg _ _, by simpa [World.setCell] using h.2.2.2.2⟩
theorem takeStep_below {w wr W W' : World} {g b o : Nat} {q2 : List Nat} (h : TakeStep w wr W g b o q2) (hb : Below W.drew.heap.size W.drew W') (hgs : g < W.heap.size) (hbg : b ≠ g) (hg : 0 < g) : TakeStep w wr W' g b o q2 := by
  have k : W.grownBy W' (some g) := ⟨hb.os, hb.tape, hb.output, hb.size, fun i hi _ => hb.block i hi⟩
  exact ⟨grown_trans' h.1 k hgs, grown_trans' h.2.1 k hgs, range_grown h.2.2.1 k hbg h.2.2.2.2, kept_grown h.2.2.2.1 k hg, Nat.lt_of_lt_of_le h.2.2.2.2 k.size⟩
theorem grown_setCells {w : World} {g : Nat} (vs : List Value) (o : Nat) : w.grownBy (w.setCells g o vs) (some g) :=
  have hos : ∀ (vs : List Value) (o : Nat) (w : World), (w.setCells g o vs).os = w.os ∧ (w.setCells g o vs).tape = w.tape ∧ (w.setCells g o vs).output = w.output := by
    intro vs
    induction vs with
    | nil => intro o w; exact ⟨rfl, rfl, rfl⟩
    | cons v r ih => intro o w; rw [World.setCells]; exact ih (o + 1) (w.setCell ⟨g, o, none⟩ v)
  ⟨(hos vs o w).1, (hos vs o w).2.1, (hos vs o w).2.2, by rw [setCells_size]; exact Nat.le_refl _, fun k _ hne => setCells_heap_other g vs o w k (fun e => hne (by rw [e]))⟩
theorem takeStep_setCells {w wr W : World} {g b o : Nat} {q2 : List Nat} (h : TakeStep w wr W g b o q2) (hgs : g < W.heap.size) (hbg : b ≠ g) (hg : 0 < g) (vs : List Value) (i : Nat) : TakeStep w wr (W.setCells g i vs) g b o q2 := by
  have k : W.grownBy (W.setCells g i vs) (some g) := grown_setCells vs i
  exact ⟨grown_trans' h.1 k hgs, grown_trans' h.2.1 k hgs, range_grown h.2.2.1 k hbg h.2.2.2.2, kept_grown h.2.2.2.1 k hg, Nat.lt_of_lt_of_le h.2.2.2.2 k.size⟩
theorem sl_cut {V : World} {g b o c m : Nat} {q2 : List Nat} {Ad : Option Addr} (hV : V.rangeAt b o (U8 q2)) (hbg : b ≠ g) (hbV : b < V.heap.size) (hm1 : m ≤ q2.length) (hc1 : q2.length ≤ c) (hc2 : c ≤ maxLen)
    (hAd : (if c = m then some (⟨b, o, none⟩ : Addr) else some ⟨b, o + m, none⟩) = Ad) : Sl V g (.slice Ad (q2.length - m) (c - m)) (q2.drop m) := by
  refine ⟨Ad, c - m, by rw [List.length_drop], by rw [List.length_drop]; omega, by omega, fun h => ?_⟩
  rw [List.length_drop] at h
  rw [if_neg (by omega)] at hAd
  refine ⟨b, o + m, hAd.symm, hbg, hbV, fun j v hv => ?_⟩
  rw [← U8_drop, List.getElem?_drop] at hv
  rw [Nat.add_assoc]; exact hV _ v hv
def TakeRel (w : World) (g : Nat) (l q : List Nat) (N : Nat) (v : Value) (V : World) : Prop :=
  ∃ q1 q2, q = q1 ++ q2 ∧ Sl V g v q2 ∧ RunAt V g (l ++ q1) N ∧ w.grownBy V (some g) ∧ Kept V

set_option maxRecDepth 100000 in
set_option maxHeartbeats 1000000 in
theorem take_any (g n : Nat) (l q : List Nat) (v : Value) (w : World) (hr : RunAt w g l n) (hv : Sl w g v q) (hq : Sha.Bytes q) (hk : Kept w) (hg : 0 < g) (hn : n + q.length < 1152921504606846976) :
    Calls Tryd.prog 78 #[.pointer (some ⟨g, 0, none⟩), v] w fun e w' => e = .returned (.tuple #[]) ∧ RunAt w' g (l ++ q) (n + q.length) ∧ w.grownBy w' (some g) := by
  obtain ⟨s, part, fill, hh, hb⟩ := hr
  obtain ⟨A, c, rfl, hc1, hc2, hA⟩ := hv
  have c73 : w.cell? ⟨g, 73, none⟩ = some (.int .u64 (n : Int)) := by rw [hb.cell, rl_bytes hh.len]
  have f73 := hb.open_ 73
  have HN := Lib.hid hn
  have HA := Lib.hid hA
  have HB := Lib.hid hb
  have HH := Lib.hid hh
  obtain ⟨N, hNe⟩ : ∃ N, N = n + q.length := ⟨_, rfl⟩
  have hw : IntKind.u64.wrap ((n : Int) + IntKind.u64.wrap (q.length : Int)) = (N : Int) := by rw [IntKind.wrap_u64, IntKind.wrap_u64]; omega
  have HNe := Lib.hid hNe
  have HK := Lib.hid hk
  have HC := Lib.hid (And.intro hc1 hc2)
  clear hn hA hb hh hNe hk hc1 hc2
  go_enter Tryd.func78, Tryd.ntmps78
  go_wp2
  have hstart : TakeRel w g l q N (.slice A q.length c) (w.setCell ⟨g, 73, none⟩ (.int .u64 (N : Int))) := by
    refine ⟨[], q, rfl, ⟨A, c, rfl, HC.out.1, HC.out.2, fun h => ?_⟩, ⟨s, part, fill, by simpa using HH.out, ?_⟩, grown_set (HB.out.lt) _ _, ?_⟩
    · obtain ⟨b, o, rfl, hbg, hbs, hra⟩ := HA.out h
      exact ⟨b, o, rfl, hbg, by simpa [World.setCell] using hbs, range_far hra hbg _ _⟩
    · have := HB.out.set_ 73 (.int .u64 (N : Int))
      rw [rl_set_bytes HH.out.len] at this
      exact this
    · exact kept_far HK.out hg _ _
  have HS := Lib.hid hstart
  clear hstart HC HA HB HH HK hw c73 f73
  go_loopw [1] (fun v V => TakeRel w g l q N v V) (fun v _ => slen v)
  case atStart => exact HS.out
  case round =>
    clear HS
    obtain ⟨q1, q2, hqe, ⟨A, c, rfl, hc1, hc2, hA⟩, ⟨s, part, fill, hh, hb⟩, hgr, hkw⟩ := hrel
    have HQ := Lib.hid hqe
    have HH := Lib.hid hh
    have HB := Lib.hid hb
    have HG := Lib.hid hgr
    have HK := Lib.hid hkw
    clear hqe hh hb hgr hkw
    by_cases hlt : 0 < q2.length
    · obtain ⟨b, o, rfl, hbg, hbs, hra⟩ := hA hlt
      have HR := Lib.hid hra
      clear hra hA
      have hf64 : fill < 64 := by have := HH.out.fil; omega
      have fne : ¬ (64 = fill) := by omega
      have f1 : (fill : Int) < 64 := by omega
      have f2 : (fill : Int) ≤ 64 := by omega
      have f3 : fill ≤ 64 := by omega
      have c72 : wr.cell? ⟨g, 72, none⟩ = some (.int .i64 (fill : Int)) := by rw [HB.out.cell, rl_fill HH.out.len]
      go_wp2
      go_still_tail 9, (by kernel_rfl)
      change wpList _ _ _ _ _ wr.drew
      obtain ⟨m, hm⟩ : ∃ m, m = Nat.min q2.length (64 - fill) := ⟨_, rfl⟩
      have hm1 : m ≤ q2.length := by rw [hm]; exact Nat.min_le_left _ _
      have hm2 : m ≤ 64 - fill := by rw [hm]; exact Nat.min_le_right _ _
      have hxl : (q2.take m).length = m := by rw [List.length_take]; omega
      refine wpList_copy_own rfl (.tmp 25) (.tmp 26) 77 77 rfl 5 und27 (by kernel_rfl) g (8 + fill) (64 - fill) (64 - fill) ⟨b, o, none⟩ q2.length c rfl rfl (rl s part fill N).toArray 122 HB.out.drew (U8 (q2.take m)) (by rw [U8_length, hxl, hm]) (fun j v hv => ?_) (by rw [U8_length, hxl, List.size_toArray, rl_length HH.out.len]; omega) (U8_one _) ?_
      · rw [Addr.add_mid]
        refine HR.out j v ?_
        simp only [U8, List.map_take] at hv ⊢
        rw [List.getElem?_take] at hv
        split at hv
        · exact hv
        · cases hv
      have hN := setRow_heap wr.drew g (rl s part fill N).toArray (rl s (Sha.laid part fill (q2.take m)) fill N).toArray 122 (0, 0) HB.out.drew
      rw [List.toList_toArray, rl_lay HH.out.len (by rw [hxl]; omega)]
      have hgr2 : wr.grownBy (wr.drew.setRow g (rl s (Sha.laid part fill (q2.take m)) fill N).toArray) (some g) := grown_setRow _ _
      have hgo : goInt (U8 (q2.take m)).length = .int .i64 (m : Int) := by rw [U8_length, hxl]; rfl
      rw [hgo]
      generalize wr.drew.setRow g (rl s (Sha.laid part fill (q2.take m)) fill N).toArray = W at *
      have HW : Hid (Has W g 122 (rl s (Sha.laid part fill (q2.take m)) fill N)) := hN
      have hlen : (Sha.laid part fill (q2.take m)).length = 64 := Sha.laid_length HH.out.len (by rw [hxl]; omega)
      have HL := Lib.hid hlen
      have hqb : Sha.Bytes q2 := fun y hy => hq y (by rw [HQ.out]; exact List.mem_append_right _ hy)
      have hsg : g < wr.heap.size := HB.out.lt
      have HS : Hid (TakeStep w wr W g b o q2) := ⟨hgr2, grown_trans' HG.out hgr2 hsg, range_grown HR.out hgr2 hbg hbs, kept_grown HK.out hgr2 (by omega), Nat.lt_of_lt_of_le hbs hgr2.size⟩
      have HX := Lib.hid hxl
      have HM := Lib.hid hm
      clear hN hgr2 hgo HR HB HG HK hlen hxl c72 hm
      have d72 : W.cell? ⟨g, 72, none⟩ = some (.int .i64 (fill : Int)) := by rw [HW.out.cell, rl_fill HL.out]
      have e72 := HW.out.open_ 72
      have m0 : 0 < m := by have := HM.out; rw [this]; simp only [Nat.lt_min]; omega
      have i1 : (m : Int) ≤ q2.length := by omega
      have i2 : (m : Int) ≤ c := by omega
      obtain ⟨Ad, hAd⟩ : ∃ Ad, (if c = m then some (⟨b, o, none⟩ : Addr) else some ⟨b, o + m, none⟩) = Ad := ⟨_, rfl⟩
      have hsl : ∀ V : World, V.rangeAt b o (U8 q2) → b < V.heap.size → Sl V g (.slice Ad (q2.length - m) (c - m)) (q2.drop m) := fun V hV hbV => sl_cut hV hbg hbV hm1 hc1 hc2 hAd
      have HSl := Lib.hid hsl
      clear hsl
      by_cases hfull : fill + m = 64
      · have t1 : (((fill : Int) + (m : Int)) == 64) = true := beq_iff_eq.2 (by omega)
        go_wp2
        have hm72 : Has (W.setCell ⟨g, 72, none⟩ (.int .i64 ((fill : Int) + (m : Int)))) g 122 (rl s (Sha.laid part fill (q2.take m)) (fill + m) N) := by
          have := HW.out.set_ 72 (.int .i64 ((fill + m : Nat) : Int))
          rw [rl_set_fill HL.out] at this
          simpa using this
        have hms : TakeStep w wr (W.setCell ⟨g, 72, none⟩ (.int .i64 ((fill : Int) + (m : Int)))) g b o q2 := takeStep_set HS.out hbg hg (HW.out.lt) _ _
        have HW1 := Lib.hid hm72
        have HS1 := Lib.hid hms
        clear hm72 hms HW HS d72 e72 t1
        generalize W.setCell ⟨g, 72, none⟩ (.int .i64 ((fill : Int) + (m : Int))) = W1 at *
        have HF := Lib.hid (HH.out.full (hqb.take m) (by rw [HX.out]; exact hfull))
        have hS : W1.drew.rangeAt g 8 (U8 (Sha.laid part fill (q2.take m))) := rl_part HL.out ▸ HW1.out.drew.range 8 64
        refine wp_region_held (S := fun w' => w'.rangeAt g 8 (U8 (Sha.laid part fill (q2.take m)))) (by kernel_rfl) ?_
        change wpAnyH _ _ _ _ _ _ _ _ W1.drew
        refine held_take 0 (some 44) (v := .pointer (some ⟨g, 0, none⟩)) rfl rfl (by kernel_rfl) (by kernel_rfl) (by kernel_rfl) (fun _ _ _ h => h) (Or.inl ⟨by rfl, fun _ _ => by go_simp⟩) hS ?_
        go_frame
        refine held_take 1 (some 45) (v := .pointer (some ⟨g, 0, none⟩)) rfl rfl (by kernel_rfl) (by kernel_rfl) (by kernel_rfl) (fun _ _ _ h => h) (Or.inl ⟨by rfl, fun _ _ => by go_simp⟩) hS ?_
        go_frame
        refine held_take 5 (some 49) (v := .pointer (some ⟨g, 0, none⟩)) rfl rfl (by kernel_rfl) (by kernel_rfl) (by kernel_rfl) (fun _ _ _ h => h) (Or.inl ⟨by rfl, fun _ _ => by go_simp⟩) hS ?_
        go_frame
        refine held_take 2 (some 46) (v := .pointer (some ⟨g, 0, none⟩)) rfl rfl (by kernel_rfl) (by kernel_rfl) (by kernel_rfl) (fun _ _ _ h => h) (Or.inl ⟨by rfl, fun _ _ => by go_simp⟩) hS ?_
        go_frame
        refine held_take 6 (some 50) (v := .pointer (some ⟨g, 0, none⟩)) rfl rfl (by kernel_rfl) (by kernel_rfl) (by kernel_rfl) (fun _ _ _ h => h) (Or.inl ⟨by rfl, fun _ _ => by go_simp⟩) hS ?_
        go_frame
        refine held_take 3 (some 47) (v := .pointer (some ⟨g, 0, none⟩)) rfl rfl (by kernel_rfl) (by kernel_rfl) (by kernel_rfl) (fun _ _ _ h => h) (Or.inl ⟨by rfl, fun _ _ => by go_simp⟩) hS ?_
        go_frame
        refine held_take 7 (some 51) (v := .pointer (some ⟨g, 8, none⟩)) rfl rfl (by kernel_rfl) (by kernel_rfl) (by kernel_rfl) (fun _ _ _ h => h) (Or.inl ⟨by rfl, fun _ _ => by go_simp⟩) hS ?_
        go_frame
        refine held_take 8 (some 52) rfl rfl (by kernel_rfl) (by kernel_rfl) (by kernel_rfl) (fun _ _ _ h => h) (yieldsIf_load_mid (by rfl) 120 (.tmp 51) rfl g 8 rfl (U8 (Sha.laid part fill (q2.take m))) (.array 64 5) (fun _ h => h) und63 rfl (by rw [U8_length, HL.out]; kernel_rfl)) hS ?_
        go_frame
        refine held_one 4 (some 48) rfl rfl (by kernel_rfl) (by rfl) (fun K hK => ?_)
        refine wp_load_mid 118 (.tmp 47) rfl g 0 rfl (U32 s.list) (.array 8 91) (rl_now ▸ HW1.out.drew.range 0 8) und62 rfl (by kernel_rfl) ?_
        refine hK _ _ hS ?_
        clear hK K
        go_frame
        refine held_one 9 (some 53) rfl rfl (by kernel_rfl) (by rfl) (fun K hK => ?_)
        go_simp
        refine (behind_any s _ HH.out.ok (Sha.laid_bytes HH.out.byt (hqb.take m)) HL.out _ (show Kept W1.drew from HS1.out.2.2.2.1)).mono ?_
        rintro e w2 ⟨rfl, hb2⟩
        generalize Sha.compress s (Sha.laid part fill (q2.take m)) = s2 at *
        have HW2 := Lib.hid (HW1.out.drew.below hb2 HW1.out.lt)
        have hS2 := takeStep_below HS1.out hb2 HW1.out.lt hbg hg
        have HS2 := Lib.hid hS2
        clear hb2 hS2 hS
        have hS : w2.rangeAt g 8 (U8 (Sha.laid part fill (q2.take m))) := rl_part HL.out ▸ HW2.out.range 8 64
        refine hK _ _ hS ?_
        clear hK K HW1 HS1
        go_frame
        refine held_take 10 (some 54) (v := .pointer (some ⟨g, 0, none⟩)) rfl rfl (by kernel_rfl) (by kernel_rfl) (by kernel_rfl) (fun _ _ _ h => h) (Or.inl ⟨by rfl, fun _ _ => by go_simp⟩) hS ?_
        go_frame
        refine held_take 11 (some 55) (v := .pointer (some ⟨g, 0, none⟩)) rfl rfl (by kernel_rfl) (by kernel_rfl) (by kernel_rfl) (fun _ _ _ h => h) (Or.inl ⟨by rfl, fun _ _ => by go_simp⟩) hS ?_
        go_frame
        have hsz : (U32 s2.list).toArray.size = 8 := by simp [Sha.St.list]
        refine held_one 12 none rfl rfl (by kernel_rfl) (by rfl) (fun K hK => ?_)
        refine wp_store_mid 118 (.tmp 55) (.tmp 53) rfl g 0 (U32 s2.list).toArray rfl rfl (by rw [hsz]; exact HW2.out.there_ 0 8 (by rw [rl_length HL.out]; omega)) (by rw [hsz]; exact size62') (all_oneCell_toArray (U32_one _)) ?_
        refine hK _ _ (World.rangeAt_setCells_apart hS g 0 _ (by simp [Sha.St.list])) ?_
        clear hK K hS hsz
        rw [List.toList_toArray]
        refine wpAnyH_done (by kernel_rfl) ?_ _
        have HW3 := Lib.hid (HW2.out.setCells (U32 s2.list) 0)
        have HS3 := Lib.hid (takeStep_setCells HS2.out HW2.out.lt hbg hg (U32 s2.list) 0)
        generalize w2.setCells g 0 (U32 s2.list) = W3 at *
        rw [rl_over] at HW3
        clear HW2 HS2
        have d72 : W3.cell? ⟨g, 72, none⟩ = some (.int .i64 ((fill + m : Nat) : Int)) := by rw [HW3.out.cell, rl_fill HL.out]
        have e72 := HW3.out.open_ 72
        go_wp2
        refine ⟨⟨q1 ++ q2.take m, q2.drop m, ?_, ?_, ?_, ?_, ?_⟩, by simp [slen]; omega⟩
        · rw [List.append_assoc, List.take_append_drop]; exact HQ.out
        · exact HSl.out _ (range_far HS3.out.2.2.1 hbg _ _) (by simpa [World.setCell] using HS3.out.2.2.2.2)
        · refine ⟨s2, Sha.laid part fill (q2.take m), 0, ?_, ?_⟩
          · rw [← List.append_assoc]; exact HF.out
          · have := HW3.out.set_ 72 (.int .i64 ((0 : Nat) : Int))
            rw [rl_set_fill HL.out] at this
            exact this
        · exact grown_trans' HS3.out.2.1 (grown_set HW3.out.lt _ _) HW3.out.lt
        · exact kept_far HS3.out.2.2.2.1 hg _ _
      · have t1 : (((fill : Int) + (m : Int)) == 64) = false := beq_eq_false_iff_ne.2 (by omega)
        go_wp2
        refine ⟨⟨q1 ++ q2.take m, q2.drop m, ?_, ?_, ?_, ?_, ?_⟩, by simp [slen]; omega⟩
        · rw [List.append_assoc, List.take_append_drop]; exact HQ.out
        · exact HSl.out _ (range_far HS.out.2.2.1 hbg _ _) (by simpa [World.setCell] using HS.out.2.2.2.2)
        · refine ⟨s, Sha.laid part fill (q2.take m), fill + m, ?_, ?_⟩
          · rw [← List.append_assoc]
            have := HH.out.more (hqb.take m) (by rw [HX.out]; omega)
            rw [HX.out] at this
            exact this
          · have := HW.out.set_ 72 (.int .i64 ((fill + m : Nat) : Int))
            rw [rl_set_fill HL.out] at this
            simpa using this
        · exact grown_trans' HS.out.2.1 (grown_set HW.out.lt _ _) HW.out.lt
        · exact kept_far HS.out.2.2.2.1 hg _ _
    · obtain rfl : q2 = [] := List.eq_nil_of_length_eq_zero (by omega)
      clear hA hlt
      go_wp2
      go_end0
      refine ⟨rfl, ?_, HG.out⟩
      rw [← HNe.out, HQ.out, List.append_nil]
      exact ⟨s, part, fill, HH.out, HB.out⟩

end Go.Proofs.YtbcmglggplmkfaaDoor
/- The contracts of hash.begin and (*running).end: a running sum is begun, and told. Conditions: fewer than 10 to the 12 bytes. -/
namespace Go.Proofs.YtbcmglggplmkfaaDoor
open Go.RowKit

set_option maxRecDepth 100000 in
set_option maxHeartbeats 1000000 in
theorem begin_any (w : World) :
    Calls Tryd.prog 77 #[] w fun e w' => e = .returned (.pointer (some ⟨w.heap.size, 0, none⟩)) ∧ w' = w.alloc (.cells (rl Sha.init (List.replicate 64 0) 0 0).toArray 122) := by
  have hz := (zero_of_info (P := Tryd.prog) (t := 122) (v := .agg (U32 [0, 0, 0, 0, 0, 0, 0, 0] ++ (U8 (List.replicate 64 0) ++ [Value.int .i64 0, Value.int .u64 0])).toArray) (n := 74) (by kernel_rfl)).1
  go_enter Tryd.func77, Tryd.ntmps77
  go_wp2
  go_ret
  exact ⟨rfl, rfl⟩

theorem sl_of_own {w : World} {base g : Nat} {v : Value} {l : List Nat} (h : w.ownsRow base 5 1 v l.length (U8 l)) (hg : g < base) : Sl w g v l := by
  rcases h.2 with ⟨rfl, h0⟩ | ⟨g', cap, cur, rfl, hb, hh, hn, hm, hs, ht⟩
  · exact ⟨none, 0, by rw [h0], by omega, by unfold maxLen; omega, fun h => by omega⟩
  · refine ⟨_, cap, rfl, hn, hm, fun hp => ⟨g', 0, rfl, by omega, (Array.getElem?_eq_some_iff.1 hh).1, fun j u hu => ?_⟩⟩
    have := h.cells (g := g') rfl j u hu
    rw [Addr.add_mid] at this
    exact this
theorem kept_alloc {w : World} (h : Kept w) (o : Obj) : Kept (w.alloc o) := fun i hi => by
  rw [World.cell?_alloc_lt w o _ h.pos]; exact h i hi
theorem run_index_agg {P : Program} {ty e : TypeId} {len : Nat} {k : IntKind} {d : TypeDesc} (cs : List Value) (i : Nat) (v : Value) (hu : P.underlying ty = some (.array len e)) (hd : P.underlying e = some d) (hrow : d.isRow = false) (hs : (P.info? e).map (·.size) = some 1) (hi : i < len) (h : cs[i]? = some v) (w : World) :
    (Instr.index ty (.agg cs.toArray) (.int k (i : Int))).run P w = .ok v w := by
  cases hq : P.info? e with
  | none => simp [hq] at hs
  | some ie =>
    have hs' : ie.size = 1 := by simpa [hq] using hs
    have hagg : (isAgg e).run P w = .ok false w := by
      unfold isAgg
      rw [Sem.run_bind, run_underlying hd w]
      cases d <;> simp_all
    have hr : (0 : Int) ≤ (i : Int) ∧ (i : Int) < (len : Int) := by omega
    simp [Instr.index, asIntOf, Sem.run_bind, run_underlying hu w, hr, sizeOf, typeInfo, hq, hs', part, hagg, h]
    intro hh; omega
theorem has_now {w : World} {g : Nat} {s : Sha.St} {part : List Nat} {fill n : Nat} (h : Has w g 122 (rl s part fill n)) : w.rangeAt g 0 (U32 s.list) := rl_now ▸ h.range 0 8
theorem und25 : Tryd.prog.underlying 39 = some (.array 32 5) := by kernel_rfl
theorem size25' : (Tryd.prog.info? 39).map (·.size) = some 32 := by kernel_rfl
/-- The sum's bytes that are told behind k of them, the rest noughts. -/
def hashPart (s : Sha.St) (k : Nat) : List Nat := (Sha.out s).take k ++ List.replicate (32 - k) 0

theorem hashPart_length (s : Sha.St) {k : Nat} (h : k ≤ 32) : (hashPart s k).length = 32 := by
  have : (Sha.out s).length = 32 := by simp [Sha.out, Sha.St.list, Sha.be4]
  simp [hashPart, this]; omega
theorem out_get (s : Sha.St) (h : s.Ok) (i k : Nat) (hi : i < 8) (hk : k < 4) : (Sha.out s)[4 * i + k]? = some (s.list.getD i 0 / 2 ^ (24 - 8 * k) % 256) := by
  have ha := h.a; have hb := h.b; have hc := h.c; have hd := h.d; have he := h.e; have hf := h.f; have hg := h.g; have hh := h.h
  obtain ⟨a, b, c, d, e, f, g, hhh⟩ := s
  match i, hi, k, hk with
  | 0, _, 0, _ => simp [Sha.out, Sha.St.list, Sha.be4] at *; omega
  | 0, _, 1, _ => simp [Sha.out, Sha.St.list, Sha.be4]
  | 0, _, 2, _ => simp [Sha.out, Sha.St.list, Sha.be4]
  | 0, _, 3, _ => simp [Sha.out, Sha.St.list, Sha.be4]
  | 1, _, 0, _ => simp [Sha.out, Sha.St.list, Sha.be4] at *; omega
  | 1, _, 1, _ => simp [Sha.out, Sha.St.list, Sha.be4]
  | 1, _, 2, _ => simp [Sha.out, Sha.St.list, Sha.be4]
  | 1, _, 3, _ => simp [Sha.out, Sha.St.list, Sha.be4]
  | 2, _, 0, _ => simp [Sha.out, Sha.St.list, Sha.be4] at *; omega
  | 2, _, 1, _ => simp [Sha.out, Sha.St.list, Sha.be4]
  | 2, _, 2, _ => simp [Sha.out, Sha.St.list, Sha.be4]
  | 2, _, 3, _ => simp [Sha.out, Sha.St.list, Sha.be4]
  | 3, _, 0, _ => simp [Sha.out, Sha.St.list, Sha.be4] at *; omega
  | 3, _, 1, _ => simp [Sha.out, Sha.St.list, Sha.be4]
  | 3, _, 2, _ => simp [Sha.out, Sha.St.list, Sha.be4]
  | 3, _, 3, _ => simp [Sha.out, Sha.St.list, Sha.be4]
  | 4, _, 0, _ => simp [Sha.out, Sha.St.list, Sha.be4] at *; omega
  | 4, _, 1, _ => simp [Sha.out, Sha.St.list, Sha.be4]
  | 4, _, 2, _ => simp [Sha.out, Sha.St.list, Sha.be4]
  | 4, _, 3, _ => simp [Sha.out, Sha.St.list, Sha.be4]
  | 5, _, 0, _ => simp [Sha.out, Sha.St.list, Sha.be4] at *; omega
  | 5, _, 1, _ => simp [Sha.out, Sha.St.list, Sha.be4]
  | 5, _, 2, _ => simp [Sha.out, Sha.St.list, Sha.be4]
  | 5, _, 3, _ => simp [Sha.out, Sha.St.list, Sha.be4]
  | 6, _, 0, _ => simp [Sha.out, Sha.St.list, Sha.be4] at *; omega
  | 6, _, 1, _ => simp [Sha.out, Sha.St.list, Sha.be4]
  | 6, _, 2, _ => simp [Sha.out, Sha.St.list, Sha.be4]
  | 6, _, 3, _ => simp [Sha.out, Sha.St.list, Sha.be4]
  | 7, _, 0, _ => simp [Sha.out, Sha.St.list, Sha.be4] at *; omega
  | 7, _, 1, _ => simp [Sha.out, Sha.St.list, Sha.be4]
  | 7, _, 2, _ => simp [Sha.out, Sha.St.list, Sha.be4]
  | 7, _, 3, _ => simp [Sha.out, Sha.St.list, Sha.be4]
theorem hashPart_set (s : Sha.St) (h : s.Ok) (i k : Nat) (hi : i < 8) (hk : k < 4) : (hashPart s (4 * i + k)).set (4 * i + k) (s.list.getD i 0 / 2 ^ (24 - 8 * k) % 256) = hashPart s (4 * i + (k + 1)) := by
  have hl : (Sha.out s).length = 32 := by simp [Sha.out, Sha.St.list, Sha.be4]
  have hg := out_get s h i k hi hk
  generalize hn : 4 * i + k = n at *
  rw [show 4 * i + (k + 1) = n + 1 by omega]
  unfold hashPart
  have hr : List.replicate (32 - n) 0 = 0 :: List.replicate (32 - (n + 1)) 0 := by rw [← List.replicate_succ]; congr 1; omega
  rw [List.set_append_right _ _ (by simp [hl]; omega), hr, List.take_add_one, hg]
  simp [hl, show min n 32 = n by omega]
theorem sizeSha {l : List Nat} : (Tryd.prog.info? 39).map (·.size) = some (U8 (Sha.sha l)).toArray.size := by
  rw [size25', List.size_toArray, U8_length, Sha.Holds.sumText]
theorem grown_set_new {w V : World} {r : Option Nat} (h : w.grownBy V r) {g : Nat} (hg : w.heap.size ≤ g) (i : Nat) (u : Value) : w.grownBy (V.setCell ⟨g, i, none⟩ u) r :=
  ⟨h.os, h.tape, h.output, by simpa [World.setCell] using h.size, fun k hk hne => (Below.heap_setCell V ⟨g, i, none⟩ u k (by simp; omega)).trans (h.block k hk hne)⟩
theorem grown_setRow_new {w V : World} {r : Option Nat} (h : w.grownBy V r) {g : Nat} (hg : w.heap.size ≤ g) (cs : Array Value) : w.grownBy (V.setRow g cs) r :=
  ⟨h.os, h.tape, h.output, by simpa [World.setRow] using h.size, fun k hk hne => (setRow_other V g k cs (by omega)).trans (h.block k hk hne)⟩
def EndRel (w : World) (g h : Nat) (s : Sha.St) (k : Nat) (V : World) : Prop := w.grownBy V (some g) ∧ Has V w.heap.size 39 (U8 (List.replicate 32 0)) ∧ Has V h 39 (U8 (hashPart s k))
theorem grown_alloc {w V : World} {r : Option Nat} (h : w.grownBy V r) (o : Obj) : w.grownBy (V.alloc o) r :=
  ⟨h.os, h.tape, h.output, Nat.le_trans h.size (by simp), fun i hi hne => (Below.heap_alloc V o i (Nat.lt_of_lt_of_le hi h.size)).trans (h.block i hi hne)⟩
set_option maxRecDepth 100000 in
set_option maxHeartbeats 1000000 in
theorem end_any (g : Nat) (l : List Nat) (w : World) (hr : RunAt w g l l.length) (hk : Kept w) (hg : 0 < g) (hl : l.length < 1000000000000) :
    Calls Tryd.prog 79 #[.pointer (some ⟨g, 0, none⟩)] w fun e w' => e = .returned (.agg (U8 (Sha.sha l)).toArray) ∧ w.grownBy w' (some g) := by
  obtain ⟨s, part, fill, hh, hb⟩ := hr
  have c73 : w.cell? ⟨g, 73, none⟩ = some (.int .u64 (l.length : Int)) := by rw [hb.cell, rl_bytes hh.len]
  have hgs := hb.lt
  have HL := Lib.hid hl
  have HB := Lib.hid hb
  have HH := Lib.hid hh
  have HK := Lib.hid hk
  clear hl hb hh hk
  go_enter Tryd.func79, Tryd.ntmps79
  go_wp2_with fail
  refine (ending_any l.length (by have := HL.out; omega) _).mono ?_
  rintro e w1 ⟨v, rfl, hown, hbel⟩
  have HO := Lib.hid hown
  have HBe := Lib.hid hbel
  clear hown hbel c73
  go_wp2_with fail
  have hR1 : RunAt w1 g l l.length := ⟨s, part, fill, HH.out, (HB.out.alloc _).below HBe.out (by simp; omega)⟩
  have hV1 : Sl w1 g v (Sha.ending l.length) := sl_of_own HO.out (by simp; omega)
  have hK1 : Kept w1 := (kept_alloc HK.out _).below HBe.out (by simp)
  refine (take_any g l.length l (Sha.ending l.length) v w1 hR1 hV1 (Sha.ending_bytes _) hK1 hg (by have := Sha.ending_le l.length; have := HL.out; omega)).mono ?_
  rintro e w2 ⟨rfl, ⟨s2, part2, fill2, hh2, hb2⟩, hgr⟩
  have hz1 : w.heap.size + 1 ≤ w1.heap.size := by have := HBe.out.size; simpa using this
  have hr1 : Has w1 w.heap.size 39 (U8 (List.replicate 32 0)) := Has.below (Has.new' w 39 (U8 (List.replicate 32 0)) _ _ rfl rfl) HBe.out (by simp)
  have hr2 : Has w2 w.heap.size 39 (U8 (List.replicate 32 0)) := (hgr.block _ (by omega) (fun e => by injection e with e; omega)).trans hr1
  have hW2 : w.grownBy w2 (some g) := grown_trans' ⟨HBe.out.os, HBe.out.tape, HBe.out.output, by omega, fun i hi _ => (HBe.out.block i (by simp; omega)).trans (Below.heap_alloc w _ i hi)⟩ hgr (by omega)
  have HR2 := Lib.hid hr2
  have HW2 := Lib.hid hW2
  have HB2 := Lib.hid hb2
  have HS := Lib.hid (show Sha.out s2 = Sha.sha l from hh2.sum)
  have HOk := Lib.hid hh2.ok
  have hz2 : w.heap.size + 1 ≤ w2.heap.size := Nat.le_trans hz1 hgr.size
  clear hr1 hr2 hW2 hb2 hh2 hR1 hV1 hK1 hgr HO HBe HB HH HK
  go_wp2_with (refine wpList_load_mid rfl 118 (.tmp 16) rfl g 0 rfl (U32 s2.list) (.array 8 91) (has_now (HB2.out.alloc _)) und62 rfl size62' ?_)
  have h0 : EndRel w g w2.heap.size s2 0 (w2.alloc (.cells (U8 (List.replicate 32 0)).toArray 39)) :=
    ⟨grown_alloc HW2.out _, HR2.out.alloc _, Has.new _ _ _⟩
  have H0 := Lib.hid h0
  clear h0
  go_loopw [18] (fun i V => ∃ k : Nat, k ≤ 8 ∧ i = .int .i64 (k : Int) ∧ EndRel w g w2.heap.size s2 (4 * k) V) (fun i _ => 8 - (intOf i).toNat)
  case atStart => exact ⟨0, by omega, rfl, H0.out⟩
  case round =>
    clear H0
    obtain ⟨i, hi, rfl, hrel⟩ := hrel
    have HR := Lib.hid hrel
    clear hrel
    by_cases hlt : i < 8
    · have hix : (U32 s2.list)[i]? = some (.int .u32 (s2.list.getD i 0 : Nat)) := U32_get (by simpa [Sha.St.list] using hlt)
      obtain ⟨x, hx⟩ : ∃ x, x = s2.list.getD i 0 := ⟨_, rfl⟩
      rw [← hx] at hix
      have HX := Lib.hid hx
      clear hx
      have i8 : (i : Int) < 8 := by omega
      have hidx := fun W : World => run_index_agg (P := Tryd.prog) (k := .i64) (U32 s2.list) i _ und62 (by kernel_rfl : Tryd.prog.underlying 91 = some (.int .u32)) rfl (by kernel_rfl) hlt hix W
      clear hix
      go_wp2
      clear hidx
      go_loopw [22] (fun j V => ∃ k : Nat, k ≤ 4 ∧ j = .int .i64 (k : Int) ∧ EndRel w g w2.heap.size s2 (4 * i + k) V) (fun j _ => 4 - (intOf j).toNat)
      case atStart => exact ⟨0, by omega, rfl, HR.out⟩
      case round =>
        clear HR
        obtain ⟨k, hk, rfl, hrel⟩ := hrel
        have HR := Lib.hid hrel
        clear hrel
        by_cases hlt4 : k < 4
        · have j1 : (4 : Int) * i + k < 32 := by omega
          have hold : wr.cell? ⟨w2.heap.size, 4 * i + k, none⟩ = some (.int .u8 ((hashPart s2 (4 * i + k)).getD (4 * i + k) 0 : Nat)) := by
            rw [HR.out.2.2.cell, U8_get (by rw [hashPart_length _ (by omega)]; omega)]
          have hfro := HR.out.2.2.open_ (4 * i + k)
          have HV := Lib.hid (hashPart_set s2 HOk.out i k hlt hlt4)
          go_wp2
          refine ⟨⟨k + 1, by omega, by go_num, ?_⟩, by simp [intOf]; omega⟩
          refine ⟨grown_set_new HR.out.1 (by omega) _ _, HR.out.2.1.far (by simp; omega) _, ?_⟩
          have := HR.out.2.2.set_ (4 * i + k) (.int .u8 ((x / 2 ^ (24 - 8 * k) % 256 : Nat) : Int))
          rw [U8_set, HX.out, HV.out, ← HX.out] at this
          simpa using this
        · go_wp2
          refine ⟨⟨i + 1, by omega, by go_num, ?_⟩, by simp [intOf]; omega⟩
          rw [show 4 * (i + 1) = 4 * i + k by omega]
          exact HR.out
    · have hfin : hashPart s2 (4 * i) = Sha.sha l := by
        rw [show 4 * i = 32 by omega, ← HS.out]
        have : (Sha.out s2).length = 32 := by simp [Sha.out, Sha.St.list, Sha.be4]
        simp [hashPart, ← this]
      have hH := HR.out.2.2
      rw [hfin] at hH
      have HH := Lib.hid hH
      have HR1 := Lib.hid HR.out.1
      have HR0 := Lib.hid HR.out.2.1
      clear hfin hH HR
      go_wp2_with (first
        | (refine wpList_load_row rfl 39 (.tmp 3) rfl w2.heap.size rfl 39 _ (0, 0) (.array 32 5) HH.out und25 rfl sizeSha ?_)
        | (refine wpList_store_row rfl 39 (.tmp 2) (.tmp 38) rfl w.heap.size _ rfl rfl 39 _ HR0.out sizeSha (by simp [Sha.Holds.sumText]) (all_oneCell_toArray (U8_one _)) ?_))
      have hN := setRow_heap wr w.heap.size _ (U8 (Sha.sha l)).toArray 39 _ HR0.out
      refine bodyPost_ret (results_cell_row rfl _ _ w.heap.size 39 _ (0, 0) (.array 32 5) rfl hN und25 rfl sizeSha) rfl ⟨rfl, ?_⟩
      exact grown_setRow_new HR1.out (Nat.le_refl _) _
end Go.Proofs.YtbcmglggplmkfaaDoor
/- The contract of hash.Of: the sum of all parts, one behind another. Conditions: fewer than 10 to the 12 bytes, the table of constants lies as it was laid. -/
namespace Go.Proofs.YtbcmglggplmkfaaDoor
open Go.RowKit

/-- The value v is a slice of slices that read as ps. -/
def Parts (w : World) (v : Value) (ps : List (List Nat)) : Prop :=
  ∃ (A : Option Addr) (c : Nat) (vs : List Value), v = .slice A ps.length c ∧ ps.length ≤ c ∧ c ≤ maxLen ∧ vs.length = ps.length ∧ (0 < ps.length → ∃ b o, A = some ⟨b, o, none⟩ ∧ b < w.heap.size ∧ w.rangeAt b o vs) ∧
    ∀ (i : Nat) u l, vs[i]? = some u → ps[i]? = some l → Sl w w.heap.size u l
theorem Sl.grown {w w' : World} {g g' : Nat} {v : Value} {l : List Nat} (h : Sl w g v l) (k : w.grownBy w' (some g')) (hg : w.heap.size ≤ g') : Sl w' g' v l := by
  obtain ⟨A, c, rfl, h1, h2, h3⟩ := h
  refine ⟨A, c, rfl, h1, h2, fun hp => ?_⟩
  obtain ⟨b, o, rfl, hb, hs, hr⟩ := h3 hp
  exact ⟨b, o, rfl, by omega, Nat.lt_of_lt_of_le hs k.size, range_grown hr k (by omega) hs⟩
/-- Behind i parts. -/
def OfRel (w : World) (ps : List (List Nat)) (i : Nat) (V : World) : Prop :=
  RunAt V (w.heap.size + 1) (ps.take i).flatten (ps.take i).flatten.length ∧ w.grownBy V (some (w.heap.size + 1)) ∧ Kept V ∧ Has V w.heap.size 39 (U8 (List.replicate 32 0))
theorem flatten_take_len (ps : List (List Nat)) (i : Nat) : (ps.take i).flatten.length ≤ ps.flatten.length := by
  conv => rhs; rw [← List.take_append_drop i ps, List.flatten_append, List.length_append]
  omega

set_option maxRecDepth 100000 in
set_option maxHeartbeats 1000000 in
theorem of_any (ps : List (List Nat)) (v : Value) (w : World) (hp : Parts w v ps) (hby : ∀ l ∈ ps, Sha.Bytes l) (hk : Kept w) (hn : ps.flatten.length < 1000000000000) :
    Calls Tryd.prog 71 #[v] w fun e w' => e = .returned (.agg (U8 (Sha.sha ps.flatten)).toArray) ∧ Below w.heap.size w w' := by
  obtain ⟨A, c, vs, rfl, hc1, hc2, hvl, hA, hS⟩ := hp
  unfold maxLen at hc2
  have HVL := Lib.hid hvl
  have HA := Lib.hid hA
  have HS := Lib.hid hS
  have HK := Lib.hid hk
  have HN := Lib.hid hn
  clear hvl hA hS hk hn
  go_enter Tryd.func71, Tryd.ntmps71
  go_wp2_with (go_at_call 77; (with_reducible refine (begin_any _).mono ?_); rintro e w1 ⟨rfl, rfl⟩)
  have hg1 : w.grownBy ((w.alloc (.cells (U8 (List.replicate 32 0)).toArray 39)).alloc (.cells (rl Sha.init (List.replicate 64 0) 0 0).toArray 122)) (some (w.heap.size + 1)) :=
    grown_alloc (grown_alloc ⟨rfl, rfl, rfl, Nat.le_refl _, fun _ _ _ => rfl⟩ _) _
  have h0 : OfRel w ps 0 ((w.alloc (.cells (U8 (List.replicate 32 0)).toArray 39)).alloc (.cells (rl Sha.init (List.replicate 64 0) 0 0).toArray 122)) :=
    ⟨⟨_, _, _, by simpa using Sha.Holds.begin, Has.new' _ _ _ _ _ rfl (by simp)⟩, hg1, kept_alloc (kept_alloc HK.out _) _, (Has.new _ _ _).alloc _⟩
  have H0 := Lib.hid h0
  clear h0 hg1
  go_loopw [9] (fun i V => ∃ k : Nat, k ≤ ps.length ∧ i = .int .i64 (k : Int) ∧ OfRel w ps k V) (fun i _ => ps.length - (intOf i).toNat)
  case atStart => exact ⟨0, by omega, rfl, H0.out⟩
  case round =>
    clear H0
    obtain ⟨k, hk, rfl, hrel⟩ := hrel
    have HR := Lib.hid hrel
    clear hrel
    by_cases hlt : k < ps.length
    · obtain ⟨b, o, rfl, hb, hra⟩ := HA.out (by omega)
      have hvk : vs[k]? = some (vs[k]'(by have := HVL.out; omega)) := List.getElem?_eq_getElem _
      have hc : wr.cell? ⟨b, o + k, none⟩ = some (vs[k]'(by have := HVL.out; omega)) := range_grown hra HR.out.2.1 (by omega) hb k _ hvk
      have hSk := (HS.out k _ _ hvk (List.getElem?_eq_getElem hlt)).grown HR.out.2.1 (by omega)
      have hBk := hby _ (List.getElem_mem hlt)
      have hf : (ps.take (k + 1)).flatten = (ps.take k).flatten ++ ps[k] := by
        rw [List.take_add_one, List.getElem?_eq_getElem hlt, List.flatten_append]; simp only [Option.toList_some, List.flatten_cons, List.flatten_nil, List.append_nil]
      have hle := flatten_take_len ps (k + 1)
      generalize vs[k]'(by have := HVL.out; omega) = u at *
      generalize ps[k] = q at *
      have HF := Lib.hid hf
      have HSk := Lib.hid hSk
      have HLe := Lib.hid hle
      clear hvk hf hSk hle
      have k1 : (k : Int) < ps.length := by omega
      go_wp2_with fail
      refine (take_any (w.heap.size + 1) _ (ps.take k).flatten q u wr HR.out.1 HSk.out hBk HR.out.2.2.1 (by omega) (by have := HLe.out; rw [HF.out, List.length_append] at this; have := HN.out; omega)).mono ?_
      rintro e w2 ⟨rfl, hr2, hgr⟩
      have hsz : w.heap.size + 1 < wr.heap.size := by obtain ⟨_, _, _, _, h⟩ := HR.out.1; exact h.lt
      have hR2 : OfRel w ps (k + 1) w2 := by
        refine ⟨?_, grown_trans' HR.out.2.1 hgr hsz, kept_grown HR.out.2.2.1 hgr (by omega), (hgr.block _ (by omega) (fun e => by injection e with e; omega)).trans HR.out.2.2.2⟩
        rw [HF.out, List.length_append]
        exact hr2
      have HR2 := Lib.hid hR2
      clear hR2 hr2 hgr
      go_wp2
      exact ⟨⟨k + 1, by omega, by go_num, HR2.out⟩, by simp [intOf]; omega⟩
    · have hfin : ps.take k = ps := List.take_of_length_le (by omega)
      have hR := HR.out
      unfold OfRel at hR
      rw [hfin] at hR
      have HR' := Lib.hid hR
      clear hR hfin HR
      go_wp2_with fail
      refine (end_any (w.heap.size + 1) ps.flatten wr HR'.out.1 HR'.out.2.2.1 (by omega) HN.out).mono ?_
      rintro e w2 ⟨rfl, hgr⟩
      have hsz : w.heap.size + 1 < wr.heap.size := by obtain ⟨_, _, _, _, h⟩ := HR'.out.1; exact h.lt
      have HG := Lib.hid (grown_trans' HR'.out.2.1 hgr hsz)
      have HR0 := Lib.hid (show Has w2 w.heap.size 39 (U8 (List.replicate 32 0)) from (hgr.block _ (by omega) (fun e => by injection e with e; omega)).trans HR'.out.2.2.2)
      clear hgr HR'
      go_wp2_with (refine wpList_store_row rfl 39 (.tmp 2) (.tmp 18) rfl w.heap.size _ rfl rfl 39 _ HR0.out sizeSha (by simp [Sha.Holds.sumText]) (all_oneCell_toArray (U8_one _)) ?_)
      have hN := setRow_heap w2 w.heap.size _ (U8 (Sha.sha ps.flatten)).toArray 39 _ HR0.out
      refine bodyPost_ret (results_cell_row rfl _ _ w.heap.size 39 _ (0, 0) (.array 32 5) rfl hN und25 rfl sizeSha) rfl ⟨rfl, ?_⟩
      have := grown_setRow_new HG.out (Nat.le_refl _) (U8 (Sha.sha ps.flatten)).toArray
      exact ⟨this.os, this.tape, this.output, this.size, fun i hi => this.block i hi (fun e => by injection e with e; omega)⟩
end Go.Proofs.YtbcmglggplmkfaaDoor
/- Two sums are compared by their bytes. Conditions: 32 bytes each. -/
namespace Go.Proofs.YtbcmglggplmkfaaDoor
open Go.RowKit

theorem size5 (w : World) : (sizeOf 5).run Tryd.prog w = .ok 1 w := by
  obtain ⟨i, hi, _, hs, _⟩ := info5
  simp [sizeOf, typeInfo, hi, hs]
theorem part5 (cs : List Value) (i : Nat) (v : Value) (h : cs[i]? = some v) (w : World) : (part 5 cs.toArray i).run Tryd.prog w = .ok v w := by
  have hagg : (isAgg 5).run Tryd.prog w = .ok false w := by
    unfold isAgg
    rw [Sem.run_bind, run_underlying (show Tryd.prog.underlying 5 = some (.int .u8) by kernel_rfl) w]
    simp
  simp [part, Sem.run_bind, hagg, h]
theorem loop_eq (d : Nat) (a b : List Nat) (la : a.length = 32) (lb : b.length = 32) (w : World) : ∀ L : List Nat, (∀ i ∈ L, i < 32) →
    Sem.run Tryd.prog (forIn L ((none : Option Bool), ()) fun i __s => do
      let x ← part 5 (U8 a).toArray (i * 1)
      let y ← part 5 (U8 b).toArray (i * 1)
      let r ← Op.equalIn (d + 1) 5 x y
      if (!r) = true then pure (ForInStep.done (some false, ())) else pure (ForInStep.yield (none, ()))) w
    = .ok ((if L.all (fun i => a.getD i 0 == b.getD i 0) then none else some false), ()) w
  | [], _ => by simp
  | i :: L, h => by
    have hi : i < 32 := h i (by simp)
    have ih := loop_eq d a b la lb w L (fun j hj => h j (by simp [hj]))
    have ha := part5 (U8 a) i _ (U8_get (by omega)) w
    have hb := part5 (U8 b) i _ (U8_get (by omega)) w
    rw [List.forIn_cons]
    simp only [Sem.run_bind, Nat.mul_one, ha, hb, Result.andThen_ok, run_equalIn_int w d 5 .u8 .u8 _ _ (show Tryd.prog.underlying 5 = some (.int .u8) by kernel_rfl)]
    by_cases e : a.getD i 0 = b.getD i 0
    · have e1 : ((a.getD i 0 : Int) == (b.getD i 0 : Int)) = true := by rw [e]; simp
      have e2 : (a.getD i 0 == b.getD i 0) = true := by rw [e]; simp
      simp only [e1, Bool.not_true, Bool.false_eq_true, if_false, Sem.run_pure, Result.andThen_ok, List.all_cons, e2, Bool.true_and]
      simpa only [Nat.mul_one] using ih
    · have e1 : ((a.getD i 0 : Int) == (b.getD i 0 : Int)) = false := by rw [beq_eq_false_iff_ne]; omega
      have e2 : (a.getD i 0 == b.getD i 0) = false := by rw [beq_eq_false_iff_ne]; exact e
      simp only [e1, Bool.not_false, if_true, Sem.run_pure, Result.andThen_ok, List.all_cons, e2, Bool.false_and, Bool.false_eq_true, if_false]
theorem all_eq (a b : List Nat) (la : a.length = 32) (lb : b.length = 32) : (List.range' 0 32).all (fun i => a.getD i 0 == b.getD i 0) = (a == b) := by
  rw [Bool.eq_iff_iff, List.all_eq_true, beq_iff_eq]
  constructor
  · intro h
    apply List.ext_getElem (by omega)
    intro i h1 h2
    have := h i (by simp [List.mem_range'_1]; omega)
    rw [beq_iff_eq, List.getD_eq_getElem?_getD, List.getD_eq_getElem?_getD, List.getElem?_eq_getElem h1, List.getElem?_eq_getElem h2] at this
    simpa using this
  · rintro rfl i _
    simp
theorem run_eqArr (d : Nat) (a b : List Nat) (la : a.length = 32) (lb : b.length = 32) (w : World) : (Op.equalIn (d + 2) 39 (.agg (U8 a).toArray) (.agg (U8 b).toArray)).run Tryd.prog w = .ok (a == b) w := by
  rw [Op.equalIn]
  simp only [Sem.run_bind, run_underlying und25, Result.andThen_ok, size5, Std.Legacy.Range.forIn_eq_forIn_range']
  rw [show (List.range' 0 [:32].size) = List.range' 0 32 from rfl]
  have := loop_eq d a b la lb w (List.range' 0 32) (fun i hi => by simp [List.mem_range'_1] at hi; omega)
  rw [this, all_eq a b la lb]
  cases a == b <;> simp
/-- '==' of two sums. -/
theorem run_eqHash (a b : List Nat) (la : a.length = 32) (lb : b.length = 32) (w : World) : (binOp .eql 39 (.agg (U8 a).toArray) (.agg (U8 b).toArray)).run Tryd.prog w = .ok (.bool (a == b)) w := by
  rw [run_eql_struct]
  rw [run_eqArr 9998 a b la lb w]
  rfl
end Go.Proofs.YtbcmglggplmkfaaDoor
