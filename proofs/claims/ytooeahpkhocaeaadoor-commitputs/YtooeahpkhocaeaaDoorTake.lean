/- The contract of (*running).take: the bytes of a slice are taken into a running sum. Conditions: the block is a running sum, the slice reads as bytes outside it, fewer than 2 to the 60 bytes in all. -/
import Derived.Test.YtooeahpkhocaeaaDoorJ05
import Derived.Test.YtooeahpkhocaeaaDoorJ03
import Derived.Laws.CopyOwn
namespace Go.Proofs.YtooeahpkhocaeaaDoor
open Go.RowKit

theorem held_take {P : Program} {md : Region.Mode} {ops : Array Oper} {Q : Exit → Act → World → Prop} {S : World → Prop} (i : Nat) (d : Option Tmp) {oi : Oper} {v : Value} {fuel : Nat} {listed : Array Bool} {a : Act} {w : World} (hi : ops[i]? = some oi) (hd : oi.dst = d)
    (hs : Region.noSelect ops = true) (hf : Region.free md ops listed i = true) (hr : (Region.ready md ops listed).contains i = true)
    (hQ : ∀ c a w, Q (.panic c) (a.put oi.dst v) w → Q (.panic c) a w) (hy : YieldsIf P ops S oi v a) (hS : S w)
    (h : wpAnyH P md ops Q S fuel (listed.setIfInBounds i true) (a.put d v) w) : wpAnyH P md ops Q S (fuel + 1) listed a w := by
  subst hd
  exact wpAnyH_take hi hs hf hr hQ hy hS h
theorem held_one {P : Program} {md : Region.Mode} {ops : Array Oper} {Q : Exit → Act → World → Prop} {S : World → Prop} (i : Nat) (d : Option Tmp) {o : Oper} {fuel : Nat} {listed : Array Bool} {a : Act} {w : World} (hi : ops[i]? = some o) (_hd : o.dst = d)
    (hr : Region.ready md ops listed = [i]) (hw : Region.wanted o (yielded ops a.tmps) = true)
    (h : ∀ K : Act → World → Prop, (∀ v w', S w' → wpAnyH P md ops Q S fuel (listed.setIfInBounds i true) (a.put d v) w' → K (a.put d v) w') → o.wp P a w K Q) : wpAnyH P md ops Q S (fuel + 1) listed a w := by
  refine wpAnyH_all hr (by simp) (fun j hj => ?_)
  obtain rfl : j = i := by simpa using hj
  unfold wpOp
  simp only [hi, hw, if_true]
  exact .inl (h _ (fun v w' h1 h2 => ⟨h1, h2⟩))
/-- The cells of a running sum. -/
def rl (s : Sha.St) (part : List Nat) (fill bytes : Nat) : List Value := U32 s.list ++ (U8 part ++ [.int .i64 (fill : Int), .int .u64 (bytes : Int)])
theorem rl_fill {s : Sha.St} {part : List Nat} {fill bytes : Nat} (h : part.length = 64) : (rl s part fill bytes)[72]? = some (.int .i64 (fill : Int)) := by
  unfold rl
  rw [List.getElem?_append_right (by simp [Sha.St.list]), List.getElem?_append_right (by simp [h, Sha.St.list])]
  simp [h, Sha.St.list]
theorem rl_bytes {s : Sha.St} {part : List Nat} {fill bytes : Nat} (h : part.length = 64) : (rl s part fill bytes)[73]? = some (.int .u64 (bytes : Int)) := by
  unfold rl
  rw [List.getElem?_append_right (by simp [Sha.St.list]), List.getElem?_append_right (by simp [h, Sha.St.list])]
  simp [h, Sha.St.list]
theorem rl_set_fill {s : Sha.St} {part : List Nat} {fill bytes : Nat} (h : part.length = 64) (f : Nat) : (rl s part fill bytes).set 72 (.int .i64 (f : Int)) = rl s part f bytes := by
  unfold rl
  rw [List.set_append_right _ _ (by simp [Sha.St.list]), List.set_append_right _ _ (by simp [h, Sha.St.list])]
  simp [h, Sha.St.list]
theorem rl_set_bytes {s : Sha.St} {part : List Nat} {fill bytes : Nat} (h : part.length = 64) (f : Nat) : (rl s part fill bytes).set 73 (.int .u64 (f : Int)) = rl s part fill f := by
  unfold rl
  rw [List.set_append_right _ _ (by simp [Sha.St.list]), List.set_append_right _ _ (by simp [h, Sha.St.list])]
  simp [h, Sha.St.list]
theorem rl_length {s : Sha.St} {part : List Nat} {fill bytes : Nat} (h : part.length = 64) : (rl s part fill bytes).length = 74 := by simp [rl, h, Sha.St.list]
theorem rl_now {s : Sha.St} {part : List Nat} {fill bytes : Nat} : ((rl s part fill bytes).drop 0).take 8 = U32 s.list := by simp [rl, Sha.St.list, U32]
theorem rl_part {s : Sha.St} {part : List Nat} {fill bytes : Nat} (h : part.length = 64) : ((rl s part fill bytes).drop 8).take 64 = U8 part := by
  unfold rl
  rw [List.drop_append_of_le_length (by simp [Sha.St.list]), List.drop_of_length_le (by simp [Sha.St.list]), List.nil_append, List.take_append_of_le_length (by simp [h]), List.take_of_length_le (by simp [h])]
theorem rl_over {s s' : Sha.St} {part : List Nat} {fill bytes : Nat} : over (rl s part fill bytes) 0 (U32 s'.list) = rl s' part fill bytes := by
  rw [over_eq _ _ _ (by simp [rl, Sha.St.list])]
  simp [rl, Sha.St.list, U32]
theorem rl_lay {s : Sha.St} {part x : List Nat} {f fill bytes : Nat} (h : part.length = 64) (hf : f + x.length ≤ 64) :
    (rl s part fill bytes).take (8 + f) ++ (U8 x ++ (rl s part fill bytes).drop (8 + f + (U8 x).length)) = rl s (Sha.laid part f x) fill bytes := by
  have h8 : (U32 s.list).length = 8 := by simp [Sha.St.list]
  have ht : (rl s part fill bytes).take (8 + f) = U32 s.list ++ U8 (part.take f) := by
    unfold rl
    rw [List.take_append, List.take_of_length_le (by omega), h8, show 8 + f - 8 = f by omega, List.take_append_of_le_length (by rw [U8_length]; omega)]
    simp [U8]
  have hd : (rl s part fill bytes).drop (8 + f + (U8 x).length) = U8 (part.drop (f + x.length)) ++ [.int .i64 (fill : Int), .int .u64 (bytes : Int)] := by
    unfold rl
    rw [U8_length, List.drop_append, List.drop_of_length_le (by omega), h8, show 8 + f + x.length - 8 = f + x.length by omega, List.nil_append, List.drop_append_of_le_length (by rw [U8_length]; omega), U8_drop]
  rw [ht, hd]
  simp [rl, Sha.laid, U8_append]

/-- Block g is a running sum of the bytes l; so many are counted. -/
def RunAt (w : World) (g : Nat) (l : List Nat) (bytes : Nat) : Prop := ∃ s part fill, Sha.Holds l s part fill ∧ Has w g 126 (rl s part fill bytes)
/-- The value v is a slice that reads as the bytes l, outside block g. -/
def Sl (w : World) (g : Nat) (v : Value) (l : List Nat) : Prop :=
  ∃ (A : Option Addr) (c : Nat), v = .slice A l.length c ∧ l.length ≤ c ∧ c ≤ maxLen ∧ (0 < l.length → ∃ b o, A = some ⟨b, o, none⟩ ∧ b ≠ g ∧ b < w.heap.size ∧ w.rangeAt b o (U8 l))

def slen : Value → Nat
  | .slice _ n _ => n
  | _ => 0
theorem grown_set {w : World} {g : Nat} (_hg : g < w.heap.size) (i : Nat) (u : Value) : w.grownBy (w.setCell ⟨g, i, none⟩ u) (some g) :=
  ⟨rfl, rfl, rfl, by simp [World.setCell], fun k _ hne => Below.heap_setCell w _ u k (fun e => hne (by rw [e]))⟩
theorem grown_setRow {w : World} (g : Nat) (cs : Array Value) : w.grownBy (w.drew.setRow g cs) (some g) :=
  ⟨rfl, rfl, rfl, by simp [World.setRow], fun k _ hne => setRow_other w.drew g k cs (fun e => hne (by rw [e]))⟩
theorem range_far {w : World} {b o g : Nat} {cs : List Value} (h : w.rangeAt b o cs) (hne : b ≠ g) (i : Nat) (u : Value) : (w.setCell ⟨g, i, none⟩ u).rangeAt b o cs := fun j v hv => by
  rw [World.cell?_setCell_other w _ _ u (fun e => hne (by injection e with e1; exact e1.symm))]; exact h j v hv
theorem kept_far {w : World} {g : Nat} (h : Kept w) (hg : 0 < g) (i : Nat) (u : Value) : Kept (w.setCell ⟨g, i, none⟩ u) := fun j hj => by
  rw [World.cell?_setCell_other w _ _ u (fun e => by injection e with e1; omega)]; exact h j hj
theorem grown_trans' {a b c : World} {g : Nat} (h : a.grownBy b (some g)) (k : b.grownBy c (some g)) (_hg : g < b.heap.size) : a.grownBy c (some g) :=
  ⟨k.os.trans h.os, k.tape.trans h.tape, k.output.trans h.output, Nat.le_trans h.size k.size, fun i hi hne => (k.block i (Nat.lt_of_lt_of_le hi h.size) hne).trans (h.block i hi hne)⟩
theorem range_grown {w w' : World} {b o g : Nat} {cs : List Value} (h : w.rangeAt b o cs) (k : w.grownBy w' (some g)) (hne : b ≠ g) (hb : b < w.heap.size) : w'.rangeAt b o cs := fun j v hv => by
  rw [World.cell?_of_block (k.block b hb (fun e => hne (by injection e)))]; exact h j v hv
theorem kept_grown {w w' : World} {g : Nat} (h : Kept w) (k : w.grownBy w' (some g)) (hg : 0 < g) : Kept w' := fun j hj => by
  rw [World.cell?_of_block (k.block 0 h.pos (fun e => by injection e with e; omega))]; exact h j hj
/-- What stands behind a piece that was copied. -/
def TakeStep (w wr W : World) (g b o : Nat) (q2 : List Nat) : Prop := wr.grownBy W (some g) ∧ w.grownBy W (some g) ∧ W.rangeAt b o (U8 q2) ∧ Kept W ∧ b < W.heap.size
theorem takeStep_set {w wr W : World} {g b o : Nat} {q2 : List Nat} (h : TakeStep w wr W g b o q2) (hbg : b ≠ g) (hg : 0 < g) (hgs : g < W.heap.size) (i : Nat) (u : Value) : TakeStep w wr (W.setCell ⟨g, i, none⟩ u) g b o q2 :=
  ⟨grown_trans' h.1 (grown_set hgs _ _) hgs, grown_trans' h.2.1 (grown_set hgs _ _) hgs, range_far h.2.2.1 hbg _ _, kept_far h.2.2.2.1 hg _ _, by simpa [World.setCell] using h.2.2.2.2⟩
theorem takeStep_below {w wr W W' : World} {g b o : Nat} {q2 : List Nat} (h : TakeStep w wr W g b o q2) (hb : Below W.drew.heap.size W.drew W') (hgs : g < W.heap.size) (hbg : b ≠ g) (hg : 0 < g) : TakeStep w wr W' g b o q2 := by
  have k : W.grownBy W' (some g) := ⟨hb.os, hb.tape, hb.output, hb.size, fun i hi _ => hb.block i hi⟩
  exact ⟨grown_trans' h.1 k hgs, grown_trans' h.2.1 k hgs, range_grown h.2.2.1 k hbg h.2.2.2.2, kept_grown h.2.2.2.1 k hg, Nat.lt_of_lt_of_le h.2.2.2.2 k.size⟩
theorem grown_setCells {w : World} {g : Nat} (vs : List Value) (o : Nat) : w.grownBy (w.setCells g o vs) (some g) :=
  have hos : ∀ (vs : List Value) (o : Nat) (w : World), (w.setCells g o vs).os = w.os ∧ (w.setCells g o vs).tape = w.tape ∧ (w.setCells g o vs).output = w.output := by
    intro vs
    induction vs with
    | nil => intro o w; exact ⟨rfl, rfl, rfl⟩
    | cons v r ih => intro o w; rw [World.setCells]; exact ih (o + 1) (w.setCell ⟨g, o, none⟩ v)
  ⟨(hos vs o w).1, (hos vs o w).2.1, (hos vs o w).2.2, by rw [setCells_size]; exact Nat.le_refl _, fun k _ hne => setCells_heap_other g vs o w k (fun e => hne (by rw [e]))⟩
theorem takeStep_setCells {w wr W : World} {g b o : Nat} {q2 : List Nat} (h : TakeStep w wr W g b o q2) (hgs : g < W.heap.size) (hbg : b ≠ g) (hg : 0 < g) (vs : List Value) (i : Nat) : TakeStep w wr (W.setCells g i vs) g b o q2 := by
  have k : W.grownBy (W.setCells g i vs) (some g) := grown_setCells vs i
  exact ⟨grown_trans' h.1 k hgs, grown_trans' h.2.1 k hgs, range_grown h.2.2.1 k hbg h.2.2.2.2, kept_grown h.2.2.2.1 k hg, Nat.lt_of_lt_of_le h.2.2.2.2 k.size⟩
theorem sl_cut {V : World} {g b o c m : Nat} {q2 : List Nat} {Ad : Option Addr} (hV : V.rangeAt b o (U8 q2)) (hbg : b ≠ g) (hbV : b < V.heap.size) (hm1 : m ≤ q2.length) (hc1 : q2.length ≤ c) (hc2 : c ≤ maxLen)
    (hAd : (if c = m then some (⟨b, o, none⟩ : Addr) else some ⟨b, o + m, none⟩) = Ad) : Sl V g (.slice Ad (q2.length - m) (c - m)) (q2.drop m) := by
  refine ⟨Ad, c - m, by rw [List.length_drop], by rw [List.length_drop]; omega, by omega, fun h => ?_⟩
  rw [List.length_drop] at h
  rw [if_neg (by omega)] at hAd
  refine ⟨b, o + m, hAd.symm, hbg, hbV, fun j v hv => ?_⟩
  rw [← U8_drop, List.getElem?_drop] at hv
  rw [Nat.add_assoc]; exact hV _ v hv
def TakeRel (w : World) (g : Nat) (l q : List Nat) (N : Nat) (v : Value) (V : World) : Prop :=
  ∃ q1 q2, q = q1 ++ q2 ∧ Sl V g v q2 ∧ RunAt V g (l ++ q1) N ∧ w.grownBy V (some g) ∧ Kept V

set_option maxRecDepth 100000 in
set_option maxHeartbeats 1000000 in
theorem take_any (g n : Nat) (l q : List Nat) (v : Value) (w : World) (hr : RunAt w g l n) (hv : Sl w g v q) (hq : Sha.Bytes q) (hk : Kept w) (hg : 0 < g) (hn : n + q.length < 1152921504606846976) :
    Calls Tryd.prog 69 #[.pointer (some ⟨g, 0, none⟩), v] w fun e w' => e = .returned (.tuple #[]) ∧ RunAt w' g (l ++ q) (n + q.length) ∧ w.grownBy w' (some g) := by
  obtain ⟨s, part, fill, hh, hb⟩ := hr
  obtain ⟨A, c, rfl, hc1, hc2, hA⟩ := hv
  have c73 : w.cell? ⟨g, 73, none⟩ = some (.int .u64 (n : Int)) := by rw [hb.cell, rl_bytes hh.len]
  have f73 := hb.open_ 73
  have HN := Lib.hid hn
  have HA := Lib.hid hA
  have HB := Lib.hid hb
  have HH := Lib.hid hh
  obtain ⟨N, hNe⟩ : ∃ N, N = n + q.length := ⟨_, rfl⟩
  have hw : IntKind.u64.wrap ((n : Int) + IntKind.u64.wrap (q.length : Int)) = (N : Int) := by rw [IntKind.wrap_u64, IntKind.wrap_u64]; omega
  have HNe := Lib.hid hNe
  have HK := Lib.hid hk
  have HC := Lib.hid (And.intro hc1 hc2)
  clear hn hA hb hh hNe hk hc1 hc2
  go_enter Tryd.func69, Tryd.ntmps69
  go_wp2
  have hstart : TakeRel w g l q N (.slice A q.length c) (w.setCell ⟨g, 73, none⟩ (.int .u64 (N : Int))) := by
    refine ⟨[], q, rfl, ⟨A, c, rfl, HC.out.1, HC.out.2, fun h => ?_⟩, ⟨s, part, fill, by simpa using HH.out, ?_⟩, grown_set (HB.out.lt) _ _, ?_⟩
    · obtain ⟨b, o, rfl, hbg, hbs, hra⟩ := HA.out h
      exact ⟨b, o, rfl, hbg, by simpa [World.setCell] using hbs, range_far hra hbg _ _⟩
    · have := HB.out.set_ 73 (.int .u64 (N : Int))
      rw [rl_set_bytes HH.out.len] at this
      exact this
    · exact kept_far HK.out hg _ _
  have HS := Lib.hid hstart
  clear hstart HC HA HB HH HK hw c73 f73
  go_loopw [1] (fun v V => TakeRel w g l q N v V) (fun v _ => slen v)
  case atStart => exact HS.out
  case round =>
    clear HS
    obtain ⟨q1, q2, hqe, ⟨A, c, rfl, hc1, hc2, hA⟩, ⟨s, part, fill, hh, hb⟩, hgr, hkw⟩ := hrel
    have HQ := Lib.hid hqe
    have HH := Lib.hid hh
    have HB := Lib.hid hb
    have HG := Lib.hid hgr
    have HK := Lib.hid hkw
    clear hqe hh hb hgr hkw
    by_cases hlt : 0 < q2.length
    · obtain ⟨b, o, rfl, hbg, hbs, hra⟩ := hA hlt
      have HR := Lib.hid hra
      clear hra hA
      have hf64 : fill < 64 := by have := HH.out.fil; omega
      have fne : ¬ (64 = fill) := by omega
      have f1 : (fill : Int) < 64 := by omega
      have f2 : (fill : Int) ≤ 64 := by omega
      have f3 : fill ≤ 64 := by omega
      have c72 : wr.cell? ⟨g, 72, none⟩ = some (.int .i64 (fill : Int)) := by rw [HB.out.cell, rl_fill HH.out.len]
      go_wp2
      go_still_tail 9, (by kernel_rfl)
      change wpList _ _ _ _ _ wr.drew
      obtain ⟨m, hm⟩ : ∃ m, m = Nat.min q2.length (64 - fill) := ⟨_, rfl⟩
      have hm1 : m ≤ q2.length := by rw [hm]; exact Nat.min_le_left _ _
      have hm2 : m ≤ 64 - fill := by rw [hm]; exact Nat.min_le_right _ _
      have hxl : (q2.take m).length = m := by rw [List.length_take]; omega
      refine wpList_copy_own rfl (.tmp 25) (.tmp 26) 45 45 rfl 5 und27 (by kernel_rfl) g (8 + fill) (64 - fill) (64 - fill) ⟨b, o, none⟩ q2.length c rfl rfl (rl s part fill N).toArray 126 HB.out.drew (U8 (q2.take m)) (by rw [U8_length, hxl, hm]) (fun j v hv => ?_) (by rw [U8_length, hxl, List.size_toArray, rl_length HH.out.len]; omega) (U8_one _) ?_
      · rw [Addr.add_mid]
        refine HR.out j v ?_
        simp only [U8, List.map_take] at hv ⊢
        rw [List.getElem?_take] at hv
        split at hv
        · exact hv
        · cases hv
      have hN := setRow_heap wr.drew g (rl s part fill N).toArray (rl s (Sha.laid part fill (q2.take m)) fill N).toArray 126 (0, 0) HB.out.drew
      rw [List.toList_toArray, rl_lay HH.out.len (by rw [hxl]; omega)]
      have hgr2 : wr.grownBy (wr.drew.setRow g (rl s (Sha.laid part fill (q2.take m)) fill N).toArray) (some g) := grown_setRow _ _
      have hgo : goInt (U8 (q2.take m)).length = .int .i64 (m : Int) := by rw [U8_length, hxl]; rfl
      rw [hgo]
      generalize wr.drew.setRow g (rl s (Sha.laid part fill (q2.take m)) fill N).toArray = W at *
      have HW : Hid (Has W g 126 (rl s (Sha.laid part fill (q2.take m)) fill N)) := hN
      have hlen : (Sha.laid part fill (q2.take m)).length = 64 := Sha.laid_length HH.out.len (by rw [hxl]; omega)
      have HL := Lib.hid hlen
      have hqb : Sha.Bytes q2 := fun y hy => hq y (by rw [HQ.out]; exact List.mem_append_right _ hy)
      have hsg : g < wr.heap.size := HB.out.lt
      have HS : Hid (TakeStep w wr W g b o q2) := ⟨hgr2, grown_trans' HG.out hgr2 hsg, range_grown HR.out hgr2 hbg hbs, kept_grown HK.out hgr2 (by omega), Nat.lt_of_lt_of_le hbs hgr2.size⟩
      have HX := Lib.hid hxl
      have HM := Lib.hid hm
      clear hN hgr2 hgo HR HB HG HK hlen hxl c72 hm
      have d72 : W.cell? ⟨g, 72, none⟩ = some (.int .i64 (fill : Int)) := by rw [HW.out.cell, rl_fill HL.out]
      have e72 := HW.out.open_ 72
      have m0 : 0 < m := by have := HM.out; rw [this]; simp only [Nat.lt_min]; omega
      have i1 : (m : Int) ≤ q2.length := by omega
      have i2 : (m : Int) ≤ c := by omega
      obtain ⟨Ad, hAd⟩ : ∃ Ad, (if c = m then some (⟨b, o, none⟩ : Addr) else some ⟨b, o + m, none⟩) = Ad := ⟨_, rfl⟩
      have hsl : ∀ V : World, V.rangeAt b o (U8 q2) → b < V.heap.size → Sl V g (.slice Ad (q2.length - m) (c - m)) (q2.drop m) := fun V hV hbV => sl_cut hV hbg hbV hm1 hc1 hc2 hAd
      have HSl := Lib.hid hsl
      clear hsl
      by_cases hfull : fill + m = 64
      · have t1 : (((fill : Int) + (m : Int)) == 64) = true := beq_iff_eq.2 (by omega)
        go_wp2
        have hm72 : Has (W.setCell ⟨g, 72, none⟩ (.int .i64 ((fill : Int) + (m : Int)))) g 126 (rl s (Sha.laid part fill (q2.take m)) (fill + m) N) := by
          have := HW.out.set_ 72 (.int .i64 ((fill + m : Nat) : Int))
          rw [rl_set_fill HL.out] at this
          simpa using this
        have hms : TakeStep w wr (W.setCell ⟨g, 72, none⟩ (.int .i64 ((fill : Int) + (m : Int)))) g b o q2 := takeStep_set HS.out hbg hg (HW.out.lt) _ _
        have HW1 := Lib.hid hm72
        have HS1 := Lib.hid hms
        clear hm72 hms HW HS d72 e72 t1
        generalize W.setCell ⟨g, 72, none⟩ (.int .i64 ((fill : Int) + (m : Int))) = W1 at *
        have HF := Lib.hid (HH.out.full (hqb.take m) (by rw [HX.out]; exact hfull))
        have hS : W1.drew.rangeAt g 8 (U8 (Sha.laid part fill (q2.take m))) := rl_part HL.out ▸ HW1.out.drew.range 8 64
        refine wp_region_held (S := fun w' => w'.rangeAt g 8 (U8 (Sha.laid part fill (q2.take m)))) (by kernel_rfl) ?_
        change wpAnyH _ _ _ _ _ _ _ _ W1.drew
        refine held_take 0 (some 44) (v := .pointer (some ⟨g, 0, none⟩)) rfl rfl (by kernel_rfl) (by kernel_rfl) (by kernel_rfl) (fun _ _ _ h => h) (Or.inl ⟨by rfl, fun _ _ => by go_simp⟩) hS ?_
        go_frame
        refine held_take 1 (some 45) (v := .pointer (some ⟨g, 0, none⟩)) rfl rfl (by kernel_rfl) (by kernel_rfl) (by kernel_rfl) (fun _ _ _ h => h) (Or.inl ⟨by rfl, fun _ _ => by go_simp⟩) hS ?_
        go_frame
        refine held_take 5 (some 49) (v := .pointer (some ⟨g, 0, none⟩)) rfl rfl (by kernel_rfl) (by kernel_rfl) (by kernel_rfl) (fun _ _ _ h => h) (Or.inl ⟨by rfl, fun _ _ => by go_simp⟩) hS ?_
        go_frame
        refine held_take 2 (some 46) (v := .pointer (some ⟨g, 0, none⟩)) rfl rfl (by kernel_rfl) (by kernel_rfl) (by kernel_rfl) (fun _ _ _ h => h) (Or.inl ⟨by rfl, fun _ _ => by go_simp⟩) hS ?_
        go_frame
        refine held_take 6 (some 50) (v := .pointer (some ⟨g, 0, none⟩)) rfl rfl (by kernel_rfl) (by kernel_rfl) (by kernel_rfl) (fun _ _ _ h => h) (Or.inl ⟨by rfl, fun _ _ => by go_simp⟩) hS ?_
        go_frame
        refine held_take 3 (some 47) (v := .pointer (some ⟨g, 0, none⟩)) rfl rfl (by kernel_rfl) (by kernel_rfl) (by kernel_rfl) (fun _ _ _ h => h) (Or.inl ⟨by rfl, fun _ _ => by go_simp⟩) hS ?_
        go_frame
        refine held_take 7 (some 51) (v := .pointer (some ⟨g, 8, none⟩)) rfl rfl (by kernel_rfl) (by kernel_rfl) (by kernel_rfl) (fun _ _ _ h => h) (Or.inl ⟨by rfl, fun _ _ => by go_simp⟩) hS ?_
        go_frame
        refine held_take 8 (some 52) rfl rfl (by kernel_rfl) (by kernel_rfl) (by kernel_rfl) (fun _ _ _ h => h) (yieldsIf_load_mid (by rfl) 124 (.tmp 51) rfl g 8 rfl (U8 (Sha.laid part fill (q2.take m))) (.array 64 5) (fun _ h => h) und63 rfl (by rw [U8_length, HL.out]; kernel_rfl)) hS ?_
        go_frame
        refine held_one 4 (some 48) rfl rfl (by kernel_rfl) (by rfl) (fun K hK => ?_)
        refine wp_load_mid 122 (.tmp 47) rfl g 0 rfl (U32 s.list) (.array 8 117) (rl_now ▸ HW1.out.drew.range 0 8) und62 rfl (by kernel_rfl) ?_
        refine hK _ _ hS ?_
        clear hK K
        go_frame
        refine held_one 9 (some 53) rfl rfl (by kernel_rfl) (by rfl) (fun K hK => ?_)
        go_simp
        refine (behind_any s _ HH.out.ok (Sha.laid_bytes HH.out.byt (hqb.take m)) HL.out _ (show Kept W1.drew from HS1.out.2.2.2.1)).mono ?_
        rintro e w2 ⟨rfl, hb2⟩
        generalize Sha.compress s (Sha.laid part fill (q2.take m)) = s2 at *
        have HW2 := Lib.hid (HW1.out.drew.below hb2 HW1.out.lt)
        have hS2 := takeStep_below HS1.out hb2 HW1.out.lt hbg hg
        have HS2 := Lib.hid hS2
        clear hb2 hS2 hS
        have hS : w2.rangeAt g 8 (U8 (Sha.laid part fill (q2.take m))) := rl_part HL.out ▸ HW2.out.range 8 64
        refine hK _ _ hS ?_
        clear hK K HW1 HS1
        go_frame
        refine held_take 10 (some 54) (v := .pointer (some ⟨g, 0, none⟩)) rfl rfl (by kernel_rfl) (by kernel_rfl) (by kernel_rfl) (fun _ _ _ h => h) (Or.inl ⟨by rfl, fun _ _ => by go_simp⟩) hS ?_
        go_frame
        refine held_take 11 (some 55) (v := .pointer (some ⟨g, 0, none⟩)) rfl rfl (by kernel_rfl) (by kernel_rfl) (by kernel_rfl) (fun _ _ _ h => h) (Or.inl ⟨by rfl, fun _ _ => by go_simp⟩) hS ?_
        go_frame
        have hsz : (U32 s2.list).toArray.size = 8 := by simp [Sha.St.list]
        refine held_one 12 none rfl rfl (by kernel_rfl) (by rfl) (fun K hK => ?_)
        refine wp_store_mid 122 (.tmp 55) (.tmp 53) rfl g 0 (U32 s2.list).toArray rfl rfl (by rw [hsz]; exact HW2.out.there_ 0 8 (by rw [rl_length HL.out]; omega)) (by rw [hsz]; exact size62') (all_oneCell_toArray (U32_one _)) ?_
        refine hK _ _ (World.rangeAt_setCells_apart hS g 0 _ (by simp [Sha.St.list])) ?_
        clear hK K hS hsz
        rw [List.toList_toArray]
        refine wpAnyH_done (by kernel_rfl) ?_ _
        have HW3 := Lib.hid (HW2.out.setCells (U32 s2.list) 0)
        have HS3 := Lib.hid (takeStep_setCells HS2.out HW2.out.lt hbg hg (U32 s2.list) 0)
        generalize w2.setCells g 0 (U32 s2.list) = W3 at *
        rw [rl_over] at HW3
        clear HW2 HS2
        have d72 : W3.cell? ⟨g, 72, none⟩ = some (.int .i64 ((fill + m : Nat) : Int)) := by rw [HW3.out.cell, rl_fill HL.out]
        have e72 := HW3.out.open_ 72
        go_wp2
        refine ⟨⟨q1 ++ q2.take m, q2.drop m, ?_, ?_, ?_, ?_, ?_⟩, by simp [slen]; omega⟩
        · rw [List.append_assoc, List.take_append_drop]; exact HQ.out
        · exact HSl.out _ (range_far HS3.out.2.2.1 hbg _ _) (by simpa [World.setCell] using HS3.out.2.2.2.2)
        · refine ⟨s2, Sha.laid part fill (q2.take m), 0, ?_, ?_⟩
          · rw [← List.append_assoc]; exact HF.out
          · have := HW3.out.set_ 72 (.int .i64 ((0 : Nat) : Int))
            rw [rl_set_fill HL.out] at this
            exact this
        · exact grown_trans' HS3.out.2.1 (grown_set HW3.out.lt _ _) HW3.out.lt
        · exact kept_far HS3.out.2.2.2.1 hg _ _
      · have t1 : (((fill : Int) + (m : Int)) == 64) = false := beq_eq_false_iff_ne.2 (by omega)
        go_wp2
        refine ⟨⟨q1 ++ q2.take m, q2.drop m, ?_, ?_, ?_, ?_, ?_⟩, by simp [slen]; omega⟩
        · rw [List.append_assoc, List.take_append_drop]; exact HQ.out
        · exact HSl.out _ (range_far HS.out.2.2.1 hbg _ _) (by simpa [World.setCell] using HS.out.2.2.2.2)
        · refine ⟨s, Sha.laid part fill (q2.take m), fill + m, ?_, ?_⟩
          · rw [← List.append_assoc]
            have := HH.out.more (hqb.take m) (by rw [HX.out]; omega)
            rw [HX.out] at this
            exact this
          · have := HW.out.set_ 72 (.int .i64 ((fill + m : Nat) : Int))
            rw [rl_set_fill HL.out] at this
            simpa using this
        · exact grown_trans' HS.out.2.1 (grown_set HW.out.lt _ _) HW.out.lt
        · exact kept_far HS.out.2.2.2.1 hg _ _
    · obtain rfl : q2 = [] := List.eq_nil_of_length_eq_zero (by omega)
      clear hA hlt
      go_wp2
      go_end0
      refine ⟨rfl, ?_, HG.out⟩
      rw [← HNe.out, HQ.out, List.append_nil]
      exact ⟨s, part, fill, HH.out, HB.out⟩

end Go.Proofs.YtooeahpkhocaeaaDoor
