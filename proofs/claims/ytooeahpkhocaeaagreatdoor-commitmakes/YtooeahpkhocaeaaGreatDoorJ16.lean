/- A region that draws its order, each of its operations looked at ONCE: what a slot holds is a relation that is kept by what only adds to memory. Conditions: every operation has a slot of its own, and waits for earlier ones alone. -/
import Derived.Test.YtooeahpkhocaeaaGreatDoorJ05
import Derived.OrdersHeld
import Derived.Test.YtooeahpkhocaeaaGreatDoorJ08
namespace Go.Proofs.YtooeahpkhocaeaaGreatDoor
open Go.RowKit


section
variable {P : Program} {md : Region.Mode} {ops : Array Oper} {Q : Exit → Act → World → Prop} {S : World → Prop}
/-- The operation leaves a value of which R is true, and adds to memory alone. -/
def Makes (P : Program) (ops : Array Oper) (Q : Exit → Act → World → Prop) (o : Oper) (d : Tmp) (R : Value → World → Prop) (b : Act) (w : World) : Prop :=
  Region.wanted o (yielded ops b.tmps) = true ∧ ∀ K : Act → World → Prop, (∀ v w', Below w.heap.size w w' → R v w' → K (b.put (some d) v) w') → o.wp P b w K Q
theorem Makes.wpOp {i : Nat} {o : Oper} {d : Tmp} {R : Value → World → Prop} {b : Act} {w : World} (h : Makes P ops Q o d R b w) (hi : ops[i]? = some o) {K : Act → World → Prop}
    (hK : ∀ v w', Below w.heap.size w w' → R v w' → K (b.put (some d) v) w') : wpOp P ops Q i K b w := by
  unfold Go.wpOp
  simp only [hi, h.1, if_true]
  exact .inl (h.2 K hK)
end
theorem countP_lt {p q : Nat → Bool} : ∀ (l : List Nat) (x : Nat), x ∈ l → (∀ y, q y = true → p y = true) → p x = true → q x = false → l.countP q < l.countP p
  | [], _, h, _, _, _ => by cases h
  | y :: l, x, h, hi, hp, hq => by
    have hle : l.countP q ≤ l.countP p := List.countP_mono_left fun y _ => hi y
    rw [List.countP_cons, List.countP_cons]
    rcases List.mem_cons.1 h with rfl | h
    · rw [hp, hq]; simp; omega
    · have ih := countP_lt l x h hi hp hq
      cases hqy : q y with
      | false => simp; omega
      | true => rw [hi y hqy]; simp; omega
section
variable {P : Program} {md : Region.Mode} {ops : Array Oper} {Q : Exit → Act → World → Prop} {S : World → Prop}
/-- What holds when 'listed' have come up. -/
structure So (S : World → Prop) (R : Nat → Value → World → Prop) (D : Nat → Tmp) (n : Nat) (a0 : Act) (listed : Array Bool) (a : Act) (w : World) : Prop where
  size : listed.size = n
  S : S w
  tmps : a.tmps.size = a0.tmps.size
  defers : a.defers = a0.defers
  has : ∀ i, i < n → listed.getD i true = true → R i (a.tmps.getD (D i) undef) w
  old : ∀ d, (∀ i, i < n → listed.getD i true = true → D i ≠ d) → a.tmps.getD d undef = a0.tmps.getD d undef
theorem ready_nil (hord : ∀ (i : Nat) (o : Oper), ops[i]? = some o → o.after.all (fun e => decide (e.on < i)) = true) {listed : Array Bool} (hs : listed.size = ops.size) (h : Region.ready md ops listed = []) : ∀ i, i < ops.size → listed.getD i true = true := by
  intro i
  induction i using Nat.strongRecOn with
  | _ i ih =>
    intro hi
    by_cases hl : listed.getD i true = true
    · exact hl
    · exfalso
      have hm : i ∈ Region.ready md ops listed := by
        rw [mem_ready]
        refine ⟨by simpa using hl, ops[i], Array.getElem?_eq_getElem hi, fun e he _ => ?_⟩
        have hlt : e.on < i := by
          have := hord i _ (Array.getElem?_eq_getElem hi)
          rw [Array.all_eq_true_iff_forall_mem] at this
          simpa using this e he
        have := ih e.on hlt (by omega)
        have hb : e.on < listed.size := by omega
        simpa [hb] using this
      rw [h] at hm
      cases hm
theorem held_all (R : Nat → Value → World → Prop) (D : Nat → Tmp) (a0 : Act) (hinj : ∀ i j, i < ops.size → j < ops.size → D i = D j → i = j) (hlt : ∀ i, i < ops.size → D i < a0.tmps.size)
    (hord : ∀ (i : Nat) (o : Oper), ops[i]? = some o → o.after.all (fun e => decide (e.on < i)) = true)
    (mono : ∀ i v w w', R i v w → Below w.heap.size w w' → R i v w') (kS : ∀ w w', S w → Below w.heap.size w w' → S w')
    (step : ∀ (listed : Array Bool) (a : Act) (w : World) (i : Nat) (o : Oper), So S R D ops.size a0 listed a w → ops[i]? = some o → (∀ e ∈ o.after, Region.binds md e = true → listed.getD e.on false = true) → Makes P ops Q o (D i) (R i) a w)
    (fin : ∀ (listed : Array Bool) (a : Act) (w : World), So S R D ops.size a0 listed a w → (∀ i, i < ops.size → listed.getD i true = true) → Q .normal a w) :
    ∀ (fuel : Nat) (listed : Array Bool) (a : Act) (w : World), So S R D ops.size a0 listed a w → (List.range ops.size).countP (fun i => !listed.getD i true) ≤ fuel → wpAnyH P md ops Q S fuel listed a w := by
  intro fuel
  induction fuel with
  | zero =>
    intro listed a w hs hc
    have hall : ∀ i, i < ops.size → listed.getD i true = true := fun i hi => by
      have := List.countP_eq_zero.1 (Nat.le_zero.1 hc) i (List.mem_range.2 hi)
      simpa using this
    refine ⟨?_, fin listed a w hs hall⟩
    apply List.eq_nil_iff_forall_not_mem.2
    intro j hj
    obtain ⟨h0, o, ho, _⟩ := mem_ready.1 hj
    have hjs : j < ops.size := (Array.getElem?_eq_some_iff.1 ho).1
    rw [hall j hjs] at h0
    cases h0
  | succ fuel ih =>
    intro listed a w hs hc
    refine ⟨fun h => fin listed a w hs (ready_nil hord hs.size h), fun i hi => ?_⟩
    obtain ⟨h0, o, ho, hdeps⟩ := mem_ready.1 hi
    have his : i < ops.size := (Array.getElem?_eq_some_iff.1 ho).1
    refine (step listed a w i o hs ho hdeps).wpOp ho (fun v w' hb hR => ⟨kS w w' hs.S hb, ?_⟩)
    have hget : ∀ j, (listed.setIfInBounds i true).getD j true = if i = j then true else listed.getD j true := fun j => by
      by_cases hij : i = j
      · subst hij
        rw [if_pos rfl]
        simp [hs.size, his]
      · rw [if_neg hij, getD_set_ne true hij]
    apply ih
    · refine ⟨by simp [hs.size], kS w w' hs.S hb, by simp [Act.put, hs.tmps], hs.defers, fun j hj hl => ?_, fun d hd => ?_⟩
      · rw [hget] at hl
        by_cases hij : i = j
        · subst hij
          have : D i < a.tmps.size := by rw [hs.tmps]; exact hlt i his
          simpa [Act.put, this] using hR
        · rw [if_neg hij] at hl
          have hne : D i ≠ D j := fun e => hij (hinj i j his hj e)
          have := mono _ _ _ _ (hs.has j hj hl) hb
          simpa [Act.put, Array.getElem?_setIfInBounds_ne hne] using this
      · have hdi : D i ≠ d := hd i his (by rw [hget, if_pos rfl])
        have := hs.old d (fun j hj hl => hd j hj (by rw [hget]; split; rfl; exact hl))
        simpa [Act.put, Array.getElem?_setIfInBounds_ne hdi] using this
    · have := countP_lt (p := fun j => !listed.getD j true) (q := fun j => !(listed.setIfInBounds i true).getD j true) (List.range ops.size) i (List.mem_range.2 his) (fun y hy => by
          simp only [hget] at hy
          split at hy
          · simp at hy
          · exact hy) (by simp only [h0]; rfl) (by simp only [hget, if_true]; rfl)
      omega
theorem held_all0 (R : Nat → Value → World → Prop) (D : Nat → Tmp) {a0 : Act} {w : World} (hinj : ∀ i j, i < ops.size → j < ops.size → D i = D j → i = j) (hlt : ∀ i, i < ops.size → D i < a0.tmps.size)
    (hord : ∀ (i : Nat) (o : Oper), ops[i]? = some o → o.after.all (fun e => decide (e.on < i)) = true)
    (mono : ∀ i v w w', R i v w → Below w.heap.size w w' → R i v w') (kS : ∀ w w', S w → Below w.heap.size w w' → S w') (hS : S w)
    (step : ∀ (listed : Array Bool) (a : Act) (w : World) (i : Nat) (o : Oper), So S R D ops.size a0 listed a w → ops[i]? = some o → (∀ e ∈ o.after, Region.binds md e = true → listed.getD e.on false = true) → Makes P ops Q o (D i) (R i) a w)
    (fin : ∀ (listed : Array Bool) (a : Act) (w : World), So S R D ops.size a0 listed a w → (∀ i, i < ops.size → listed.getD i true = true) → Q .normal a w) :
    wpAnyH P md ops Q S ops.size (Array.replicate ops.size false) a0 w :=
  held_all R D a0 hinj hlt hord mono kS step fin _ _ _ _ ⟨by simp, hS, rfl, rfl, fun i hi h => by simp [hi] at h, fun _ _ => rfl⟩ (by have := List.countP_le_length (p := fun i => !(Array.replicate ops.size false).getD i true) (l := List.range ops.size); simpa using this)
end
end Go.Proofs.YtooeahpkhocaeaaGreatDoor
/- The contract of the document's own Num. Conditions: a number of 64 bits. -/
namespace Go.Proofs.YtooeahpkhocaeaaGreatDoor
open Go.RowKit

theorem S_append (a b : List Nat) : S (a ++ b) = S a ++ S b := by
  unfold S
  apply ByteArray.ext
  rw [ByteArray.data_append]
  simp
theorem conv_has {w : World} {b : Nat} {x : List Nat} (h : Has w b 5 (U8 x)) (c : Nat) : Sem.run Tryz.prog (convert 65 9 (.slice (some ⟨b, 0, none⟩) x.length c)) w = .ok (.string (S x)) w := by
  have := run_convert_bytes_arg (P := Tryz.prog) (w := w) 65 5 und59 (by kernel_rfl) b 0 x.length c (x.map fun n : Nat => (n : Int)) (by simp) (fun i hi => by
    rw [Nat.zero_add, h.cell, U8_get hi]
    simp [hi]) 9 und9
  rw [this]
  simp [strOfNums, S]
def DN (i : Nat) : Tmp := if i = 10 then 2 else 9 + i
def RN (n x y z : Nat) (rest : List Nat) (i : Nat) (v : Value) (w' : World) : Prop :=
  match i with
  | 0 | 6 => v = .int .u64 (n : Int)
  | 1 => v = .int .u64 (y : Int)
  | 2 => v = .int .u64 (x : Int)
  | 3 => v = .int .u8 (x : Int)
  | 4 => ∃ b, v = .slice (some ⟨b, 0, none⟩) 1 1 ∧ Has w' b 5 (U8 [x])
  | 5 => v = .string (S [x])
  | 7 => v = .int .u64 (z : Int)
  | 8 => v = .string (S rest)
  | _ => v = .string (S (x :: rest))
theorem getD_tt {l : Array Bool} {j : Nat} (h : l.getD j false = true) : l.getD j true = true := by
  by_cases hj : j < l.size
  · simpa [hj] using h
  · simp [hj] at h
theorem DN_inj (i j : Nat) (hi : i < 11) (hj : j < 11) (h : DN i = DN j) : i = j := by
  have : ∀ i : Fin 11, ∀ j : Fin 11, DN i.val = DN j.val → i = j := by decide
  simpa using this ⟨i, hi⟩ ⟨j, hj⟩ h
theorem DN_lt (i : Nat) (hi : i < 11) : DN i < 19 := by
  have : ∀ i : Fin 11, DN i.val < 19 := by decide
  exact this ⟨i, hi⟩
theorem DN_old (i : Nat) (hi : i < 11) : DN i ≠ 0 := by
  have : ∀ i : Fin 11, DN i.val ≠ 0 := by decide
  exact this ⟨i, hi⟩
theorem ord_of {ops : Array Oper} (h : (List.range ops.size).all (fun i => match ops[i]? with | some o => o.after.all (fun e => decide (e.on < i)) | none => true) = true) : ∀ (i : Nat) (o : Oper), ops[i]? = some o → o.after.all (fun e => decide (e.on < i)) = true := fun i o ho => by
  have := List.all_eq_true.1 h i (List.mem_range.2 (Array.getElem?_eq_some_iff.1 ho).1)
  simpa only [ho] using this
theorem RN_mono (n x y z : Nat) (rest : List Nat) (i : Nat) (v : Value) (w w' : World) (h : RN n x y z rest i v w) (k : Below w.heap.size w w') : RN n x y z rest i v w' := by
  unfold RN at *
  split at h <;> first
    | exact h
    | (obtain ⟨b, e, h⟩ := h; exact ⟨b, e, Has.below h k h.lt⟩)
set_option maxRecDepth 100000 in
set_option maxHeartbeats 1000000 in
theorem refNum_any (n : Nat) : ∀ (w : World), n < 18446744073709551616 → Calls Tryz.prog 50 #[.int .u64 (n : Int)] w fun e w' => e = .returned (.string (S (Wire.num n))) ∧ Below w.heap.size w w' := by
  induction n using Nat.strongRecOn with
  | _ n ih =>
    intro w hn
    by_cases hlt : n < 128
    · have hx : (n : Int) % 256 = (n : Int) := by omega
      have hc := conv_has (Has.new w 5 (U8 [n])) 1
      rw [show (U8 [n]).toArray = #[Value.int .u8 (n : Int)] from rfl] at hc
      change Sem.run Tryz.prog (convert 65 9 (.slice (some ⟨w.heap.size, 0, none⟩) 1 1)) _ = _ at hc
      have HE := Lib.hid (Wire.num_lt hlt)
      clear ih
      go_enter Tryz.func50, Tryz.ntmps50
      go_wp2
      go_ret
      exact ⟨by rw [HE.out]; rfl, (Below.refl _ _).alloc (Nat.le_refl _) _⟩
    · have HIh := Lib.hid (fun w => ih (n / 128) (by omega) w (by omega))
      have HE := Lib.hid (Wire.num_ge hlt)
      clear ih
      obtain ⟨x, hx⟩ : ∃ x, x = n % 128 + 128 := ⟨_, rfl⟩
      have hx2 : x < 256 := by omega
      rw [← hx] at HE
      have hlen : (Wire.num (n / 128)).length ≤ 10 := Wire.num_len10 _ (by omega)
      have HLen := Lib.hid hlen
      clear hlen
      obtain ⟨y, hy⟩ : ∃ y, y = n % 128 := ⟨_, rfl⟩
      have hx4 : (n : Int) % 128 = (y : Int) := by omega
      have hxy : (y : Int) + 128 = (x : Int) := by omega
      have hw1 : IntKind.u64.wrap (x : Int) = (x : Int) := by simp [IntKind.wrap, IntKind.signed, IntKind.bits]; omega
      have hw2 : IntKind.u8.wrap (x : Int) = (x : Int) := by simp [IntKind.wrap, IntKind.signed, IntKind.bits]; omega
      have hw3 : (n : Int).tmod 128 = (y : Int) := by rw [Int.tmod_eq_emod_of_nonneg (by omega)]; omega
      generalize hz : n / 128 = z at *
      have hx5 : (n : Int) / 128 = (z : Int) := by omega
      have hw4 : (n : Int).tdiv 128 = (z : Int) := by rw [Int.tdiv_eq_ediv_of_nonneg (by omega)]; omega
      have hw5 : IntKind.u64.wrap (z : Int) = (z : Int) := by simp [IntKind.wrap, IntKind.signed, IntKind.bits]; omega
      clear hx hy hz
      generalize Wire.num z = rest at *
      go_enter Tryz.func50, Tryz.ntmps50
      go_wp2_with fail
      refine wp_region_held (S := fun w' => Below w.heap.size w w') (by kernel_rfl) ?_
      refine held_all0 (RN n x y z rest) DN ?inj ?lt ?ord (RN_mono n x y z rest) (fun w1 w2 h k => h.trans (k.mono h.size)) (Below.refl _ _).drew ?step ?fin
      case inj => exact fun i j hi hj h => DN_inj i j hi hj h
      case lt => exact fun i hi => DN_lt i hi
      case ord => exact ord_of (by kernel_rfl)
      case step =>
        intro listed a w5 i o hs ho hdeps
        have z0 : a.tmps[0]?.getD undef = .int .u64 (n : Int) := by simpa using hs.old 0 (fun i hi _ => DN_old i hi)
        have dep : ∀ j, j < 11 → listed.getD j false = true → RN n x y z rest j (a.tmps[DN j]?.getD undef) w5 := fun j hj h => by simpa using hs.has j hj (getD_tt h)
        clear hs
        match i, ho with
        | 0, ho =>
          obtain rfl := Option.some.inj ho
          clear dep hdeps
          refine ⟨by rfl, fun K hK => ?_⟩
          go_simp
          exact hK _ _ (Below.refl _ _) rfl
        | 1, ho =>
          obtain rfl := Option.some.inj ho
          have r0 := dep 0 (by omega) (hdeps ⟨0, .data⟩ (by simp) (by rfl))
          change a.tmps[9]?.getD undef = .int .u64 (n : Int) at r0
          clear dep hdeps
          refine ⟨by rfl, fun K hK => ?_⟩
          go_simp
          exact hK _ _ (Below.refl _ _) rfl
        | 2, ho =>
          obtain rfl := Option.some.inj ho
          have r1 := dep 1 (by omega) (hdeps ⟨1, .data⟩ (by simp) (by rfl))
          change a.tmps[10]?.getD undef = .int .u64 (y : Int) at r1
          clear dep hdeps
          refine ⟨by rfl, fun K hK => ?_⟩
          go_simp
          exact hK _ _ (Below.refl _ _) rfl
        | 3, ho =>
          obtain rfl := Option.some.inj ho
          have r2 := dep 2 (by omega) (hdeps ⟨2, .data⟩ (by simp) (by rfl))
          change a.tmps[11]?.getD undef = .int .u64 (x : Int) at r2
          clear dep hdeps
          refine ⟨by rfl, fun K hK => ?_⟩
          go_simp
          exact hK _ _ (Below.refl _ _) rfl
        | 4, ho =>
          obtain rfl := Option.some.inj ho
          have r3 := dep 3 (by omega) (hdeps ⟨3, .data⟩ (by simp) (by rfl))
          change a.tmps[12]?.getD undef = .int .u8 (x : Int) at r3
          clear dep hdeps
          refine ⟨by rfl, fun K hK => ?_⟩
          go_simp
          exact hK _ _ ((Below.refl _ _).alloc (Nat.le_refl _) _) ⟨_, rfl, Has.new _ _ _⟩
        | 5, ho =>
          obtain rfl := Option.some.inj ho
          have r4 := dep 4 (by omega) (hdeps ⟨4, .data⟩ (by simp) (by rfl))
          change ∃ b, a.tmps[13]?.getD undef = .slice (some ⟨b, 0, none⟩) 1 1 ∧ Has w5 b 5 (U8 [x]) at r4
          obtain ⟨b, e4, h4⟩ := r4
          have hcv : Sem.run Tryz.prog (convert 65 9 (.slice (some ⟨b, 0, none⟩) 1 1)) w5 = .ok (.string (S [x])) w5 := conv_has h4 1
          clear dep hdeps h4
          refine ⟨by rfl, fun K hK => ?_⟩
          go_simp
          exact hK _ _ (Below.refl _ _) rfl
        | 6, ho =>
          obtain rfl := Option.some.inj ho
          clear dep hdeps
          refine ⟨by rfl, fun K hK => ?_⟩
          go_simp
          exact hK _ _ (Below.refl _ _) rfl
        | 7, ho =>
          obtain rfl := Option.some.inj ho
          have r6 := dep 6 (by omega) (hdeps ⟨6, .data⟩ (by simp) (by rfl))
          change a.tmps[15]?.getD undef = .int .u64 (n : Int) at r6
          clear dep hdeps
          refine ⟨by rfl, fun K hK => ?_⟩
          go_simp
          exact hK _ _ (Below.refl _ _) rfl
        | 8, ho =>
          obtain rfl := Option.some.inj ho
          have r7 := dep 7 (by omega) (hdeps ⟨7, .data⟩ (by simp) (by rfl))
          change a.tmps[16]?.getD undef = .int .u64 (z : Int) at r7
          clear dep hdeps
          refine ⟨by rfl, fun K hK => ?_⟩
          go_simp
          refine (HIh.out w5).mono ?_
          rintro e w6 ⟨rfl, hb⟩
          exact hK _ _ hb rfl
        | 9, ho =>
          obtain rfl := Option.some.inj ho
          have r5 := dep 5 (by omega) (hdeps ⟨5, .data⟩ (by simp) (by rfl))
          change a.tmps[14]?.getD undef = .string (S [x]) at r5
          have r8 := dep 8 (by omega) (hdeps ⟨8, .data⟩ (by simp) (by rfl))
          change a.tmps[17]?.getD undef = .string (S rest) at r8
          have hz1 : (S [x]).size = 1 := by rw [S_size]; rfl
          have hz2 : (S rest).size = rest.length := S_size _
          have hz3 : ¬ 9223372036854775807 < 1 + rest.length := by have := HLen.out; omega
          clear dep hdeps
          refine ⟨by rfl, fun K hK => ?_⟩
          go_simp
          exact hK _ _ (Below.refl _ _) (show _ = _ by rw [show x :: rest = [x] ++ rest from rfl, S_append])
        | 10, ho =>
          obtain rfl := Option.some.inj ho
          have r9 := dep 9 (by omega) (hdeps ⟨9, .data⟩ (by simp) (by rfl))
          change a.tmps[18]?.getD undef = .string (S (x :: rest)) at r9
          clear dep hdeps
          refine ⟨by rfl, fun K hK => ?_⟩
          go_simp
          exact hK _ _ (Below.refl _ _) rfl
        | i + 11, ho => exact absurd (Array.getElem?_eq_some_iff.1 ho).1 (by change ¬ i + 11 < 11; omega)
      case fin =>
        intro listed a w5 hs hall
        have x2 : a.tmps[2]?.getD undef = .string (S (x :: rest)) := by simpa [RN, DN] using hs.has 10 (by decide) (hall 10 (by decide))
        have HB5 := Lib.hid hs.S
        have hd : a.defers = [] := hs.defers
        have hsz : a.tmps.size = 19 := hs.tmps
        clear hs hall
        obtain ⟨tmps, defers⟩ := a
        subst hd
        simp only at x2 hsz
        go_wp2
        go_ret
        exact ⟨by rw [HE.out]; simp [x2], HB5.out⟩
end Go.Proofs.YtooeahpkhocaeaaGreatDoor
