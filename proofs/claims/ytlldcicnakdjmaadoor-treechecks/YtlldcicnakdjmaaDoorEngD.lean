/- A region that draws its order, walked by facts on slots: the operations that only read (or call what only reads) are looked at once, in the text's order; behind them stands the tail, in its forced order. Conditions: one check on the region's shape. -/
import Derived.Test.YtlldcicnakdjmaaDoorEng
namespace Go.Proofs.YtlldcicnakdjmaaDoor
open Go.RowKit

def dstOf (ops : Array Oper) (i : Nat) : Nat := ((ops[i]?).bind (·.dst)).getD 0
/-- What is known when the first i have come up, in the text's order. -/
def envUpto (ops : Array Oper) (l0 : Array Bool) (vs : Nat → Value) (L : List (Nat × Value)) : Nat → List (Nat × Value)
  | 0 => L
  | i + 1 => if l0.getD i true = true then envUpto ops l0 vs L i else (dstOf ops i, vs i) :: envUpto ops l0 vs L i
theorem envUpto_look (ops : Array Oper) (l0 : Array Bool) (vs : Nat → Value) (L : List (Nat × Value)) : ∀ (i k : Nat) (v : Value), look (envUpto ops l0 vs L i) k = some v →
    (∃ j, j < i ∧ l0.getD j true = false ∧ dstOf ops j = k ∧ v = vs j) ∨ (look L k = some v ∧ ∀ j, j < i → l0.getD j true = false → dstOf ops j ≠ k)
  | 0, k, v, h => .inr ⟨h, fun j hj => by omega⟩
  | i + 1, k, v, h => by
    rw [envUpto] at h
    by_cases hl : l0.getD i true = true
    · rw [if_pos hl] at h
      rcases envUpto_look ops l0 vs L i k v h with ⟨j, hj, r⟩ | ⟨h1, h2⟩
      · exact .inl ⟨j, by omega, r⟩
      · refine .inr ⟨h1, fun j hj hf => ?_⟩
        by_cases e : j = i
        · subst e; rw [hl] at hf; cases hf
        · exact h2 j (by omega) hf
    · rw [if_neg hl, look_cons] at h
      have hlf : l0.getD i true = false := by simpa using hl
      by_cases hd : dstOf ops i = k
      · rw [if_pos hd] at h
        exact .inl ⟨i, by omega, hlf, hd, (Option.some.inj h).symm⟩
      · rw [if_neg hd] at h
        rcases envUpto_look ops l0 vs L i k v h with ⟨j, hj, r⟩ | ⟨h1, h2⟩
        · exact .inl ⟨j, by omega, r⟩
        · refine .inr ⟨h1, fun j hj hf => ?_⟩
          by_cases e : j = i
          · subst e; exact hd
          · exact h2 j (by omega) hf
/-- The operations that only read, one behind another, in the text's order. -/
def QSeq (P : Program) (C : World → Prop) (l0 : Array Bool) (F : List (Nat × Value) → Prop) : List Oper → Nat → List (Nat × Value) → Prop
  | [], _, L => F L
  | o :: os, i, L => if l0.getD i true = true then QSeq P C l0 F os (i + 1) L else ∃ v, (∀ w, C w → Runs P o.op o.type L w (fun v' w' => v' = v ∧ C w')) ∧ QSeq P C l0 F os (i + 1) (((o.dst).getD 0, v) :: L)
theorem qs_skip {P : Program} {C : World → Prop} {l0 : Array Bool} {F : List (Nat × Value) → Prop} {o : Oper} {os : List Oper} {i : Nat} {L : List (Nat × Value)} (hl : l0.getD i true = true) (h : QSeq P C l0 F os (i + 1) L) : QSeq P C l0 F (o :: os) i L := by
  rw [QSeq, if_pos hl]; exact h
theorem qs_op {P : Program} {C : World → Prop} {l0 : Array Bool} {F : List (Nat × Value) → Prop} {d : Nat} {op : Op} {ty : TypeId} {pos : String} {aft : Array Edge} {os : List Oper} {i : Nat} {L : List (Nat × Value)} {v : Value} (hl : l0.getD i true = false)
    (hr : ∀ w, C w → Runs P op ty L w (fun v' w' => v' = v ∧ C w')) (h : QSeq P C l0 F os (i + 1) ((d, v) :: L)) : QSeq P C l0 F (⟨some d, op, ty, pos, aft, none⟩ :: os) i L := by
  rw [QSeq, if_neg (by rw [hl]; simp)]; exact ⟨v, hr, h⟩
theorem qs_is {P : Program} {C : World → Prop} {l0 : Array Bool} {F : List (Nat × Value) → Prop} {d : Nat} {op : Op} {ty : TypeId} {pos : String} {aft : Array Edge} {os : List Oper} {i : Nat} {L : List (Nat × Value)} {v : Value} (hl : l0.getD i true = false)
    (hr : ∀ w, C w → Runs P op ty L w (Is v w)) (h : QSeq P C l0 F os (i + 1) ((d, v) :: L)) : QSeq P C l0 F (⟨some d, op, ty, pos, aft, none⟩ :: os) i L :=
  qs_op hl (fun w hw => (hr w hw).mono fun _ _ ⟨h1, h2⟩ => ⟨h1, by rw [h2]; exact hw⟩) h
theorem qseq_vals {P : Program} {C : World → Prop} {l0 : Array Bool} {F : List (Nat × Value) → Prop} {ops : Array Oper} {L : List (Nat × Value)} (m : Nat) (hm : m ≤ ops.size) :
    ∀ (r i : Nat) (us : Nat → Value), i + r = m → QSeq P C l0 F ((ops.toList.drop i).take r) i (envUpto ops l0 us L i) →
      ∃ vs : Nat → Value, (∀ j, j < i → vs j = us j) ∧ (∀ j o, i ≤ j → j < m → ops[j]? = some o → l0.getD j true = false → ∀ w, C w → Runs P o.op o.type (envUpto ops l0 vs L j) w (fun v' w' => v' = vs j ∧ C w')) ∧ F (envUpto ops l0 vs L m) := by
  intro r
  induction r with
  | zero =>
    intro i us hi h
    obtain rfl : i = m := by omega
    rw [List.take_zero] at h
    exact ⟨us, fun _ _ => rfl, fun j o h1 h2 => by omega, h⟩
  | succ r ih =>
    intro i us hi h
    have hil : i < ops.toList.length := by rw [Array.length_toList]; omega
    rw [List.drop_eq_getElem_cons hil, List.take_succ_cons] at h
    have hoi : ops[i]? = some ops.toList[i] := by rw [Array.getElem?_eq_getElem (by simpa using hil)]; simp
    rw [QSeq] at h
    have hcong : ∀ (us vs : Nat → Value) (k : Nat), (∀ j, j < k → vs j = us j) → envUpto ops l0 vs L k = envUpto ops l0 us L k := by
      intro us vs k
      induction k with
      | zero => intro _; rfl
      | succ k ihk => intro hh; rw [envUpto, envUpto, ihk (fun j hj => hh j (by omega)), hh k (by omega)]
    by_cases hl : l0.getD i true = true
    · rw [if_pos hl] at h
      have he : envUpto ops l0 us L (i + 1) = envUpto ops l0 us L i := by rw [envUpto, if_pos hl]
      rw [← he] at h
      obtain ⟨vs, h1, h2, h3⟩ := ih (i + 1) us (by omega) h
      refine ⟨vs, fun j hj => h1 j (by omega), fun j o hj hjm ho hf => ?_, h3⟩
      by_cases e : j = i
      · subst e; rw [hl] at hf; cases hf
      · exact h2 j o (by omega) hjm ho hf
    · rw [if_neg hl] at h
      obtain ⟨v, hv, h⟩ := h
      have hdst : (ops.toList[i].dst).getD 0 = dstOf ops i := by unfold dstOf; rw [hoi]; rfl
      have he : envUpto ops l0 (fun j => if j = i then v else us j) L (i + 1) = (dstOf ops i, v) :: envUpto ops l0 us L i := by
        rw [envUpto, if_neg hl, if_pos rfl, hcong us (fun j => if j = i then v else us j) i (fun j hj => by rw [if_neg (by omega)])]
      rw [hdst, ← he] at h
      obtain ⟨vs, h1, h2, h3⟩ := ih (i + 1) (fun j => if j = i then v else us j) (by omega) h
      have hvi : vs i = v := by rw [h1 i (by omega), if_pos rfl]
      refine ⟨vs, fun j hj => by rw [h1 j (by omega), if_neg (by omega)], fun j o hj hjm ho hf => ?_, h3⟩
      by_cases e : j = i
      · subst e
        rw [hoi] at ho
        obtain rfl := Option.some.inj ho
        rw [hcong us vs j (fun k hk => by rw [h1 k (by omega), if_neg (by omega)]), hvi]
        exact hv
      · exact h2 j o (by omega) hjm ho hf
theorem ready_nilB {ops : Array Oper} (hord : ∀ (i : Nat) (o : Oper), ops[i]? = some o → ∀ e ∈ o.after, Region.binds .any e = true → e.on < i) {listed : Array Bool} (hs : listed.size = ops.size) (h : Region.ready .any ops listed = []) : ∀ i, i < ops.size → listed.getD i true = true := by
  intro i
  induction i using Nat.strongRecOn with
  | _ i ih =>
    intro hi
    by_cases hl : listed.getD i true = true
    · exact hl
    · exfalso
      have hm : i ∈ Region.ready .any ops listed := by
        rw [mem_ready]
        refine ⟨by simpa using hl, ops[i], Array.getElem?_eq_getElem hi, fun e he hb => ?_⟩
        have hlt : e.on < i := hord i _ (Array.getElem?_eq_getElem hi) e he hb
        have := ih e.on hlt (by omega)
        have hb : e.on < listed.size := by omega
        simpa [hb] using this
      rw [h] at hm
      cases hm
/-- All that is asked of the region's shape. n: the frame's slots; m: how many operations stand ahead of the tail; l0: those that are taken already. -/
def chkDraw (ops : Array Oper) (n m : Nat) (l0 : Array Bool) : Bool :=
  decide (m ≤ ops.size) && decide (l0.size = ops.size) &&
  (List.range ops.size).all (fun i => match ops[i]? with | some o => o.after.all (fun e => !Region.binds .any e || decide (e.on < i)) | none => true) &&
  (List.range m).all (fun i => l0.getD i true || match ops[i]? with
    | some o => o.guard.isNone && (match o.dst with | some d => decide (d < n) | none => false) &&
        o.op.operands.all (fun X => match X with | .tmp k => (List.range m).all (fun j => l0.getD j true || !(Nat.beq (dstOf ops j) k) || o.after.any (fun e => Region.binds .any e && Nat.beq e.on j)) | _ => true)
    | none => false) &&
  (List.range m).all (fun i => (List.range m).all (fun j => l0.getD i true || l0.getD j true || Nat.beq i j || !(Nat.beq (dstOf ops i) (dstOf ops j)))) &&
  (List.range m).all (fun i => l0.getD i true || Nat.beq m ops.size || marks .any ops (m + 1) (fun j => Nat.beq j m) i) &&
  (List.range ops.size).all (fun j => decide (j < m) || (!l0.getD j true && (Nat.beq j m || match ops[j]? with | some o => o.after.any (fun e => Region.binds .any e && decide (m ≤ e.on)) | none => true))) &&
  (List.range ops.size).all (fun i => !l0.getD i false || match ops[i]? with | some o => o.after.all (fun e => !Region.binds .any e || l0.getD e.on false) | none => true)
structure Po2 (ops : Array Oper) (vs : Nat → Value) (m : Nat) (a0 : Act) (l0 : Array Bool) (listed : Array Bool) (a : Act) : Prop where
  size : listed.size = ops.size
  tmps : a.tmps.size = a0.tmps.size
  defers : a.defers = a0.defers
  pre : ∀ i, l0.getD i true = true → listed.getD i true = true
  has : ∀ i, i < m → l0.getD i true = false → listed.getD i true = true → a.tmps.getD (dstOf ops i) undef = vs i
  old : ∀ d, (∀ i, i < m → l0.getD i true = false → dstOf ops i ≠ d) → a.tmps.getD d undef = a0.tmps.getD d undef
  tail : ∀ i, m ≤ i → i < ops.size → listed.getD i true = false
  closed : Closed .any ops (fun i => listed.getD i false)
/-- What is left when all ahead of the tail have come up. -/
def lastOf (ops : Array Oper) (m : Nat) : Array Bool := Array.replicate m true ++ Array.replicate (ops.size - m) false
section
variable {P : Program} {ops : Array Oper} {Q : Exit → Act → World → Prop} {S : World → Prop} {L : List (Nat × Value)} {n : Nat}
theorem draw_quiet (m : Nat) (C : World → Prop) (l0 : Array Bool) (k F : Nat) {a0 : Act} {w : World} (hchk : chkDraw ops n m l0 = true) (hk : (List.range m).countP (fun i => !l0.getD i true) = k) (hS : ∀ w, C w → S w) (hC : C w) (hL : Sees n L a0)
    (h : QSeq P C l0 (fun L' => ∀ a w, Sees n L' a → C w → wpAnyH P .any ops Q S F (lastOf ops m) a w) (ops.toList.take m) 0 L) :
    wpAnyH P .any ops Q S (k + F) l0 a0 w := by
  simp only [chkDraw, Bool.and_eq_true, decide_eq_true_eq, List.all_eq_true, List.mem_range] at hchk
  obtain ⟨⟨⟨⟨⟨⟨⟨c1, c2⟩, c3⟩, c4⟩, c5⟩, c6⟩, c7⟩, c8⟩ := hchk
  obtain ⟨vs, _, hrun, hfin⟩ := qseq_vals (P := P) (C := C) (l0 := l0) (L := L) m c1 m 0 (fun _ => undef) (by omega) (by rw [List.drop_zero]; exact h)
  have hord : ∀ (i : Nat) (o : Oper), ops[i]? = some o → ∀ e ∈ o.after, Region.binds .any e = true → e.on < i := fun i o ho e he hb => by
    have := c3 i (Array.getElem?_eq_some_iff.1 ho).1
    rw [ho] at this
    simp only [Array.all_eq_true_iff_forall_mem] at this
    have := this e he
    rw [hb] at this
    simpa using this
  have hinj : ∀ i j, i < m → j < m → l0.getD i true = false → l0.getD j true = false → dstOf ops i = dstOf ops j → i = j := fun i j hi hj h1 h2 he => by
    have := c5 i hi j hj
    rw [h1, h2, he] at this
    simpa using this
  have key : ∀ (k : Nat) (listed : Array Bool) (a : Act) (w : World), Po2 ops vs m a0 l0 listed a → C w → (List.range m).countP (fun i => !listed.getD i true) = k → wpAnyH P .any ops Q S (k + F) listed a w := by
    intro k
    induction k with
    | zero =>
      intro listed a w hs hC hc
      have hall : ∀ i, i < m → listed.getD i true = true := fun i hi => by
        have := List.countP_eq_zero.1 hc i (List.mem_range.2 hi)
        simpa using this
      have e1 : listed = lastOf ops m := by
        unfold lastOf
        apply arr_extB
        · rw [hs.size]; simp; omega
        · intro d hd
          rw [hs.size] at hd
          by_cases h : d < m
          · rw [hall d h]
            simp [Array.getElem?_append, h]
          · rw [hs.tail d (by omega) hd]
            simp [Array.getElem?_append, h, show d - m < ops.size - m by omega]
      rw [e1, Nat.zero_add]
      refine hfin a w ⟨hs.tmps.trans hL.1, hs.defers.trans hL.2.1, fun k v hk => ?_⟩ hC
      rcases envUpto_look ops l0 vs L m k v hk with ⟨j, hj, hf, rfl, rfl⟩ | ⟨h1, h2⟩
      · exact hs.has j hj hf (hall j hj)
      · rw [hs.old k h2]; exact hL.2.2 k v h1
    | succ k ih =>
      intro listed a w hs hC hc
      have hsome : ∃ i, i < m ∧ listed.getD i true = false := by
        have hp : 0 < (List.range m).countP (fun i => !listed.getD i true) := by omega
        obtain ⟨i, hi, h⟩ := List.countP_pos_iff.1 hp
        exact ⟨i, List.mem_range.1 hi, by simpa using h⟩
      rw [show k + 1 + F = (k + F) + 1 by omega]
      refine ⟨fun h => ?_, fun i hi => ?_⟩
      · obtain ⟨i, hi, h1⟩ := hsome
        have := ready_nilB hord hs.size h i (by omega)
        rw [this] at h1; cases h1
      · obtain ⟨h0, o, ho, hdeps⟩ := mem_ready.1 hi
        have his : i < ops.size := (Array.getElem?_eq_some_iff.1 ho).1
        have him : i < m := by
          apply Classical.byContradiction
          intro hge
          by_cases him : i = m
          · obtain ⟨j, hj, hjf⟩ := hsome
            have h6 := c6 j hj
            have hj0 : l0.getD j true = false := by
              cases h : l0.getD j true with
              | false => rfl
              | true => rw [hs.pre j h] at hjf; cases hjf
            have hms : Nat.beq m ops.size = false := by
              cases hb : Nat.beq m ops.size with
              | false => rfl
              | true => have := Nat.eq_of_beq_eq_true hb; omega
            rw [hj0, hms] at h6
            have hcl : Closed .any ops (fun x => listed.getD x false || Nat.beq x m) := fun x ox hox hx e he hb => by
              simp only [Bool.or_eq_true] at hx ⊢
              rcases hx with hx | hx
              · exact .inl (hs.closed x ox hox hx e he hb)
              · obtain rfl := Nat.eq_of_beq_eq_true hx
                subst him
                rw [ho] at hox
                obtain rfl := Option.some.inj hox
                exact .inl (hdeps e he hb)
            have := marks_sub hcl (m + 1) (fun j => Nat.beq j m) (fun x hx => by simp only [Bool.or_eq_true]; exact .inr hx) j (by simpa using h6)
            simp only [Bool.or_eq_true] at this
            rcases this with h | h
            · have h2 := getD_true h; rw [h2] at hjf; cases hjf
            · have := Nat.eq_of_beq_eq_true h; omega
          · have h7 := c7 i his
            rw [ho] at h7
            simp only [Bool.or_eq_true, decide_eq_true_eq, Bool.and_eq_true, Bool.not_eq_true', Array.any_eq_true] at h7
            rcases h7 with h7 | ⟨_, h7⟩
            · omega
            · rcases h7 with h7 | ⟨x, hx, hb, hon⟩
              · exact him (Nat.eq_of_beq_eq_true h7)
              · have he2 : o.after[x].on < i := hord i o ho _ (Array.getElem_mem hx) hb
                have h1 := hs.tail o.after[x].on hon (by omega)
                have h2 := getD_true (hdeps _ (Array.getElem_mem hx) hb)
                rw [h2] at h1; cases h1
        have hpre : l0.getD i true = false := by
          cases h : l0.getD i true with
          | false => rfl
          | true => rw [hs.pre i h] at h0; cases h0
        have h4 := c4 i him
        rw [hpre, ho] at h4
        simp only [Bool.false_or, Bool.and_eq_true] at h4
        obtain ⟨⟨hg, hd⟩, hopd⟩ := h4
        obtain ⟨dd, hdd⟩ : ∃ d, o.dst = some d := by
          cases h : o.dst with
          | none => rw [h] at hd; cases hd
          | some d => exact ⟨d, rfl⟩
        have hdl : dd < n := by rw [hdd] at hd; simpa using hd
        have hDi : dstOf ops i = dd := by unfold dstOf; rw [ho]; simp [hdd]
        have hwant : Region.wanted o (yielded ops a.tmps) = true := by
          unfold Region.wanted
          cases hgd : o.guard with
          | none => rfl
          | some g => rw [hgd] at hg; cases hg
        have hwp := hrun i o (Nat.zero_le _) him ho hpre w hC o a
          (fun a' w' => S w' ∧ wpAnyH P .any ops Q S (k + F) (listed.setIfInBounds i true) a' w') Q rfl rfl (fun Y hY v hv => by
            cases Y with
            | tmp t =>
              rcases envUpto_look ops l0 vs L i t v hv with ⟨j, hj, hf, hjt, rfl⟩ | ⟨h1, h2⟩
              · have hoj := hopd
                rw [Array.all_eq_true_iff_forall_mem] at hoj
                have := hoj _ hY
                simp only [List.all_eq_true, List.mem_range] at this
                have := this j (by omega)
                rw [hf, hjt] at this
                simp only [Bool.false_or, Bool.or_eq_true, Bool.not_eq_true', Array.any_eq_true, Bool.and_eq_true] at this
                rcases this with h | ⟨x, hx, hb, hon⟩
                · simp at h
                · have hon' := Nat.eq_of_beq_eq_true hon
                  have hlj := hdeps _ (Array.getElem_mem hx) hb
                  rw [hon'] at hlj
                  have := hs.has j (by omega) hf (getD_true hlj)
                  rw [hjt] at this
                  exact this
              · show a.tmps.getD t undef = v
                rw [hs.old t (fun j hj hf he => ?_)]
                · exact hL.2.2 t v h1
                · by_cases hji : j < i
                  · exact h2 j hji hf he
                  · have hoj := hopd
                    rw [Array.all_eq_true_iff_forall_mem] at hoj
                    have := hoj _ hY
                    simp only [List.all_eq_true, List.mem_range] at this
                    have := this j hj
                    rw [hf, he] at this
                    simp only [Bool.false_or, Bool.or_eq_true, Bool.not_eq_true', Array.any_eq_true, Bool.and_eq_true] at this
                    rcases this with h | ⟨x, hx, hb, hon⟩
                    · simp at h
                    · have hon' := Nat.eq_of_beq_eq_true hon
                      have he2 : o.after[x].on < i := hord i o ho _ (Array.getElem_mem hx) hb
                      omega
            | const c => exact Option.some.inj hv
            | «global» g => exact Option.some.inj hv
            | func f => exact Option.some.inj hv) (fun v w' hp => ?_)
        · unfold Go.wpOp
          simp only [ho, hwant, if_true]
          exact .inl hwp
        · obtain ⟨rfl, hC'⟩ := hp
          refine ⟨hS w' hC', ?_⟩
          have hget : ∀ (j : Nat) (b : Bool), (listed.setIfInBounds i true).getD j b = if i = j then true else listed.getD j b := fun j b => by
            by_cases hij : i = j
            · subst hij
              rw [if_pos rfl]
              simp [hs.size, his]
            · rw [if_neg hij, getD_set_ne b hij]
          rw [hdd]
          refine ih _ _ w' ?_ hC' ?_
          · refine ⟨by simp [hs.size], by simp [Act.put, hs.tmps], hs.defers, fun j hj => ?_, fun j hj h1 h2 => ?_, fun d hd => ?_, fun j hj1 hj2 => ?_, fun j oj hoj hj e he hb => ?_⟩
            · rw [hget]; split
              · rfl
              · exact hs.pre j hj
            · rw [hget] at h2
              by_cases hij : i = j
              · subst hij
                have : dd < a.tmps.size := by rw [hs.tmps, hL.1]; exact hdl
                rw [hDi]
                simp [Act.put, this]
              · rw [if_neg hij] at h2
                have hne : dd ≠ dstOf ops j := fun e => hij (hinj i j him hj hpre h1 (by rw [hDi, e]))
                have := hs.has j hj h1 h2
                simpa [Act.put, Array.getElem?_setIfInBounds_ne hne] using this
            · have hdi : dd ≠ d := by rw [← hDi]; exact hd i him hpre
              have := hs.old d hd
              simpa [Act.put, Array.getElem?_setIfInBounds_ne hdi] using this
            · rw [hget, if_neg (by omega)]; exact hs.tail j hj1 hj2
            · simp only [hget] at hj ⊢
              by_cases hij : i = j
              · subst hij
                obtain rfl : o = oj := by rw [ho] at hoj; exact Option.some.inj hoj
                split
                · rfl
                · exact hdeps e he hb
              · rw [if_neg hij] at hj
                split
                · rfl
                · exact hs.closed j oj hoj hj e he hb
          · have h1 := countP_set m listed i him h0 hget
            omega
  refine key k l0 a0 w ⟨c2, rfl, rfl, fun _ h => h, fun i _ h1 h2 => absurd (h1.symm.trans h2) (by simp), fun _ _ => rfl, fun i hi hn => ?_, fun i o ho hl e he hb => ?_⟩ hC hk
  · have := c7 i hn
    simp only [Bool.or_eq_true, decide_eq_true_eq, Bool.and_eq_true, Bool.not_eq_true'] at this
    rcases this with h | h
    · omega
    · exact h.1
  · have := c8 i (Array.getElem?_eq_some_iff.1 ho).1
    rw [ho] at this
    simp only [Bool.or_eq_true, Bool.not_eq_true'] at this
    have hl' : l0.getD i false = true := hl
    rcases this with h | h
    · rw [hl'] at h; cases h
    · rw [Array.all_eq_true_iff_forall_mem] at h
      have := h e he
      simp only [Bool.or_eq_true, Bool.not_eq_true'] at this
      rcases this with h | h
      · rw [hb] at h; cases h
      · exact h
/-- An operation of the tail: it alone may come up. -/
theorem tail_op {d : Nat} {op : Op} {ty : TypeId} {pos : String} {aft : Array Edge} {Post : Value → World → Prop} (j : Nat) {lst : Array Bool} {F : Nat} {a : Act} {w : World} (hr : Region.ready .any ops lst = [j]) (ho : ops[j]? = some ⟨some d, op, ty, pos, aft, none⟩)
    (hL : Sees n L a) (hd : d < n) (hrun : Runs P op ty L w Post) (h : ∀ v w' a', Post v w' → Sees n ((d, v) :: L) a' → S w' ∧ wpAnyH P .any ops Q S F (lst.setIfInBounds j true) a' w') : wpAnyH P .any ops Q S (F + 1) lst a w := by
  refine wpAnyH_all hr (by simp) (fun i hi => ?_)
  obtain rfl : i = j := by simpa using hi
  unfold wpOp
  simp only [ho, Region.wanted, if_true]
  exact .inl (hrun _ a _ Q rfl rfl (fun _ _ _ hv => hL.eval hv) (fun v w' hp => h v w' _ hp (hL.put hd v)))
theorem tail_none {op : Op} {ty : TypeId} {pos : String} {aft : Array Edge} {Post : Value → World → Prop} (j : Nat) {lst : Array Bool} {F : Nat} {a : Act} {w : World} (hr : Region.ready .any ops lst = [j]) (ho : ops[j]? = some ⟨none, op, ty, pos, aft, none⟩)
    (hL : Sees n L a) (hrun : Runs P op ty L w Post) (h : ∀ v w' a', Post v w' → Sees n L a' → S w' ∧ wpAnyH P .any ops Q S F (lst.setIfInBounds j true) a' w') : wpAnyH P .any ops Q S (F + 1) lst a w := by
  refine wpAnyH_all hr (by simp) (fun i hi => ?_)
  obtain rfl : i = j := by simpa using hi
  unfold wpOp
  simp only [ho, Region.wanted, if_true]
  exact .inl (hrun _ a _ Q rfl rfl (fun _ _ _ hv => hL.eval hv) (fun v w' hp => h v w' _ hp hL))
/-- A mere copy is taken first. -/
theorem pre_move {d : Nat} {x : Operand} {ty : TypeId} {pos : String} {aft : Array Edge} {v : Value} (i : Nat) {lst : Array Bool} {F : Nat} {a : Act} {w : World} (ho : ops[i]? = some ⟨some d, .move x, ty, pos, aft, none⟩) (hs : Region.noSelect ops = true) (hf : Region.free .any ops lst i = true) (hr : (Region.ready .any ops lst).contains i = true)
    (hQ : ∀ c a w, Q (.panic c) (a.put (some d) v) w → Q (.panic c) a w) (hL : Sees n L a) (hd : d < n) (hx : vals L x = some v) (hS : S w) (h : ∀ a', Sees n ((d, v) :: L) a' → wpAnyH P .any ops Q S F (lst.setIfInBounds i true) a' w) : wpAnyH P .any ops Q S (F + 1) lst a w :=
  wpAnyH_take ho hs hf hr hQ (.inl ⟨rfl, fun w _ => by simp [execOp, hL.eval hx]⟩) hS (h _ (hL.put hd v))
end
end Go.Proofs.YtlldcicnakdjmaaDoor
