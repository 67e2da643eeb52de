/- A region that draws, in which what is read may be written later (l, s = f(l), g(s)). Conditions: one check on the region's shape. -/
import Derived.Test.YtooeahpkhocaeaaDoorJ21
import Derived.Test.YtooeahpkhocaeaaDoorJ18
import Derived.Test.YtooeahpkhocaeaaDoorJ15
import Derived.Test.YtooeahpkhocaeaaDoorTTop
import Derived.Test.YtooeahpkhocaeaaDoorJ19
import Derived.Laws.BitsAllLaws
namespace Go.Proofs.YtooeahpkhocaeaaDoor
open Go.RowKit
set_option maxRecDepth 100000
set_option maxRecDepth 100000
structure PoX (K : World → World → Prop) (ops : Array Oper) (prs : List Say) (m : Nat) (a0 : Act) (l0 : Array Bool) (listed : Array Bool) (a : Act) (w : World) : Prop where
  size : listed.size = ops.size
  tmps : a.tmps.size = a0.tmps.size
  defers : a.defers = a0.defers
  pre : ∀ i, l0.getD i true = true → listed.getD i true = true
  has : ∀ i, i < m → l0.getD i true = false → listed.getD i true = true → ∃ s, prs[i]? = some s ∧ s.kstable K ∧ s.holds (a.tmps.getD (dstOf ops i) undef) w
  old : ∀ d, (∀ i, i < m → l0.getD i true = false → listed.getD i true = true → dstOf ops i ≠ d) → a.tmps.getD d undef = a0.tmps.getD d undef
  tail : ∀ i, m ≤ i → i < ops.size → listed.getD i true = false
  closed : Closed .any ops (fun i => listed.getD i false)
def chkLate (ops : Array Oper) (n m : Nat) (l0 : Array Bool) : Bool :=
  decide (m ≤ ops.size) && decide (l0.size = ops.size) &&
  (List.range ops.size).all (fun i => match ops[i]? with | some o => o.after.all (fun e => !Region.binds .any e || decide (e.on < i)) | none => true) &&
  (List.range m).all (fun i => l0.getD i true || match ops[i]? with
    | some o => (match o.guard with | none => true | some (j, _) => decide (j < m) && !l0.getD j true && depOn o j) && (match o.dst with | some d => decide (d < n) | none => false) &&
        o.op.operands.all (fun X => match X with | .tmp k => (List.range m).all (fun j => l0.getD j true || !(Nat.beq (dstOf ops j) k) || o.after.any (fun e => Region.binds .any e && Nat.beq e.on j) || (match ops[j]? with | some oj => oj.after.any (fun e => Region.binds .any e && Nat.beq e.on i) | none => false)) | _ => true)
    | none => false) &&
  (List.range m).all (fun i => (List.range m).all (fun j => l0.getD i true || l0.getD j true || Nat.beq i j || !(Nat.beq (dstOf ops i) (dstOf ops j)))) &&
  (List.range m).all (fun i => l0.getD i true || Nat.beq m ops.size || marks .any ops (m + 1) (fun j => Nat.beq j m) i) &&
  (List.range ops.size).all (fun j => decide (j < m) || (!l0.getD j true && (Nat.beq j m || match ops[j]? with | some o => o.after.any (fun e => Region.binds .any e && decide (m ≤ e.on)) | none => true))) &&
  (List.range ops.size).all (fun i => !l0.getD i false || match ops[i]? with | some o => o.after.all (fun e => !Region.binds .any e || l0.getD e.on false) | none => true)
section
variable {P : Program} {K : World → World → Prop} {ops : Array Oper} {Q : Exit → Act → World → Prop} {S : World → Prop} {L : List (Nat × Value)} {n : Nat}
theorem draw_x (prs : List Say) (m : Nat) (C : World → Prop) (l0 : Array Bool) (k F : Nat) {a0 : Act} {w : World} (hchk : chkLate ops n m l0 = true) (hk : (List.range m).countP (fun i => !l0.getD i true) = k) (hS : ∀ w, C w → S w) (hC : C w) (hL : Sees n L a0)
    (h : KSeq P K C (dstOf ops) l0 (fun L' ps => ∀ a w, Sees n L' a → C w → (∀ q ∈ ps, q.2 w) → wpAnyH P .any ops Q S F (lastOf ops m) a w) (ops.toList.take m) prs 0 L []) :
    wpAnyH P .any ops Q S (k + F) l0 a0 w := by
  simp only [chkLate, Bool.and_eq_true, decide_eq_true_eq, List.all_eq_true, List.mem_range] at hchk
  obtain ⟨⟨⟨⟨⟨⟨⟨c1, c2⟩, c3⟩, c4⟩, c5⟩, c6⟩, c7⟩, c8⟩ := hchk
  have hall0 := fun vs hfit => kseq_all (P := P) (K := K) (C := C) (l0 := l0) (L := L) prs m c1 vs hfit m 0 (by omega) (by rw [List.drop_zero, List.drop_zero]; exact h)
  -- the values that lie there now, and what is said of the others
  have hvals : ∀ (listed : Array Bool) (a : Act) (w : World), PoX K ops prs m a0 l0 listed a w → ∃ vs : Nat → Value, Fits l0 prs vs ∧ ∀ j, j < m → l0.getD j true = false → listed.getD j true = true → vs j = a.tmps.getD (dstOf ops j) undef := fun listed a w hs => by
    refine ⟨fun j => if listed.getD j true = true ∧ j < m ∧ l0.getD j true = false then a.tmps.getD (dstOf ops j) undef else match prs[j]? with | some (.inl u) => u | _ => undef, fun j u hj hu => ?_, fun j hj hf hl => ?_⟩
    · by_cases hc : listed.getD j true = true ∧ j < m ∧ l0.getD j true = false
      · simp only [if_pos hc]
        obtain ⟨s, hs1, _, hs3⟩ := hs.has j hc.2.1 hj hc.1
        rw [hu] at hs1
        obtain rfl := Option.some.inj hs1
        exact hs3
      · simp only [if_neg hc, hu]
    · simp only [if_pos (show listed.getD j true = true ∧ j < m ∧ l0.getD j true = false from ⟨hl, hj, hf⟩)]
  have hord : ∀ (i : Nat) (o : Oper), ops[i]? = some o → ∀ e ∈ o.after, Region.binds .any e = true → e.on < i := fun i o ho e he hb => by
    have := c3 i (Array.getElem?_eq_some_iff.1 ho).1
    rw [ho] at this
    simp only [Array.all_eq_true_iff_forall_mem] at this
    have := this e he
    rw [hb] at this
    simpa using this
  have hinj : ∀ i j, i < m → j < m → l0.getD i true = false → l0.getD j true = false → dstOf ops i = dstOf ops j → i = j := fun i j hi hj h1 h2 he => by
    have := c5 i hi j hj
    rw [h1, h2, he] at this
    simpa using this
  have key : ∀ (k : Nat) (listed : Array Bool) (a : Act) (w : World), PoX K ops prs m a0 l0 listed a w → C w → (List.range m).countP (fun i => !listed.getD i true) = k → wpAnyH P .any ops Q S (k + F) listed a w := by
    intro k
    induction k with
    | zero =>
      intro listed a w hs hC hc
      have hall : ∀ i, i < m → listed.getD i true = true := fun i hi => by
        have := List.countP_eq_zero.1 hc i (List.mem_range.2 hi)
        simpa using this
      have e1 : listed = lastOf ops m := by
        unfold lastOf
        apply arr_extB
        · rw [hs.size]; simp; omega
        · intro d hd
          rw [hs.size] at hd
          by_cases h : d < m
          · rw [hall d h]
            simp [Array.getElem?_append, h]
          · rw [hs.tail d (by omega) hd]
            simp [Array.getElem?_append, h, show d - m < ops.size - m by omega]
      rw [e1, Nat.zero_add]
      obtain ⟨vs, hfit, hvs⟩ := hvals listed a w hs
      refine (hall0 vs hfit).2 a w ⟨hs.tmps.trans hL.1, hs.defers.trans hL.2.1, fun k v hk => ?_⟩ hC (fun q hq => ?_)
      · rcases envUpto_look ops l0 vs L m k v hk with ⟨j, hj, hf, rfl, rfl⟩ | ⟨h1, h2⟩
        · exact (hvs j hj hf (hall j hj)).symm
        · rw [hs.old k (fun j hj hf _ => h2 j hj hf)]; exact hL.2.2 k v h1
      · obtain ⟨h1, h2, p, h3, h4⟩ := psUpto_mem l0 prs vs m q hq
        obtain ⟨s, hs1, _, hs3⟩ := hs.has q.1 h1 h2 (hall q.1 h1)
        rw [h3] at hs1
        obtain rfl := Option.some.inj hs1
        rw [h4, hvs q.1 h1 h2 (hall q.1 h1)]
        exact hs3
    | succ k ih =>
      intro listed a w hs hC hc
      have hsome : ∃ i, i < m ∧ listed.getD i true = false := by
        have hp : 0 < (List.range m).countP (fun i => !listed.getD i true) := by omega
        obtain ⟨i, hi, h⟩ := List.countP_pos_iff.1 hp
        exact ⟨i, List.mem_range.1 hi, by simpa using h⟩
      rw [show k + 1 + F = (k + F) + 1 by omega]
      refine ⟨fun h => ?_, fun i hi => ?_⟩
      · obtain ⟨i, hi, h1⟩ := hsome
        have := ready_nilB hord hs.size h i (by omega)
        rw [this] at h1; cases h1
      · obtain ⟨h0, o, ho, hdeps⟩ := mem_ready.1 hi
        have his : i < ops.size := (Array.getElem?_eq_some_iff.1 ho).1
        have him : i < m := by
          apply Classical.byContradiction
          intro hge
          by_cases him : i = m
          · obtain ⟨j, hj, hjf⟩ := hsome
            have h6 := c6 j hj
            have hj0 : l0.getD j true = false := by
              cases h : l0.getD j true with
              | false => rfl
              | true => rw [hs.pre j h] at hjf; cases hjf
            have hms : Nat.beq m ops.size = false := by
              cases hb : Nat.beq m ops.size with
              | false => rfl
              | true => have := Nat.eq_of_beq_eq_true hb; omega
            rw [hj0, hms] at h6
            have hcl : Closed .any ops (fun x => listed.getD x false || Nat.beq x m) := fun x ox hox hx e he hb => by
              simp only [Bool.or_eq_true] at hx ⊢
              rcases hx with hx | hx
              · exact .inl (hs.closed x ox hox hx e he hb)
              · obtain rfl := Nat.eq_of_beq_eq_true hx
                subst him
                rw [ho] at hox
                obtain rfl := Option.some.inj hox
                exact .inl (hdeps e he hb)
            have := marks_sub hcl (m + 1) (fun j => Nat.beq j m) (fun x hx => by simp only [Bool.or_eq_true]; exact .inr hx) j (by simpa using h6)
            simp only [Bool.or_eq_true] at this
            rcases this with h | h
            · have h2 := getD_true h; rw [h2] at hjf; cases hjf
            · have := Nat.eq_of_beq_eq_true h; omega
          · have h7 := c7 i his
            rw [ho] at h7
            simp only [Bool.or_eq_true, decide_eq_true_eq, Bool.and_eq_true, Bool.not_eq_true', Array.any_eq_true] at h7
            rcases h7 with h7 | ⟨_, h7⟩
            · omega
            · rcases h7 with h7 | ⟨x, hx, hb, hon⟩
              · exact him (Nat.eq_of_beq_eq_true h7)
              · have he2 : o.after[x].on < i := hord i o ho _ (Array.getElem_mem hx) hb
                have h1 := hs.tail o.after[x].on hon (by omega)
                have h2 := getD_true (hdeps _ (Array.getElem_mem hx) hb)
                rw [h2] at h1; cases h1
        have hpre : l0.getD i true = false := by
          cases h : l0.getD i true with
          | false => rfl
          | true => rw [hs.pre i h] at h0; cases h0
        have h4 := c4 i him
        rw [hpre, ho] at h4
        simp only [Bool.false_or, Bool.and_eq_true] at h4
        obtain ⟨⟨hg, hd⟩, hopd⟩ := h4
        obtain ⟨dd, hdd⟩ : ∃ d, o.dst = some d := by
          cases h : o.dst with
          | none => rw [h] at hd; cases hd
          | some d => exact ⟨d, rfl⟩
        have hdl : dd < n := by rw [hdd] at hd; simpa using hd
        have hDi : dstOf ops i = dd := by unfold dstOf; rw [ho]; simp [hdd]
        obtain ⟨vs, hfit, hvs⟩ := hvals listed a w hs
        obtain ⟨si, hsi, hW⟩ := (hall0 vs hfit).1 i o (Nat.zero_le _) him ho hpre
        have hgo : ∀ (v : Value) (w' : World), si.kstable K → si.holds v w' → C w' → (w' = w ∨ K w w') → S w' ∧ wpAnyH P .any ops Q S (k + F) (listed.setIfInBounds i true) (a.put o.dst v) w' := fun v w' hsst hph hC' hgrow => by
          refine ⟨hS w' hC', ?_⟩
          have hget : ∀ (j : Nat) (b : Bool), (listed.setIfInBounds i true).getD j b = if i = j then true else listed.getD j b := fun j b => by
            by_cases hij : i = j
            · subst hij
              rw [if_pos rfl]
              simp [hs.size, his]
            · rw [if_neg hij, getD_set_ne b hij]
          rw [hdd]
          refine ih _ _ w' ?_ hC' ?_
          · refine ⟨by simp [hs.size], by simp [Act.put, hs.tmps], hs.defers, fun j hj => ?_, fun j hj h1 h2 => ?_, fun d hd => ?_, fun j hj1 hj2 => ?_, fun j oj hoj hj e he hb => ?_⟩
            · rw [hget]; split
              · rfl
              · exact hs.pre j hj
            · rw [hget] at h2
              by_cases hij : i = j
              · subst hij
                have : dd < a.tmps.size := by rw [hs.tmps, hL.1]; exact hdl
                rw [hDi]
                exact ⟨si, hsi, hsst, by simpa [Act.put, this] using hph⟩
              · rw [if_neg hij] at h2
                have hne : dd ≠ dstOf ops j := fun e => hij (hinj i j him hj hpre h1 (by rw [hDi, e]))
                obtain ⟨s, hs1, hs2, hs3⟩ := hs.has j hj h1 h2
                exact ⟨s, hs1, hs2, by simpa [Act.put, Array.getElem?_setIfInBounds_ne hne] using Say.kgrow hs2 hs3 hgrow⟩
            · have hdi : dd ≠ d := by rw [← hDi]; exact hd i him hpre (by rw [hget, if_pos rfl])
              have := hs.old d (fun j hj hf hl => hd j hj hf (by rw [hget]; split; rfl; exact hl))
              simpa [Act.put, Array.getElem?_setIfInBounds_ne hdi] using this
            · rw [hget, if_neg (by omega)]; exact hs.tail j hj1 hj2
            · simp only [hget] at hj ⊢
              by_cases hij : i = j
              · subst hij
                obtain rfl : o = oj := by rw [ho] at hoj; exact Option.some.inj hoj
                split
                · rfl
                · exact hdeps e he hb
              · rw [if_neg hij] at hj
                split
                · rfl
                · exact hs.closed j oj hoj hj e he hb
          · have h1 := countP_set m listed i him h0 hget
            omega
        have hok : KOk P K C o si (envUpto ops l0 vs L i) (psUpto l0 prs vs i) → Region.wanted o (yielded ops a.tmps) = true → wpOp P ops Q i (fun a' w' => S w' ∧ wpAnyH P .any ops Q S (k + F) (listed.setIfInBounds i true) a' w') a w := fun ⟨hsst, hrun⟩ hwant => by
          have hwp := hrun w hC (fun q hq hdq => by
            obtain ⟨h1, h2, p, h3, h4⟩ := psUpto_mem l0 prs vs i q hq
            have hlq : listed.getD q.1 true = true := by
              unfold depOn at hdq
              simp only [Array.any_eq_true, Bool.and_eq_true] at hdq
              obtain ⟨x, hx, hb, hon⟩ := hdq
              have := hdeps _ (Array.getElem_mem hx) hb
              rw [Nat.eq_of_beq_eq_true hon] at this
              exact getD_true this
            obtain ⟨s, hs1, _, hs3⟩ := hs.has q.1 (by omega) h2 hlq
            rw [h3] at hs1
            obtain rfl := Option.some.inj hs1
            rw [h4, hvs q.1 (by omega) h2 hlq]
            exact hs3) o a
            (fun a' w' => S w' ∧ wpAnyH P .any ops Q S (k + F) (listed.setIfInBounds i true) a' w') Q rfl rfl (fun Y hY v hv => by
              cases Y with
              | tmp t =>
                rcases envUpto_look ops l0 vs L i t v hv with ⟨j, hj, hf, hjt, rfl⟩ | ⟨h1, h2⟩
                · have hoj := hopd
                  rw [Array.all_eq_true_iff_forall_mem] at hoj
                  have := hoj _ hY
                  simp only [List.all_eq_true, List.mem_range] at this
                  have := this j (by omega)
                  rw [hf, hjt] at this
                  simp only [Bool.false_or, Bool.or_eq_true, Bool.not_eq_true', Array.any_eq_true, Bool.and_eq_true] at this
                  rcases this with (h | ⟨x, hx, hb, hon⟩) | h
                  · simp at h
                  · have hon' := Nat.eq_of_beq_eq_true hon
                    have hlj := hdeps _ (Array.getElem_mem hx) hb
                    rw [hon'] at hlj
                    have := hvs j (by omega) hf (getD_true hlj)
                    rw [hjt] at this
                    exact this.symm
                  · exfalso
                    split at h
                    · rename_i oj hoj'
                      simp only [Array.any_eq_true, Bool.and_eq_true] at h
                      obtain ⟨x, hx, hb, hon⟩ := h
                      have h1 := hord j oj hoj' _ (Array.getElem_mem hx) hb
                      rw [Nat.eq_of_beq_eq_true hon] at h1
                      omega
                    · cases h
                · show a.tmps.getD t undef = v
                  rw [hs.old t (fun j hj hf hl he => ?_)]
                  · exact hL.2.2 t v h1
                  · by_cases hji : j < i
                    · exact h2 j hji hf he
                    · have hoj := hopd
                      rw [Array.all_eq_true_iff_forall_mem] at hoj
                      have := hoj _ hY
                      simp only [List.all_eq_true, List.mem_range] at this
                      have := this j hj
                      rw [hf, he] at this
                      simp only [Bool.false_or, Bool.or_eq_true, Bool.not_eq_true', Array.any_eq_true, Bool.and_eq_true] at this
                      rcases this with (h | ⟨x, hx, hb, hon⟩) | h
                      · simp at h
                      · have hon' := Nat.eq_of_beq_eq_true hon
                        have he2 : o.after[x].on < i := hord i o ho _ (Array.getElem_mem hx) hb
                        omega
                      · split at h
                        · rename_i oj hoj'
                          simp only [Array.any_eq_true, Bool.and_eq_true] at h
                          obtain ⟨x, hx, hb, hon⟩ := h
                          have hjs : j < ops.size := (Array.getElem?_eq_some_iff.1 hoj').1
                          have hlf : listed.getD j false = true := by
                            have hsz : j < listed.size := by rw [hs.size]; exact hjs
                            simpa [Array.getD, hsz] using hl
                          have h3 := hs.closed j oj hoj' hlf _ (Array.getElem_mem hx) hb
                          rw [Nat.eq_of_beq_eq_true hon] at h3
                          have h5 := getD_true h3
                          rw [h0] at h5; cases h5
                        · cases h
              | const c => exact Option.some.inj hv
              | «global» g => exact Option.some.inj hv
              | func f => exact Option.some.inj hv) (fun v w' hp => hgo v w' hsst hp.1 hp.2.1 hp.2.2)
          unfold Go.wpOp
          simp only [ho, hwant, if_true]
          exact .inl hwp
        unfold KWant at hW
        cases hgd : o.guard with
        | none =>
          rw [hgd] at hW
          exact hok hW (by unfold Region.wanted; rw [hgd])
        | some jb =>
          obtain ⟨j, b⟩ := jb
          rw [hgd] at hW hg
          simp only [Bool.and_eq_true, decide_eq_true_eq, Bool.not_eq_true'] at hg
          obtain ⟨⟨hjm, hjp⟩, hjd⟩ := hg
          obtain ⟨c, hlk, hyes, hno⟩ := hW
          unfold depOn at hjd
          simp only [Array.any_eq_true, Bool.and_eq_true] at hjd
          obtain ⟨x, hx, hb, hon⟩ := hjd
          have hji : j < i := by have := hord i o ho _ (Array.getElem_mem hx) hb; rw [Nat.eq_of_beq_eq_true hon] at this; exact this
          have hjl : listed.getD j true = true := by
            have := hdeps _ (Array.getElem_mem hx) hb
            rw [Nat.eq_of_beq_eq_true hon] at this
            exact getD_true this
          have hvj : vs j = .bool c := by
            rcases envUpto_look ops l0 vs L i _ _ hlk with ⟨j', hj', hf', hd', he'⟩ | ⟨_, h2⟩
            · rw [← hinj j' j (by omega) hjm hf' hjp hd']; exact he'.symm
            · exact absurd rfl (h2 j hji hjp)
          have hoj : ∃ oj, ops[j]? = some oj := ⟨_, Array.getElem?_eq_getElem (by omega)⟩
          obtain ⟨oj, hoj⟩ := hoj
          have h4j := c4 j hjm
          rw [hjp, hoj] at h4j
          simp only [Bool.false_or, Bool.and_eq_true] at h4j
          obtain ⟨dj, hdj⟩ : ∃ d, oj.dst = some d := by
            cases h : oj.dst with
            | none => rw [h] at h4j; cases h4j.1.2
            | some d => exact ⟨d, rfl⟩
          have hdjn : dj < n := by have := h4j.1.2; rw [hdj] at this; simpa using this
          have hDj : dstOf ops j = dj := by unfold dstOf; rw [hoj]; simp [hdj]
          have hval := hvs j hjm hjp hjl
          rw [hvj, hDj] at hval
          have hds : dj < a.tmps.size := by rw [hs.tmps, hL.1]; exact hdjn
          have hy : yielded ops a.tmps j = some c := by
            have h2 : a.tmps[dj]? = some (.bool c) := by
              rw [Array.getElem?_eq_getElem hds]
              have : a.tmps[dj] = .bool c := by simpa [hds] using hval.symm
              rw [this]
            simp [yielded, hoj, hdj, h2]
          by_cases hcb : c = b
          · exact hok (hyes hcb) (by unfold Region.wanted; rw [hgd]; simp [hy, hcb])
          · have hsi2 := hno hcb
            subst hsi2
            have hnw : Region.wanted o (yielded ops a.tmps) = false := by unfold Region.wanted; rw [hgd]; simp [hy, hcb]
            unfold Go.wpOp
            simp only [ho, hnw, Bool.false_eq_true, if_false]
            exact hgo undef w trivial rfl hC (.inl rfl)
  refine key k l0 a0 w ⟨c2, rfl, rfl, fun _ h => h, fun i _ h1 h2 => absurd (h1.symm.trans h2) (by simp), fun _ _ => rfl, fun i hi hn => ?_, fun i o ho hl e he hb => ?_⟩ hC hk
  · have := c7 i hn
    simp only [Bool.or_eq_true, decide_eq_true_eq, Bool.and_eq_true, Bool.not_eq_true'] at this
    rcases this with h | h
    · omega
    · exact h.1
  · have := c8 i (Array.getElem?_eq_some_iff.1 ho).1
    rw [ho] at this
    simp only [Bool.or_eq_true, Bool.not_eq_true'] at this
    have hl' : l0.getD i false = true := hl
    rcases this with h | h
    · rw [hl'] at h; cases h
    · rw [Array.all_eq_true_iff_forall_mem] at h
      have := h e he
      simp only [Bool.or_eq_true, Bool.not_eq_true'] at this
      rcases this with h | h
      · rw [hb] at h; cases h
      · exact h
/-- A region that draws and adds to memory, then a tail. -/
theorem reg_x (K : World → World → Prop) {N R : Act → World → Prop} {X : Nat → Act → World → Prop} {a : Act} {w : World} {id : Nat} (C : World → Prop) (prs : List Say) (m F : Nat) (hm : P.follows .mixedOrders = true) (hmF : m + F = ops.size) (hchk : chkLate ops n m (Array.replicate ops.size false) = true) (hL : Sees n L a) (hC : C w) (hCd : ∀ w, C w → C w.drew)
    (h : KSeq P K C (dstOf ops) (Array.replicate ops.size false) (fun L' ps => ∀ a' w', Sees n L' a' → C w' → (∀ q ∈ ps, q.2 w') → wpAnyH P .any ops (Qx N X R) (fun _ => True) F (lastOf ops m) a' w') (ops.toList.take m) prs 0 L []) : (Code.region id ops true).wp P (Qx N X R) a w := by
  refine wp_region_held (S := fun _ => True) hm ?_
  have hcount : (List.range m).countP (fun i => !(Array.replicate ops.size false).getD i true) = m := by
    rw [List.countP_eq_length.2 (fun i hi => by have := List.mem_range.1 hi; simp [show i < ops.size by omega]), List.length_range]
  have := draw_x (K := K) (Q := Qx N X R) (S := fun _ => True) prs m C (Array.replicate ops.size false) m F (w := w.drew) hchk hcount (fun _ _ => trivial) (hCd w hC) hL (P := P) h
  rw [hmF] at this
  exact this
end
end Go.Proofs.YtooeahpkhocaeaaDoor
/- Laws of operations for this program: numbers of 32 and 61 bits, rows of whole numbers. No condition. -/
namespace Go.Proofs.YtooeahpkhocaeaaDoor
open Go.RowKit

set_option maxRecDepth 100000

theorem und40 : Tryd.prog.underlying 48 = some (.int .u64) := by kernel_rfl
section
variable {ty : TypeId} {L : List (Nat × Value)} {w : World}
theorem runs_to64 {s : TypeId} {x : Operand} {k : IntKind} {a : Nat} (hx : vals L x = some (.int k (a : Int))) (hs : (Tryd.prog.underlying s).isSome = true) (h : a < 18446744073709551616) : Runs Tryd.prog (.convert s 48 x) ty L w (Is (.int .u64 (a : Int)) w) :=
  runs_convInt (k' := .u64) hx hs und40 (by simp [IntKind.wrap, IntKind.bits, IntKind.signed]; omega)
end
end Go.Proofs.YtooeahpkhocaeaaDoor
