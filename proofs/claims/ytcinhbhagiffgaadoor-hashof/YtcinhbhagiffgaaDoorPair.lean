/- Two operations of a region that draws its order, each of which may make memory, come up in either order; and three, of which two wait for one another. Conditions: what each leaves is kept by what only adds to memory. -/
import Derived.Test.YtcinhbhagiffgaaDoorConv
namespace Go.Proofs.YtcinhbhagiffgaaDoor
open Go.RowKit

section
variable {P : Program} {md : Region.Mode} {ops : Array Oper} {Q : Exit → Act → World → Prop} {S : World → Prop}
/-- The operation leaves a value of which R is true, and adds to memory alone. -/
def Makes (P : Program) (ops : Array Oper) (Q : Exit → Act → World → Prop) (o : Oper) (d : Tmp) (R : Value → World → Prop) (b : Act) (w : World) : Prop :=
  Region.wanted o (yielded ops b.tmps) = true ∧ ∀ K : Act → World → Prop, (∀ v w', Below w.heap.size w w' → R v w' → K (b.put (some d) v) w') → o.wp P b w K Q
theorem Makes.wpOp {i : Nat} {o : Oper} {d : Tmp} {R : Value → World → Prop} {b : Act} {w : World} (h : Makes P ops Q o d R b w) (hi : ops[i]? = some o) {K : Act → World → Prop}
    (hK : ∀ v w', Below w.heap.size w w' → R v w' → K (b.put (some d) v) w') : wpOp P ops Q i K b w := by
  unfold Go.wpOp
  simp only [hi, h.1, if_true]
  exact .inl (h.2 K hK)
theorem held_makes {i : Nat} {d : Tmp} {o : Oper} {fuel : Nat} {listed : Array Bool} {a : Act} {w : World} (hi : ops[i]? = some o) (hr : Region.ready md ops listed = [i]) {R : Value → World → Prop}
    (hm : Makes P ops Q o d R a w) (h : ∀ v w', Below w.heap.size w w' → R v w' → S w' ∧ wpAnyH P md ops Q S fuel (listed.setIfInBounds i true) (a.put (some d) v) w') : wpAnyH P md ops Q S (fuel + 1) listed a w := by
  refine wpAnyH_all hr (by simp) (fun j hj => ?_)
  obtain rfl : j = i := by simpa using hj
  exact hm.wpOp hi h
theorem held_pair (i j : Nat) (di dj : Tmp) {oi oj : Oper} {fuel : Nat} {listed : Array Bool} {a : Act} {w : World} (hi : ops[i]? = some oi) (hj : ops[j]? = some oj)
    (hr : Region.ready md ops listed = [i, j]) (hri : Region.ready md ops (listed.setIfInBounds i true) = [j]) (hrj : Region.ready md ops (listed.setIfInBounds j true) = [i])
    (hij : i ≠ j) (hd : di ≠ dj) (Ri Rj : Value → World → Prop) (mi : ∀ v w w', Ri v w → Below w.heap.size w w' → Ri v w') (mj : ∀ v w w', Rj v w → Below w.heap.size w w' → Rj v w')
    (kS : ∀ w w', S w → Below w.heap.size w w' → S w') (hS : S w)
    (ci : ∀ w, S w → Makes P ops Q oi di Ri a w) (cj : ∀ w, S w → Makes P ops Q oj dj Rj a w)
    (ci' : ∀ v w, S w → Makes P ops Q oi di Ri (a.put (some dj) v) w) (cj' : ∀ v w, S w → Makes P ops Q oj dj Rj (a.put (some di) v) w)
    (h : ∀ vi vj w', S w' → Ri vi w' → Rj vj w' → wpAnyH P md ops Q S fuel ((listed.setIfInBounds i true).setIfInBounds j true) ((a.put (some di) vi).put (some dj) vj) w') :
    wpAnyH P md ops Q S (fuel + 1 + 1) listed a w := by
  refine wpAnyH_all hr (by simp) (fun k hk => ?_)
  rcases (by simpa using hk : k = i ∨ k = j) with rfl | rfl
  · refine (ci w hS).wpOp hi (fun v w' hb hR => ⟨kS w w' hS hb, ?_⟩)
    refine held_makes hj hri (cj' v w' (kS w w' hS hb)) (fun v' w'' hb' hR' => ?_)
    exact ⟨kS _ _ (kS w w' hS hb) hb', h v v' w'' (kS _ _ (kS w w' hS hb) hb') (mi _ _ _ hR hb') hR'⟩
  · refine (cj w hS).wpOp hj (fun v w' hb hR => ⟨kS w w' hS hb, ?_⟩)
    refine held_makes hi hrj (ci' v w' (kS w w' hS hb)) (fun v' w'' hb' hR' => ?_)
    refine ⟨kS _ _ (kS w w' hS hb) hb', ?_⟩
    have := h v' v w'' (kS _ _ (kS w w' hS hb) hb') hR' (mj _ _ _ hR hb')
    rw [Act.put_comm a v' v (by simpa using Ne.symm hd), Array.setIfInBounds_comm _ _ hij] at this
    exact this
theorem held_tri (c x y : Nat) (dc dx dy : Tmp) {oc ox oy : Oper} {fuel : Nat} {listed : Array Bool} {a : Act} {w : World} (hc : ops[c]? = some oc) (hx : ops[x]? = some ox) (hy : ops[y]? = some oy)
    (hr : Region.ready md ops listed = [c, x]) (h1 : Region.ready md ops (listed.setIfInBounds c true) = [x]) (h2 : Region.ready md ops ((listed.setIfInBounds c true).setIfInBounds x true) = [y])
    (h3 : Region.ready md ops (listed.setIfInBounds x true) = [c, y]) (h5 : Region.ready md ops ((listed.setIfInBounds x true).setIfInBounds y true) = [c])
    (ncx : c ≠ x) (ncy : c ≠ y) (ecx : dc ≠ dx) (ecy : dc ≠ dy) (Rc Rx Ry : Value → World → Prop)
    (mc : ∀ v w w', Rc v w → Below w.heap.size w w' → Rc v w') (mx : ∀ v w w', Rx v w → Below w.heap.size w w' → Rx v w') (my : ∀ v w w', Ry v w → Below w.heap.size w w' → Ry v w')
    (kS : ∀ w w', S w → Below w.heap.size w w' → S w') (hS : S w)
    (cc : ∀ w, S w → Makes P ops Q oc dc Rc a w) (ccx : ∀ v w, S w → Makes P ops Q oc dc Rc (a.put (some dx) v) w) (ccxy : ∀ v u w, S w → Makes P ops Q oc dc Rc ((a.put (some dx) v).put (some dy) u) w)
    (cx : ∀ w, S w → Makes P ops Q ox dx Rx a w) (cxc : ∀ v w, S w → Makes P ops Q ox dx Rx (a.put (some dc) v) w)
    (cy : ∀ v w, S w → Rx v w → Makes P ops Q oy dy Ry (a.put (some dx) v) w) (cyc : ∀ u v w, S w → Rx v w → Makes P ops Q oy dy Ry ((a.put (some dc) u).put (some dx) v) w)
    (h : ∀ vc vx vy w', S w' → Rc vc w' → Rx vx w' → Ry vy w' → wpAnyH P md ops Q S fuel (((listed.setIfInBounds c true).setIfInBounds x true).setIfInBounds y true) (((a.put (some dc) vc).put (some dx) vx).put (some dy) vy) w') :
    wpAnyH P md ops Q S (fuel + 1 + 1 + 1) listed a w := by
  refine wpAnyH_all hr (by simp) (fun k hk => ?_)
  rcases (by simpa using hk : k = c ∨ k = x) with rfl | rfl
  · refine (cc w hS).wpOp hc (fun v w1 b1 r1 => ⟨kS w w1 hS b1, ?_⟩)
    have s1 := kS w w1 hS b1
    refine held_makes hx h1 (cxc v w1 s1) (fun u w2 b2 r2 => ⟨kS _ _ s1 b2, ?_⟩)
    have s2 := kS _ _ s1 b2
    refine held_makes hy h2 (cyc v u w2 s2 r2) (fun t w3 b3 r3 => ⟨kS _ _ s2 b3, ?_⟩)
    exact h v u t w3 (kS _ _ s2 b3) (mc _ _ _ (mc _ _ _ r1 b2) b3) (mx _ _ _ r2 b3) r3
  · refine (cx w hS).wpOp hx (fun u w1 b1 r1 => ⟨kS w w1 hS b1, ?_⟩)
    have s1 := kS w w1 hS b1
    refine wpAnyH_all h3 (by simp) (fun k' hk' => ?_)
    rcases (by simpa using hk' : k' = c ∨ k' = y) with rfl | rfl
    · refine (ccx u w1 s1).wpOp hc (fun v w2 b2 r2 => ⟨kS _ _ s1 b2, ?_⟩)
      have s2 := kS _ _ s1 b2
      rw [Act.put_comm a u v (by simpa using ecx), Array.setIfInBounds_comm _ _ (Ne.symm ncx)]
      refine held_makes hy h2 (cyc v u w2 s2 (mx _ _ _ r1 b2)) (fun t w3 b3 r3 => ⟨kS _ _ s2 b3, ?_⟩)
      exact h v u t w3 (kS _ _ s2 b3) (mc _ _ _ r2 b3) (mx _ _ _ (mx _ _ _ r1 b2) b3) r3
    · refine (cy u w1 s1 r1).wpOp hy (fun t w2 b2 r2 => ⟨kS _ _ s1 b2, ?_⟩)
      have s2 := kS _ _ s1 b2
      refine held_makes hc h5 (ccxy u t w2 s2) (fun v w3 b3 r3 => ⟨kS _ _ s2 b3, ?_⟩)
      have := h v u t w3 (kS _ _ s2 b3) r3 (mx _ _ _ (mx _ _ _ r1 b2) b3) (my _ _ _ r2 b3)
      rw [Act.put_comm a v u (by simpa using Ne.symm ecx), Act.put_comm (a.put (some _) u) v t (by simpa using Ne.symm ecy), Array.setIfInBounds_comm _ _ ncx, Array.setIfInBounds_comm _ _ ncy] at this
      exact this
end
theorem Parts.below {w w' : World} {v : Value} {ps : List (List Nat)} (h : Parts w v ps) (k : Below w.heap.size w w') : Parts w' v ps := by
  obtain ⟨A, c, vs, rfl, h1, h2, h3, h4, h5⟩ := h
  refine ⟨A, c, vs, rfl, h1, h2, h3, fun hp => ?_, fun i u l a b => (h5 i u l a b).below (B := 0) k (Nat.le_refl _) rfl⟩
  obtain ⟨b, o, rfl, hb, hr⟩ := h4 hp
  exact ⟨b, o, rfl, Nat.lt_of_lt_of_le hb k.size, fun j v hv => by rw [k.cell (p := ⟨b, o + j, none⟩) hb]; exact hr j v hv⟩
theorem parts_nil (w : World) : Parts w (.slice none 0 0) [] := ⟨none, 0, [], rfl, Nat.le_refl _, by unfold maxLen; omega, rfl, fun h => by simp at h, fun i u l h _ => by simp at h⟩
theorem sl_nil (w : World) (g : Nat) : Sl w g (.slice none 0 0) [] := ⟨none, 0, rfl, Nat.le_refl _, by unfold maxLen; omega, fun h => by simp at h⟩
theorem sl_none (w : World) (g : Nat) (A : Option Addr) : Sl w g (.slice A 0 0) [] := ⟨A, 0, rfl, Nat.le_refl _, by unfold maxLen; omega, fun h => by simp at h⟩
end Go.Proofs.YtcinhbhagiffgaaDoor
