/- One element more upon an own row, of any kind: what stays. Conditions: none of our own. -/
import Derived.Test.YtooeahpkhocaeaaDoorJ20
namespace Go.Proofs.YtooeahpkhocaeaaDoor
open Go.RowKit
set_option maxRecDepth 100000

/-- What stays where a row of elements of kind T is made that ends as Y. -/
def KR (T : TypeId) (sz B : Nat) (Y : List Value) (a b : World) : Prop :=
  Below B a b ∧ (∀ v k ys, ys <+: Y → a.ownsRow B T sz v k ys → b.ownsRow B T sz v k ys) ∧ (∀ i t cs, t ≠ T → Has a i t cs → Has b i t cs) ∧ (∀ i cs, cs.length = sz → Has a i T cs → Has b i T cs)
section
variable {T : TypeId} {sz B : Nat} {Y : List Value} {a b c : World}
theorem KR.of_below (h : Below a.heap.size a b) (hB : B ≤ a.heap.size) : KR T sz B Y a b :=
  ⟨h.mono hB, fun _ _ _ _ ho => owns_kept ho h, fun _ _ _ _ hg => hg.below h hg.lt, fun _ _ _ hg => hg.below h hg.lt⟩
theorem KR.refl : KR T sz B Y a a := ⟨Below.refl _ _, fun _ _ _ _ h => h, fun _ _ _ _ h => h, fun _ _ _ h => h⟩
theorem KR.trans (h : KR T sz B Y a b) (k : KR T sz B Y b c) : KR T sz B Y a c :=
  ⟨h.1.trans k.1, fun v n ys hy ho => k.2.1 v n ys hy (h.2.1 v n ys hy ho), fun i t cs ht ho => k.2.2.1 i t cs ht (h.2.2.1 i t cs ht ho), fun i cs ht ho => k.2.2.2 i cs ht (h.2.2.2 i cs ht ho)⟩
theorem KR.drew (h : KR T sz B Y a b) : KR T sz B Y a b.drew := ⟨h.1.drew, h.2.1, h.2.2.1, h.2.2.2⟩
end
section
variable {P : Program} {L : List (Nat × Value)} {w : World} {ty : TypeId}
theorem push_own1 {T SL : TypeId} {i : TypeInfo} {z : Value} {sz bytes B n g2 : Nat} {s x : Operand} {sv : Value} {xs news : List Value} (ht : P.underlying SL = some (.slice T)) (hi : P.info? T = some i) (hz : i.zero = some z) (hsi : i.size = sz) (hby : i.bytes = bytes) (hzs : z.cells.size = sz) (hsz : 0 < sz) (hsb : (n + 1) * bytes ≤ 140737488355328)
    (hs : vals L s = some sv) (hown : w.ownsRow B T sz sv n xs) (hx : vals L x = some (.slice (some ⟨g2, 0, none⟩) 1 1)) (hX : Has w g2 T news) (hl : news.length = sz) (hone : ∀ v ∈ news, v.oneCell' = true) (hn : n ≤ 10000) (hB : B ≤ w.heap.size) (hcap : 0 < n ∨ ∀ g m c, sv = .slice (some g) m c → c = 0) :
    Runs P (.call { callee := .builtin .append, args := #[s, x], argTypes := #[SL, SL] }) ty L w (fun u w2 => (∃ g3 c3, u = .slice (some ⟨g3, 0, none⟩) (n + 1) c3) ∧ w2.ownsRow B T sz u (n + 1) (xs ++ news) ∧ KR T sz B (xs ++ news) w w2) := by
  have hnews : ∀ j u, news[j]? = some u → w.cell? ((⟨g2, 0, none⟩ : Addr).add j) = some u := fun j u hu => by rw [add_zero_addr, Nat.zero_add, hX.cell]; exact hu
  have hl' : news.length = 1 * sz := by omega
  have h63 : n + 1 ≤ maxLen := by unfold maxLen; omega
  intro oo a K Q ho _ hL hK
  have e1 := hL s (by simp [Op.operands, Call.operands]) _ hs
  have e2 := hL x (by simp [Op.operands, Call.operands]) _ hx
  have hex : ∃ v' w', (Builtin.append_ #[SL, SL] oo.type #[sv, .slice (some ⟨g2, 0, none⟩) 1 1]).run P w = .ok v' w' ∧ ((∃ g3 c3, v' = .slice (some ⟨g3, 0, none⟩) (n + 1) c3) ∧ w'.ownsRow B T sz v' (n + 1) (xs ++ news) ∧ KR T sz B (xs ++ news) w w') := by
    rcases hown.2 with ⟨rfl, h0⟩ | ⟨g, cap, cur, rfl, hbg, hg, hcc, hcm, hcs, hct⟩
    · obtain ⟨v', w', hrun, h2, h3, h4, h5⟩ := run_append_own_at (P := P) w B SL oo.type T i _ sz _ ht hi hz hsi hby hzs hsz _ _ _ hown ⟨g2, 0, none⟩ 1 1 news hl' hnews hone h63 hsb hB
      have hbel : Below w.heap.size w w' := (Below.refl _ _).grown h3 (Nat.le_refl _) (fun k h => by cases h)
      have hne : v' ≠ .slice none 0 0 := fun e => absurd (h4.1 e).2 (by omega)
      refine ⟨v', w', hrun, ?_, h2, KR.of_below hbel hB⟩
      rcases h2.2 with ⟨e, _⟩ | ⟨g3, c3, _, rfl, _⟩
      · exact absurd e hne
      · exact ⟨g3, c3, rfl⟩
    · by_cases hrm : n + 1 ≤ cap
      · obtain ⟨w', hrun, h2, h3⟩ := run_append_fits (P := P) w B SL oo.type T i sz ht hi hsi g n cap _ hown ⟨g2, 0, none⟩ 1 1 news hl' hnews hone hrm
        have hcap1 : 1 < cap := by
          rcases hcap with h | h
          · omega
          · have := h _ _ _ rfl; omega
        have hblk : ∀ i' t' cs, (t' ≠ T ∨ cs.length = sz) → Has w i' t' cs → Has w' i' t' cs := fun i' t' cs ht' hi' => by
          have hne : some i' ≠ some g := fun hsv => by
            simp only [Option.some.injEq] at hsv
            subst hsv
            unfold Has at hi'
            rw [hi'] at hg
            simp only [Option.some.injEq, Obj.cells.injEq, and_true] at hg
            rcases ht' with h | h
            · exact h hg.2
            · have e3 : cur.size = cs.length := by rw [← hg.1]; simp
              rw [hcs, h] at e3
              have := Nat.mul_le_mul_right sz hcap1
              omega
          unfold Has
          rw [h3.block i' hi'.lt hne]
          exact hi'
        exact ⟨_, w', hrun, ⟨_, _, rfl⟩, h2, below_grown (Below.refl _ _) h3 (fun k hk => by cases hk; exact hbg) hB, fun v'' k ys hk hv => owns_pre hown hsz h2 h3 hv hk, fun i' t' cs ht' hi' => hblk i' t' cs (.inl ht') hi', fun i' cs ht' hi' => hblk i' T cs (.inr ht') hi'⟩
      · obtain ⟨v', w', hrun, h2, h3⟩ := run_append_arg_grows (P := P) w SL oo.type T i _ sz _ ht hi hz hsi hby hzs hsz ⟨g, 0, none⟩ n cap xs hown.1 (fun j u hj => by
          rw [add_zero_addr, Nat.zero_add]
          have hj' := hj
          rw [← hct, List.getElem?_take] at hj'
          split at hj'
          · have hh : Has w g T cur.toList := by show _ = _; rw [hg]
            rw [hh.cell]; exact hj'
          · cases hj') ⟨g2, 0, none⟩ 1 1 news hl' hnews (by omega) h63 hsb
        have hbel : Below w.heap.size w w' := (Below.refl _ _).grown h3 (Nat.le_refl _) (fun k h => by cases h)
        refine ⟨v', w', hrun, ?_, owns_mono h2 hB, KR.of_below hbel hB⟩
        rcases h2.2 with ⟨_, h0⟩ | ⟨g3, c3, _, rfl, _⟩
        · omega
        · exact ⟨g3, c3, rfl⟩
  obtain ⟨v', w', hr, hp⟩ := hex
  unfold Oper.wp execOp
  simp only [ho, resolve, invoke, builtin, Sem.run_bind, Sem.run_pure, Result.andThen_ok, List.map_toArray, List.map_cons, List.map_nil, e1, e2, hr]
  exact hK v' w' hp
end
/-- A cell of an own row. -/
theorem owns_rowK {w : World} {B n sz : Nat} {e : TypeId} {v : Value} {xs : List Value} (h : w.ownsRow B e sz v n xs) (hn : 0 < n) : ∃ g c, v = .slice (some ⟨g, 0, none⟩) n c ∧ B ≤ g ∧ g < w.heap.size ∧ w.rangeAt g 0 xs := by
  rcases h.2 with ⟨_, h0⟩ | ⟨g, c, cur, rfl, hb, hg, hc, hm, hs, ht⟩
  · omega
  · refine ⟨g, c, rfl, hb, (Array.getElem?_eq_some_iff.1 hg).1, fun j u hj => ?_⟩
    have hh : Has w g e cur.toList := by show _ = _; rw [hg]
    rw [← ht, List.getElem?_take] at hj
    split at hj
    · rw [Nat.zero_add, hh.cell]; exact hj
    · cases hj
end Go.Proofs.YtooeahpkhocaeaaDoor
/- Fields that are read, in a row; strings cut and compared. Conditions: none of our own. -/
namespace Go.Proofs.YtooeahpkhocaeaaDoor
open Go.RowKit
set_option maxRecDepth 100000

theorem und65 : Tryd.prog.underlying 61 = some (.slice 63) := by kernel_rfl
theorem inf67 : (Tryd.prog.info? 63).map (fun i => (i.zero, i.size, i.bytes)) = some (some (.agg (fn0 0).cells.toArray), 37, 80) := by kernel_rfl
theorem sz67 : (Tryd.prog.info? 63).map (·.size) = some 37 := by kernel_rfl
theorem zo67 : zeroOf Tryd.prog 63 = some (.agg (fn0 0).cells.toArray) := by kernel_rfl
theorem fo67_2 : fieldOff Tryd.prog 63 2 = some 2 := by kernel_rfl
theorem pl50 : (match Tryd.prog.underlying 48 with | some (.struct _) => true | some (.array _ _) => true | none => true | _ => false) = false := by kernel_rfl
theorem toList_bl (a b : ByteArray) : (a.toList == b.toList) = (bl a == bl b) := by
  rw [Bool.eq_iff_iff, beq_iff_eq, beq_iff_eq, ByteArray.toList_eq, ByteArray.toList_eq]
  constructor
  · intro h; unfold bl; rw [h]
  · intro h; rw [bl_inj h]
theorem run_eqStr (a b : ByteArray) (w : World) : (binOp .eql 9 (.string a) (.string b)).run Tryd.prog w = .ok (.bool (bl a == bl b)) w := by
  rw [← toList_bl]; simp [binOp, Op.stringOp]
theorem run_neStr (a b : ByteArray) (w : World) : (binOp .neq 9 (.string a) (.string b)).run Tryd.prog w = .ok (.bool (bl a != bl b)) w := by
  rw [bne, ← toList_bl]; simp [binOp, Op.stringOp]
section
variable {L : List (Nat × Value)} {w : World} {ty : TypeId}
theorem runs_neStr {t' : TypeId} {x y : Operand} {a b : ByteArray} {r : Bool} (hx : vals L x = some (.string a)) (hy : vals L y = some (.string b)) (hr : (bl a != bl b) = r) : Runs Tryd.prog (.binOp .neq 9 x y t') ty L w (Is (.bool r) w) :=
  runs_bin hx hy rfl (by rw [run_neStr, hr])
theorem runs_eqStr {t' : TypeId} {x y : Operand} {a b : ByteArray} {r : Bool} (hx : vals L x = some (.string a)) (hy : vals L y = some (.string b)) (hr : (bl a == bl b) = r) : Runs Tryd.prog (.binOp .eql 9 x y t') ty L w (Is (.bool r) w) :=
  runs_bin hx hy rfl (by rw [run_eqStr, hr])
theorem runs_cutS {x lo : Operand} {s : ByteArray} {i : Nat} (hx : vals L x = some (.string s)) (hlo : vals L lo = some (.int .i64 (i : Int))) (hi : i ≤ s.size) : Runs Tryd.prog (.slice 9 x (some lo) none none) ty L w (Is (.string (cut s i)) w) := fun o a K Q ho _ hL hK => by
  have ex := hL x (by simp [Op.operands]) _ hx
  have el := hL lo (by simp [Op.operands]) _ hlo
  unfold Oper.wp
  have : (execOp a.eval o).run Tryd.prog w = .ok (.value (.string (cut s i))) w := by
    simp [execOp, ho, ex, el, Instr.sliceAt, run_underlying und9, Instr.slice, Instr.sliceBounds, Instr.sliceBound, asIntOf, hi, cut]
  rw [this]
  exact hK _ _ ⟨rfl, rfl⟩
theorem none_ownF {B : Nat} (hB : B ≤ w.heap.size) : Runs Tryd.prog (.buildSlice 61 0 #[]) ty L w (fun v w' => ∃ g, v = .slice (some ⟨g, 0, none⟩) 0 0 ∧ w'.ownsRow B 63 37 v 0 [] ∧ Below w.heap.size w w') := by
  obtain ⟨i, hi, _, _, _⟩ := info_parts inf67
  exact (runs_buildNone und65 hi).mono (by rintro v w3 ⟨rfl, rfl⟩; exact ⟨_, rfl, ⟨by simp, .inr ⟨_, 0, #[], rfl, hB, heap_alloc_new _ _, Nat.le_refl _, by unfold maxLen; omega, by simp, by simp⟩⟩, (Below.refl _ _).alloc (Nat.le_refl _) _⟩)
theorem push_ownF {B n g2 : Nat} {s x : Operand} {sv : Value} {xs : List Value} {f : Fld} (hs : vals L s = some sv) (hown : w.ownsRow B 63 37 sv n xs) (hx : vals L x = some (.slice (some ⟨g2, 0, none⟩) 1 1)) (hX : Has w g2 63 f.cells) (hf : f.h.length = 32) (hn : n ≤ 10000) (hB : B ≤ w.heap.size) (hcap : 0 < n ∨ ∀ g m c, sv = .slice (some g) m c → c = 0) :
    Runs Tryd.prog (.call { callee := .builtin .append, args := #[s, x], argTypes := #[61, 61] }) ty L w (fun u w2 => (∃ g3 c3, u = .slice (some ⟨g3, 0, none⟩) (n + 1) c3) ∧ w2.ownsRow B 63 37 u (n + 1) (xs ++ f.cells) ∧ KR 63 37 B (xs ++ f.cells) w w2) := by
  obtain ⟨i48, hi48, hz48, hs48, hb48⟩ := info_parts inf67
  exact push_own1 und65 hi48 hz48 hs48 hb48 rfl (by omega) (by omega) hs hown hx hX (by simp [Fld.cells, hf]) (fun v hv => by
    simp only [Fld.cells, List.mem_cons] at hv
    rcases hv with rfl | rfl | rfl | rfl | rfl | hv
    · rfl
    · rfl
    · rfl
    · rfl
    · rfl
    · obtain ⟨n, _, rfl⟩ := List.mem_map.1 hv; rfl) hn hB hcap
end
end Go.Proofs.YtooeahpkhocaeaaDoor
/- The document of layer 10: which vertices have bytes, and these. Conditions: none of our own. -/
namespace Go.Proofs.YtooeahpkhocaeaaDoor
open Go.RowKit
set_option maxRecDepth 100000

end Go.Proofs.YtooeahpkhocaeaaDoor
/- The writer and the reader of layer 2, as calls that keep what lies below B. Conditions: numbers of 61 bits. -/
namespace Go.Proofs.YtooeahpkhocaeaaDoor
open Go.RowKit
set_option maxRecDepth 100000

/-- Block b is a writer that holds l; it and its row lie at B or behind. -/
def Wr (B : Nat) (w : World) (b : Nat) (l : List Nat) : Prop := B ≤ b ∧ B ≤ w.heap.size ∧ ∃ v, Out w b v l ∧ ∀ k, v.ownBlock = some k → B ≤ k
theorem Wr.below {B b : Nat} {w w' : World} {l : List Nat} (h : Wr B w b l) (k : Below w.heap.size w w') : Wr B w' b l := by
  obtain ⟨h1, h2, v, h3, h4⟩ := h
  exact ⟨h1, Nat.le_trans h2 k.size, v, h3.below k, h4⟩
theorem Wr.wrote {B b : Nat} {w w' : World} {v : Value} {l l' : List Nat} (h1 : B ≤ b) (h2 : B ≤ w.heap.size) (_h3 : Out w b v l) (h4 : ∀ k, v.ownBlock = some k → B ≤ k) (k : Wrote w b v l' w') : Wr B w' b l' ∧ Below B w w' := by
  obtain ⟨v', k1, k2, k3⟩ := k
  refine ⟨⟨h1, Nat.le_trans h2 k2.size, v', k1, fun i hi => ?_⟩, k2.below h1 h2 h4⟩
  rcases k3 with k3 | ⟨x, k3, hx⟩
  · exact h4 i (by rw [← k3, hi])
  · rw [k3] at hi; cases hi; omega
theorem wr_new (w : World) : Ans 19 [] w (fun u w' => u = .pointer (some ⟨w.heap.size, 0, none⟩) ∧ Wr w.heap.size w' w.heap.size [] ∧ Below w.heap.size w w') :=
  (newOut_any w).mono (by
    rintro e w' ⟨rfl, rfl⟩
    exact ⟨_, rfl, rfl, ⟨Nat.le_refl _, by simp, .slice none 0 0, ⟨Has.new _ _ _, rfl, .inl ⟨rfl, rfl⟩⟩, fun k hk => by simp [Value.ownBlock] at hk⟩, (Below.refl _ _).alloc (Nat.le_refl _) _⟩)
theorem Wr.mono {B B' b : Nat} {w : World} {l : List Nat} (h : Wr B w b l) (hB : B' ≤ B) : Wr B' w b l := by
  obtain ⟨h1, h2, v, h3, h4⟩ := h
  exact ⟨Nat.le_trans hB h1, Nat.le_trans hB h2, v, h3, fun k hk => Nat.le_trans hB (h4 k hk)⟩
theorem wr_num {B b n : Nat} {w : World} {l : List Nat} (h : Wr B w b l) (hn : n < 18446744073709551616) (hl : l.length ≤ 100000) : Ans 20 [.pointer (some ⟨b, 0, none⟩), .int .u64 (n : Int)] w (fun _ w' => Wr B w' b (l ++ Wire.num n) ∧ Below B w w') := by
  obtain ⟨h1, h2, v, h3, h4⟩ := h
  exact (outNum_any b n v l w hn h3 hl).mono (by rintro e w' ⟨rfl, k⟩; exact ⟨_, rfl, Wr.wrote h1 h2 h3 h4 k⟩)
theorem wr_int {B b : Nat} {n : Int} {w : World} {l : List Nat} (h : Wr B w b l) (n1 : -9223372036854775808 ≤ n) (n2 : n ≤ 9223372036854775807) (hl : l.length ≤ 100000) : Ans 54 [.pointer (some ⟨b, 0, none⟩), .int .i64 n] w (fun _ w' => Wr B w' b (l ++ Wire.num (Wire.fold n)) ∧ Below B w w') := by
  obtain ⟨h1, h2, v, h3, h4⟩ := h
  exact (outInt_any b n v l w n1 n2 h3 hl).mono (by rintro e w' ⟨rfl, k⟩; exact ⟨_, rfl, Wr.wrote h1 h2 h3 h4 k⟩)
theorem wr_done {B b : Nat} {w : World} {l : List Nat} (h : Wr B w b l) : Ans 22 [.pointer (some ⟨b, 0, none⟩)] w (Is (.string (S l)) w) := by
  obtain ⟨_, _, v, h3, _⟩ := h
  exact (done_any b v l w h3).mono (by rintro e w' ⟨rfl, rfl⟩; exact ⟨_, rfl, rfl, rfl⟩)
/-- Block b is a reader at B or behind: what is left, and what was wrong. -/
def Rd (B : Nat) (w : World) (b : Nat) (s : ByteArray) (e : Nat) : Prop := B ≤ b ∧ B ≤ w.heap.size ∧ In w b s e
theorem Rd.below {B b e : Nat} {w w' : World} {s : ByteArray} (h : Rd B w b s e) (k : Below w.heap.size w w') : Rd B w' b s e :=
  ⟨h.1, Nat.le_trans h.2.1 k.size, Has.below h.2.2 k (Has.lt h.2.2)⟩
theorem Rd.mono {B B' b e : Nat} {w : World} {s : ByteArray} (h : Rd B w b s e) (hB : B' ≤ B) : Rd B' w b s e := ⟨Nat.le_trans hB h.1, Nat.le_trans hB h.2.1, h.2.2⟩
theorem Rd.did {B b e e' : Nat} {w w' : World} {s s' : ByteArray} (h : Rd B w b s e) (k : Did w b s' e' w') : Rd B w' b s' e' ∧ Below B w w' :=
  ⟨⟨h.1, Nat.le_trans h.2.1 k.2.size, k.1⟩, k.2.below h.1 h.2.1 (fun k hk => by simp [nul, Value.ownBlock] at hk)⟩
theorem rd_num {B b e : Nat} {w : World} {s : ByteArray} (h : Rd B w b s e) : Ans 24 [.pointer (some ⟨b, 0, none⟩)] w (fun u w' => u = .int .u64 ((numRes s e).1 : Int) ∧ Rd B w' b (numRes s e).2.1 (numRes s e).2.2 ∧ Below B w w') :=
  (inNum_any b s e w h.2.2).mono (by rintro x w' ⟨rfl, k⟩; exact ⟨_, rfl, rfl, h.did k⟩)
end Go.Proofs.YtooeahpkhocaeaaDoor
/- Layer 10: natural and numbers: five numbers, each read by its own function. Conditions: none of our own. -/
namespace Go.Proofs.YtooeahpkhocaeaaDoor
open Go.RowKit
set_option maxRecDepth 100000

theorem fr_but {w w' : World} {b : Nat} (h : Fr b nul w w') : But (fun i => i = b) w w' := ⟨h.os, h.tape, h.output, h.size, fun k hk hn => h.block k hk hn (by simp [nul, Value.ownBlock])⟩
/-- A reader's turn: what it holds behind it, and that nothing else has turned. -/
def Rdd (w : World) (b : Nat) (s : ByteArray) (e : Nat) (w' : World) : Prop := In w' b s e ∧ But (fun i => i = b) w w'
theorem rdd_num {b e : Nat} {w : World} {s : ByteArray} (h : In w b s e) : Ans 24 [.pointer (some ⟨b, 0, none⟩)] w (fun u w' => u = .int .u64 ((numRes s e).1 : Int) ∧ Rdd w b (numRes s e).2.1 (numRes s e).2.2 w') :=
  (inNum_any b s e w h).mono (by rintro x w' ⟨rfl, k⟩; exact ⟨_, rfl, rfl, k.1, fr_but k.2⟩)
theorem rdd_end {b e : Nat} {w : World} {s : ByteArray} (h : In w b s e) : Ans 27 [.pointer (some ⟨b, 0, none⟩)] w (Is (.int .i64 (endOf s e : Int)) w) :=
  (end_anyw b s e w h).mono (by rintro x w' ⟨rfl, rfl⟩; exact ⟨_, rfl, rfl, rfl⟩)
end Go.Proofs.YtooeahpkhocaeaaDoor
/- Layer 10: Rows and Root. Conditions: at most 100000 vertices. -/
namespace Go.Proofs.YtooeahpkhocaeaaDoor
open Go.RowKit
set_option maxRecDepth 100000

theorem strs_ownR {w : World} {B n : Nat} {v : Value} {ss : List ByteArray} (h : w.ownsRow B 9 1 v n (ss.map Value.string)) (hn : ss.length = n) : Strs w v ss := by
  subst hn
  rcases h.2 with ⟨rfl, h0⟩ | ⟨g, c, cur, rfl, hb, hg, hc, hm, hs, ht⟩
  · exact ⟨none, 0, by rw [h0], by omega, by unfold maxLen; omega, fun h => by omega⟩
  · refine ⟨some ⟨g, 0, none⟩, c, rfl, hc, hm, fun hp => ⟨g, 0, rfl, (Array.getElem?_eq_some_iff.1 hg).1, fun i hi => ?_⟩⟩
    obtain ⟨g2, c2, e, _, _, hr⟩ := owns_rowK h hp
    simp only [Value.slice.injEq, Option.some.injEq, Addr.mk.injEq] at e
    obtain ⟨⟨rfl, _⟩, _⟩ := e
    exact hr i _ (by simp [List.getElem?_map, List.getElem?_eq_getElem hi, List.getD])
section
variable {L : List (Nat × Value)} {w : World} {ty : TypeId}
theorem runs_oneSt {x : Operand} {s : ByteArray} (hx : vals L x = some (.string s)) : Runs Tryd.prog (.buildSlice 82 1 #[(0, x)]) ty L w (fun v w' => ∃ g2, v = .slice (some ⟨g2, 0, none⟩) 1 1 ∧ Has w' g2 9 [.string s] ∧ Below w.heap.size w w') := by
  obtain ⟨i48, hi48, hz48, hs48, hb48⟩ := info_parts infStr
  exact (runs_buildSliceG (sz := 1) (pv := [(0, .string s)]) (by simp [hx]) undStrs hi48 hz48 hs48 (by omega) (by omega) (cells := #[.string s]) (by kernel_rfl)).mono (by rintro v w5 ⟨rfl, rfl⟩; exact ⟨_, rfl, Has.new w 9 [.string s], (Below.refl _ _).alloc (Nat.le_refl _) _⟩)
theorem push_ownS {B n g2 : Nat} {s x : Operand} {sv : Value} {xs : List Value} {t : ByteArray} (hs : vals L s = some sv) (hown : w.ownsRow B 9 1 sv n xs) (hx : vals L x = some (.slice (some ⟨g2, 0, none⟩) 1 1)) (hX : Has w g2 9 [.string t]) (hn : n ≤ 10000) (hB : B ≤ w.heap.size) (hcap : 0 < n ∨ ∀ g m c, sv = .slice (some g) m c → c = 0) :
    Runs Tryd.prog (.call { callee := .builtin .append, args := #[s, x], argTypes := #[82, 82] }) ty L w (fun u w2 => w2.ownsRow B 9 1 u (n + 1) (xs ++ [.string t]) ∧ Below B w w2) := by
  obtain ⟨i48, hi48, hz48, hs48, hb48⟩ := info_parts infStr
  exact (push_own1 undStrs hi48 hz48 hs48 hb48 rfl (by omega) (by omega) hs hown hx hX rfl (by simp [Value.oneCell']) hn hB hcap).mono (by rintro u w2 ⟨_, h2, h3⟩; exact ⟨h2, h3.1⟩)
end
end Go.Proofs.YtooeahpkhocaeaaDoor
