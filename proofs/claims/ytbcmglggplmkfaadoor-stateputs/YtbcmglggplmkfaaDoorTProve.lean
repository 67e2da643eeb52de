/- Layer 3: Prove. Conditions: the table of constants lies as it was laid; leaves of at most 100000 bytes, at most 1000000 of them. -/
import Derived.Test.YtbcmglggplmkfaaDoorTClimb
import Derived.Test.YtbcmglggplmkfaaDoorEngP
namespace Go.Proofs.YtbcmglggplmkfaaDoor
open Go.RowKit
set_option maxRecDepth 100000

theorem qx_n {N R : Act → World → Prop} {X : Nat → Act → World → Prop} {a : Act} {w : World} (h : N a w) : Qx N X R .normal a w := h
theorem foldl_set : ∀ (l : List Value) (k : Nat) (z : Array Value), k + l.length ≤ z.size → ((l.zipIdx k).foldl (fun (acc : Array Value) (p : Value × Nat) => acc.setIfInBounds (0 + p.2) p.1) z).toList = z.toList.take k ++ l ++ z.toList.drop (k + l.length)
  | [], k, z, _ => by simp
  | x :: l, k, z, h => by
    simp only [List.length_cons] at h
    rw [List.zipIdx_cons, List.foldl_cons, foldl_set l (k + 1) _ (by simp; omega)]
    simp only [Nat.zero_add, Array.toList_setIfInBounds, List.length_cons]
    have hk : k < z.toList.length := by simp; omega
    rw [List.take_add_one, List.take_set_of_le (by omega), List.getElem?_set_self hk, List.drop_set_of_lt (by omega), show k + 1 + l.length = k + (l.length + 1) by omega]
    simp
theorem fill_row (z : Array Value) (cs : List Value) (h : z.size = cs.length) : Instr.fill (fun i => some (i * cs.length, cs.length)) z [(0, .agg cs.toArray)] = some cs.toArray := by
  have hf := foldl_set cs 0 z (by omega)
  unfold Instr.fill
  simp only []
  split
  · rename_i hc
    exfalso
    simp [Value.cells, h] at hc
  · unfold Instr.fill
    congr 1
    apply Array.toList_inj.1
    rw [← Array.foldl_toList]
    simp only [Value.cells, Nat.zero_mul, Array.toList_zipIdx]
    rw [hf]
    simp [show z.toList.length = cs.length by simpa using h]
section
variable {P : Program} {L : List (Nat × Value)} {w : World} {ty : TypeId}
theorem runs_indexAddrN {t e : TypeId} {x y : Operand} {g o' m c sz : Nat} {k : IntKind} {i : Int} {j : Nat} (hx : vals L x = some (.slice (some ⟨g, o', none⟩) m c)) (hy : vals L y = some (.int k i)) (hu : P.underlying t = some (.slice e))
    (hs : (P.info? e).map (·.size) = some sz) (hj : i = (j : Int)) (hl : j < m) : Runs P (.indexAddr t x y) ty L w (Is (.pointer (some ⟨g, o' + j * sz, none⟩)) w) := fun o a K Q ho _ hL hK => by
  have ex := hL x (by simp [Op.operands]) _ hx
  have ey := hL y (by simp [Op.operands]) _ hy
  subst hj
  obtain ⟨ie, hie⟩ : ∃ ie, P.info? e = some ie := by
    cases h : P.info? e with
    | none => rw [h] at hs; cases hs
    | some ie => exact ⟨ie, rfl⟩
  have hsz : ie.size = sz := by rw [hie] at hs; simpa using hs
  have hadd : (⟨g, o', none⟩ : Addr).add (j * sz) = ⟨g, o' + j * sz, none⟩ := by
    unfold Addr.add; split <;> simp_all
  unfold Oper.wp
  have : (execOp a.eval o).run P w = .ok (.value (.pointer (some ⟨g, o' + j * sz, none⟩))) w := by
    simp [execOp, ho, ex, ey, Instr.indexAt, asIntOf, run_underlying hu, sizeOf, typeInfo, hie, hsz, hl, hadd]
  rw [this]
  exact hK _ w ⟨rfl, rfl⟩
/-- A slice of one element of several cells. -/
theorem runs_buildRow {t e : TypeId} {x : Operand} {cs : List Value} {ie : TypeInfo} {z : Value} (hx : vals L x = some (.agg cs.toArray)) (hu : P.underlying t = some (.slice e)) (hie : P.info? e = some ie) (hz : ie.zero = some z) (hsz : ie.size = cs.length) (hsmall : cs.length ≤ 1000) (hpos : 0 < cs.length) :
    Runs P (.buildSlice t 1 #[(0, x)]) ty L w (Built w e 1 cs.toArray) := fun o a K Q ho _ hL hK => by
  have ex := hL x (by simp [Op.operands]) _ hx
  refine wp_buildSlice t e 1 _ ho cs.toArray ie z hu hie hz (by rw [hsz]; omega) (by rw [hsz]; omega) ?_ (hK _ _ ⟨rfl, rfl⟩)
  simp only [List.map_toArray, List.map_cons, List.map_nil, ex, hsz, Nat.one_mul]
  exact fill_row _ cs (by simp)
def AppendedN (w : World) (base : Nat) (e : TypeId) (sz : Nat) (v : Value) (k : Nat) (xs : List Value) : Value → World → Prop := fun v' w' => w'.ownsRow base e sz v' k xs ∧ w.grownBy w' v.ownBlock ∧ v' ≠ .slice none 0 0
theorem runs_appendN {t e : TypeId} {s x : Operand} {i : TypeInfo} {z v : Value} {bytes base k m c sz : Nat} {xs news : List Value} {ad : Addr} (ht : P.underlying t = some (.slice e)) (hi : P.info? e = some i) (hz : i.zero = some z)
    (hsize : i.size = sz) (hby : i.bytes = bytes) (hzs : z.cells.size = sz) (hsz : 0 < sz) (hs : vals L s = some v) (hown : w.ownsRow base e sz v k xs) (hx : vals L x = some (.slice (some ad) m c)) (hl : news.length = m * sz) (hnews : ∀ j u, news[j]? = some u → w.cell? (ad.add j) = some u)
    (h1 : ∀ u ∈ news, u.oneCell' = true) (h63 : k + m ≤ maxLen) (hbytes : (k + m) * bytes ≤ 140737488355328) (hbase : base ≤ w.heap.size) (hm : 0 < m) :
    Runs P (.call { callee := .builtin .append, args := #[s, x], argTypes := #[t, t] }) ty L w (AppendedN w base e sz v (k + m) (xs ++ news)) := fun o a K Q ho _ hL hK => by
  refine wp_append_own w s x t ho base e i z sz bytes ht hi hz hsize hby hzs hsz v k xs (hL s (by simp [Op.operands, Call.operands]) v hs) hown ad m c news (hL x (by simp [Op.operands, Call.operands]) _ hx) hl hnews h1 h63 hbytes hbase ?_
  intro v' w' h2 h3 h4
  exact hK v' w' ⟨h2, h3, fun e => by have := (h4.1 e).2; omega⟩
end
/-- The value v is a slice of the sums hs. -/
def Hashes (w : World) (v : Value) (hs : List (List Nat)) : Prop :=
  ∃ (A : Option Addr) (c : Nat), v = .slice A hs.length c ∧ hs.length ≤ c ∧ c ≤ maxLen ∧ (∀ h ∈ hs, h.length = 32 ∧ Sha.Bytes h) ∧ (0 < hs.length → ∃ b o, A = some ⟨b, o, none⟩ ∧ b < w.heap.size ∧ w.rangeAt b o (U8 hs.flatten))
theorem Hashes.kept {w w' : World} {v : Value} {hs : List (List Nat)} (h : Hashes w v hs) (k : Below w.heap.size w w') : Hashes w' v hs := by
  obtain ⟨A, c, rfl, h1, h2, h3, h4⟩ := h
  refine ⟨A, c, rfl, h1, h2, h3, fun hp => ?_⟩
  obtain ⟨b, o, rfl, hb, hr⟩ := h4 hp
  exact ⟨b, o, rfl, Nat.lt_of_lt_of_le hb k.size, range_below hr k hb⟩
theorem flatten_get : ∀ (hs : List (List Nat)) (i : Nat), (∀ h ∈ hs, h.length = 32) → i < hs.length → (hs.flatten.drop (32 * i)).take 32 = hs.getD i []
  | [], i, _, h => by simp at h
  | x :: hs, 0, hl, _ => by
    have := hl x (by simp)
    simp [← this]
  | x :: hs, i + 1, hl, h => by
    have hx := hl x (by simp)
    have ih := flatten_get hs i (fun h hh => hl h (by simp [hh])) (by simpa using h)
    rw [List.flatten_cons, show 32 * (i + 1) = x.length + 32 * i by omega, List.drop_append, List.drop_eq_nil_of_le (by omega), show x.length + 32 * i - x.length = 32 * i by omega, List.nil_append, ih]
    simp
theorem range_sub {w : World} {b o : Nat} {cs : List Value} (h : w.rangeAt b o cs) (k n : Nat) : w.rangeAt b (o + k) ((cs.drop k).take n) := fun j v hv => by
  rw [List.getElem?_take] at hv
  split at hv
  · rw [List.getElem?_drop] at hv
    rw [show o + k + j = o + (k + j) by omega]
    exact h (k + j) v hv
  · cases hv
/-- What a part beside the way comes to. -/
def topOf (l : List (List Nat)) (x : Nat × Nat × Bool) : List Nat := Tree.top ((l.drop x.1).take (x.2.1 - x.1))
theorem infHashb : (Tryd.prog.info? 39).map (fun i => (i.zero, i.size, i.bytes)) = some (some (.agg (U8 (List.replicate 32 0)).toArray), 32, 32) := by kernel_rfl
theorem infHashes1 : (Tryd.prog.info? 42).map (·.size) = some 1 := by kernel_rfl
theorem infHashesZ : (Tryd.prog.info? 42).map (fun i => (i.zero, i.size, i.bytes)) = some (some (.slice none 0 0), 1, 24) := by kernel_rfl
set_option maxRecDepth 100000 in
set_option maxHeartbeats 1000000 in
theorem prove1_any (ss : List ByteArray) (lv pv : Value) (gp gl f e k base : Nat) (left : Value) (xs : List Value) (w : World) (hp : Has w gp 42 [pv]) (hl : Has w gl 36 [lv]) (hs : Strs w lv ss) (hsz : ∀ s ∈ ss, s.size ≤ 100000) (hnm : ss.length ≤ 1000000) (hfe : f < e) (hes : e ≤ ss.length) (hk : Kept w) (hown : w.ownsRow base 39 32 pv k xs) (hkm : k ≤ 1000) (hbase : base ≤ w.heap.size) :
    Calls Tryd.prog 44 #[.int .i64 (f : Int), .int .i64 (e : Int), left, .pointer (some ⟨gp, 0, none⟩), .pointer (some ⟨gl, 0, none⟩)] w fun r w' => r = .returned (.tuple #[]) ∧ ∃ v' w2, w' = w2.setCell ⟨gp, 0, none⟩ v' ∧ Has w2 gp 42 [pv] ∧ w2.ownsRow base 39 32 v' (k + 1) (xs ++ U8 (topOf (ss.map bl) (f, e, false))) ∧ (∀ i, i < w.heap.size → some i ≠ pv.ownBlock → w2.heap[i]? = w.heap[i]?) ∧ w.heap.size ≤ w2.heap.size ∧ w2.os = w.os ∧ w2.tape = w.tape ∧ w2.output = w.output := by
  refine calls_qx (args := [.int .i64 (f : Int), .int .i64 (e : Int), left, .pointer (some ⟨gp, 0, none⟩), .pointer (some ⟨gl, 0, none⟩)]) 17 Tryd.func44 rfl (by kernel_rfl) (by simp) (fun a hS => ?_)
  obtain ⟨ih, hih, hzh, hszh, hbh⟩ := info_parts infHashb
  obtain ⟨A, c, rfl, hc1, hc2, hA⟩ := hs
  obtain ⟨b, o, rfl, hb, hcell⟩ := hA (by omega)
  have hpart := strs_part hb hcell f (e - f) (by omega) (by omega)
  have hlenp : ((ss.drop f).take (e - f)).length = e - f := by simp; omega
  have htl := top_len (((ss.map bl).drop f).take (e - f))
  have ct : ∀ w', Below w.heap.size w w' → Calls Tryd.prog 41 [Value.slice (some ⟨b, o + f, none⟩) (e - f) (e - f)].toArray w' fun r w2 => ∃ v, r = .returned v ∧ v = .agg (U8 (topOf (ss.map bl) (f, e, false))).toArray ∧ Below w.heap.size w w2 ∧ Below w'.heap.size w' w2 := fun w' hB' => by
    have := top_any (e - f) ((ss.drop f).take (e - f)) _ w' hlenp (hpart.kept hB') (fun s h => hsz s (List.mem_of_mem_drop (List.mem_of_mem_take h))) (by omega) (hk.below hB' hk.pos)
    rw [map_take_drop] at this
    exact hash_post _ this (fun _ h => ⟨hB'.trans (h.mono hB'.size), h⟩)
  refine reg_guard (fun w' => Below w.heap.size w w') [.inl pv, .inl (.slice (some ⟨b, o, none⟩) ss.length c), .inl (.int .i64 (f : Int)), .inl (.int .i64 (e : Int)), .inl (.int .i64 (e : Int)), .inl (.slice (some ⟨b, o + f, none⟩) (e - f) (e - f)), .inl (.agg (U8 (topOf (ss.map bl) (f, e, false))).toArray), .inr (fun v w' => ∃ g, v = .slice (some ⟨g, 0, none⟩) 1 1 ∧ Has w' g 39 (U8 (topOf (ss.map bl) (f, e, false))))] 8 2 mixed rfl (by kernel_rfl) hS (Below.refl _ _) (fun _ h => h.drew) ?_
  refine hs_is rfl (fun w' hw => runs_load rfl (by kernel_rfl) (by rw [hw.cell (p := ⟨gp, 0, none⟩) hp.lt]; exact hp.cell 0)) ?_
  refine hs_is rfl (fun w' hw => runs_load rfl (by kernel_rfl) (by rw [hw.cell (p := ⟨gl, 0, none⟩) hl.lt]; exact hl.cell 0)) ?_
  refine hs_is rfl (fun w' hw => runs_move rfl) ?_
  refine hs_is rfl (fun w' hw => runs_move rfl) ?_
  refine hs_is rfl (fun w' hw => runs_move rfl) ?_
  refine hs_is rfl (fun w' hw => runs_slicekn rfl rfl rfl rfl rfl rfl rfl undStrs infStr1 hfe (by omega)) ?_
  refine hs_val rfl (fun w' hw _ => runs_call (args := [.slice (some ⟨b, o + f, none⟩) (e - f) (e - f)]) goes41 rfl (ct w' hw)) ?_
  refine hs_pr rfl (fun v w1 w2 ⟨g, h1, h2⟩ hb => ⟨g, h1, h2.below hb h2.lt⟩) (fun w' hw _ => (runs_buildRow rfl undHashes hih hzh (by rw [hszh, U8_length]; exact htl.symm) (by rw [U8_length, topOf, htl]; omega) (by rw [U8_length, topOf, htl]; omega)).mono ?_) (fun v15 => ?_)
  · rintro v w2 ⟨rfl, rfl⟩
    exact ⟨⟨_, rfl, Has.new w' 39 _⟩, hw.alloc hw.size _, (Below.refl _ _).alloc (Nat.le_refl _) _⟩
  refine (fun a5 w5 hS5 hB5 hps => ?_)
  obtain ⟨g5, rfl, hG5⟩ := hps _ List.mem_cons_self
  have hsz5 := hB5.size
  have hp5 : Has w5 gp 42 [pv] := hp.below hB5 hp.lt
  have hown5 : w5.ownsRow base 39 32 pv k xs := by
    refine ⟨hown.1, ?_⟩
    rcases hown.2 with h | ⟨g, cap, cur, h1, h2, h3, h4⟩
    · exact .inl h
    · exact .inr ⟨g, cap, cur, h1, h2, (hB5.block g (Array.getElem?_eq_some_iff.1 h3).1).trans h3, h4⟩
  refine tail_op 8 (by kernel_rfl) rfl hS5 (by decide) (runs_appendN undHashes hih hzh hszh hbh (by simp [Value.cells]) (by omega) rfl hown5 rfl (news := U8 (topOf (ss.map bl) (f, e, false))) (by rw [U8_length, topOf, htl]) (fun j u hj => by rw [add_zero_addr, Nat.zero_add, hG5.cell]; exact hj) (U8_one _) (by unfold maxLen; omega) (by omega) (by omega) (by omega)) (fun v6 w6 a6 hp6 hS6 => ⟨trivial, ?_⟩)
  obtain ⟨hown6, hgr6, hne6⟩ := hp6
  have hbne : some gp ≠ pv.ownBlock := own_ne hown5 hp5 (by decide)
  have hp6 : Has w6 gp 42 [pv] := (hgr6.block gp hp5.lt hbne).trans hp5
  obtain ⟨A6, c6, rfl⟩ := own_shape hown6
  refine tail_none 9 (by kernel_rfl) rfl hS6 (runs_store rfl rfl rfl infHashes1 (hp6.cell 0) (hp6.open_ 0)) (fun v7 w7 a7 hp7 hS7 => ⟨trivial, ?_⟩)
  obtain ⟨rfl, rfl⟩ := hp7
  refine wpAnyH_done (by kernel_rfl) ?_ _
  exact qx_n (ret0 (by kernel_rfl) hS7 ⟨rfl, _, w6, rfl, hp6, hown6, fun i hi hne => (hgr6.block i (by omega) hne).trans (hB5.block i hi), Nat.le_trans hsz5 hgr6.size, hgr6.os.trans hB5.os, hgr6.tape.trans hB5.tape, hgr6.output.trans hB5.output⟩)
/-- The proof of a leaf that is there. -/
def proofOf (l : List (List Nat)) (at_ : Nat) : List (List Nat) := (Tree.path 0 l.length at_).map (topOf l)
theorem hashes_own {w : World} {base : Nat} {v : Value} {hs : List (List Nat)} (h : w.ownsRow base 39 32 v hs.length (U8 hs.flatten)) (hl : ∀ h ∈ hs, h.length = 32 ∧ Sha.Bytes h) : Hashes w v hs := by
  rcases h.2 with ⟨hv, hn⟩ | ⟨g, cap, cur, hv, hb, hg, hn, hm, _⟩
  · exact ⟨none, 0, by rw [hv, hn], by omega, by unfold maxLen; omega, hl, fun hp => by omega⟩
  · refine ⟨_, cap, hv, hn, hm, hl, fun _ => ⟨g, 0, rfl, (Array.getElem?_eq_some_iff.1 hg).1, fun j u hu => ?_⟩⟩
    have := h.cells (g := g) (by rw [hv]; rfl) j u hu
    rwa [add_zero_addr] at this
theorem proofOf_ok (l : List (List Nat)) (at_ : Nat) : ∀ h ∈ proofOf l at_, h.length = 32 ∧ Sha.Bytes h := fun h hh => by
  obtain ⟨x, _, rfl⟩ := List.mem_map.1 hh
  exact ⟨top_len _, top_bytes _⟩
set_option maxRecDepth 100000 in
set_option maxHeartbeats 1000000 in
theorem prove_any (ss : List ByteArray) (v : Value) (at_ : Int) (w : World) (hs : Strs w v ss) (hsz : ∀ s ∈ ss, s.size ≤ 100000) (hnm : ss.length ≤ 1000000) (hk : Kept w) :
    Calls Tryd.prog 20 #[v, .int .i64 at_] w fun r w' => ∃ pv : Value, r = .returned (.tuple #[pv, .int .i64 (if thereB ss.length at_ then 0 else 30)]) ∧ Hashes w' pv (if thereB ss.length at_ then proofOf (ss.map bl) at_.toNat else []) ∧ Below w.heap.size w w' := by
  refine calls_qx (args := [v, .int .i64 at_]) 18 Tryd.func20 rfl (by kernel_rfl) (by simp) (fun a hS => ?_)
  refine qx_seq (reg_seq ?_)
  refine seq_op hS (by decide) (runs_box rfl) (fun v1 w1 a1 hp1 hS => ?_)
  obtain ⟨rfl, rfl⟩ := hp1
  have hs0 := hs
  obtain ⟨A, c, rfl, hc1, hc2, hA⟩ := hs0
  have hL1 : Has (w.alloc (.cells (Value.slice A ss.length c).cells 36)) w.heap.size 36 [.slice A ss.length c] := Has.new w 36 [.slice A ss.length c]
  have hB1 : Below w.heap.size w (w.alloc (.cells (Value.slice A ss.length c).cells 36)) := (Below.refl _ _).alloc (Nat.le_refl _) _
  have hz1 : (w.alloc (.cells (Value.slice A ss.length c).cells 36)).heap.size = w.heap.size + 1 := by simp
  generalize w.alloc (.cells (Value.slice A ss.length c).cells 36) = w1 at *
  refine seq_is hS (by decide) (runs_assign rfl) (fun a1 hS => ?_)
  refine seq_is hS (by decide) (runs_assign rfl) (fun a1 hS => ?_)
  refine nil_ok (qx_seq (qx_seq (reg_seq ?_)))
  refine seq_is hS (by decide) (runs_load rfl (by kernel_rfl) (hL1.cell 0)) (fun a1 hS => ?_)
  refine seq_is hS (by decide) (runs_len rfl undStrs) (fun a1 hS => ?_)
  refine seq_is hS (by decide) (runs_move rfl) (fun a1 hS => ?_)
  refine seq_is hS (by decide) (runs_call (args := [.int .i64 (ss.length : Int), .int .i64 at_]) (Post := Is (.bool (thereB ss.length at_)) w1) goes42 rfl ((there_any ss.length at_ w1).mono (by rintro e w' ⟨rfl, rfl⟩; exact ⟨_, rfl, rfl, rfl⟩))) (fun a1 hS => ?_)
  refine seq_is hS (by decide) (runs_not rfl) (fun a1 hS => ?_)
  cases ht : thereB ss.length at_ with
  | false =>
    rw [ht] at hS
    refine nil_ok (wp_cond_true (hS.eval rfl) (qx_seq (reg_seq ?_)))
    refine seq_is hS (by decide) (runs_assign rfl) (fun a1 hS => ?_)
    refine seq_is hS (by decide) (runs_assign rfl) (fun a1 hS => ?_)
    exact nil_ok (qx_ret (ret2 (t := 4) (u := 5) (by kernel_rfl) hS rfl rfl ⟨_, rfl, ⟨none, 0, rfl, by simp, by unfold maxLen; omega, fun h hh => by simp at hh, fun h => by simp at h⟩, hB1⟩))
  | true =>
    rw [ht] at hS
    refine nil_ok (wp_cond_false (hS.eval rfl) (wp_skip ?_))
    have ht' := ht
    simp only [thereB, Bool.and_eq_true, decide_eq_true_eq] at ht'
    obtain ⟨p, rfl⟩ := Int.eq_ofNat_of_zero_le ht'.1
    obtain ⟨i3, hi3, hz3, _, _⟩ := info_parts infHashesZ
    refine qx_seq (reg_seq ?_)
    refine seq_op hS (by decide) (runs_alloc hi3 hz3) (fun v2 w2 a2 hp2 hS => ?_)
    obtain ⟨rfl, rfl⟩ := hp2
    have hP2 : Has (w1.alloc (.cells (Value.slice none 0 0).cells 42)) w1.heap.size 42 [.slice none 0 0] := Has.new w1 42 [.slice none 0 0]
    have hB2 : Below w1.heap.size w1 (w1.alloc (.cells (Value.slice none 0 0).cells 42)) := (Below.refl _ _).alloc (Nat.le_refl _) _
    have hz2 : (w1.alloc (.cells (Value.slice none 0 0).cells 42)).heap.size = w1.heap.size + 1 := by simp
    generalize w1.alloc (.cells (Value.slice none 0 0).cells 42) = w2 at *
    refine nil_ok (qx_seq (reg_seq ?_))
    have hL2 : Has w2 w.heap.size 36 [.slice A ss.length c] := hL1.below hB2 (by omega)
    refine seq_is hS (by decide) (runs_load rfl (by kernel_rfl) (hL2.cell 0)) (fun a1 hS => ?_)
    refine seq_is hS (by decide) (runs_len rfl undStrs) (fun a1 hS => ?_)
    refine seq_is hS (by decide) (runs_move rfl) (fun a1 hS => ?_)
    refine seq_is hS (by decide) (runs_makeFunc (cs := [.pointer (some ⟨w1.heap.size, 0, none⟩), .pointer (some ⟨w.heap.size, 0, none⟩)]) rfl) (fun a1 hS => ?_)
    have hpl := path_len 20 ss.length 0 p (by omega)
    have hcl := climb_any 44 [.pointer (some ⟨w1.heap.size, 0, none⟩), .pointer (some ⟨w.heap.size, 0, none⟩)] goes44 (Tree.path 0 ss.length p)
      (fun done w' => ∃ pv, Has w' w1.heap.size 42 [pv] ∧ w'.ownsRow w.heap.size 39 32 pv done.length (U8 (done.map (topOf (ss.map bl))).flatten) ∧ Has w' w.heap.size 36 [.slice A ss.length c] ∧ Below w.heap.size w w') (fun done f e left w' hI hpre => by
        obtain ⟨pv, hP, hO, hL, hB⟩ := hI
        have hll := hpre.length_le
        rw [List.length_append, List.length_singleton] at hll
        have hmem : (f, e, left) ∈ Tree.path 0 ss.length p := hpre.subset (by simp)
        have hpm := path_mem _ _ _ _ hmem
        simp only at hpm
        refine (prove1_any ss (.slice A ss.length c) pv w1.heap.size w.heap.size f e done.length w.heap.size (.bool left) _ w' hP hL (hs.kept hB) hsz hnm (by omega) (by omega) (hk.below hB hk.pos) hO (by omega) hB.size).mono ?_
        rintro r w'' ⟨rfl, v', w3, rfl, hP3, hO3, hblk, hsz3, hos, htp, hout⟩
        have hne3 : some w1.heap.size ≠ v'.ownBlock := own_ne hO3 hP3 (by decide)
        have hLne : some w.heap.size ≠ pv.ownBlock := own_ne hO hL (by decide)
        refine ⟨rfl, v', hP3.set_ 0 v', ?_, ?_, ?_⟩
        · rw [List.length_append, List.length_singleton, List.map_append, List.flatten_append, U8_append, show (List.map (topOf (ss.map bl)) [(f, e, left)]).flatten = topOf (ss.map bl) (f, e, false) by simp [topOf]]
          refine ⟨hO3.1, ?_⟩
          rcases hO3.2 with h | ⟨g, cap, cur, h1, h2, h3, h4⟩
          · exact .inl h
          · refine .inr ⟨g, cap, cur, h1, h2, ?_, ?_⟩
            · rw [Below.heap_setCell w3 ⟨w1.heap.size, 0, none⟩ _ g (fun e => hne3 (by rw [h1]; simp [Value.ownBlock, e]))]
              exact h3
            · exact h4
        · exact Has.far ((hblk w.heap.size hL.lt hLne).trans hL) (by simp; omega) _
        · refine Below.setCell ⟨hos.trans hB.os, htp.trans hB.tape, hout.trans hB.output, Nat.le_trans hB.size hsz3, fun i hi => ?_⟩ (by simp; omega) _
          have hine : some i ≠ pv.ownBlock := fun e => by have := (hO.lt i e.symm).1; omega
          exact (hblk i (by have := hB.size; omega) hine).trans (hB.block i hi)) ss.length 0 p [] w2 (by omega)
      ⟨_, hP2, World.ownsRow_nil _ _ _ _, hL2, hB1.trans (hB2.mono (by omega))⟩ (by rw [List.nil_append]; exact List.prefix_refl _)
    rw [List.nil_append, Nat.zero_add] at hcl
    refine seq_op hS (by decide) (runs_call (args := [.int .i64 0, .int .i64 (ss.length : Int), .int .i64 (p : Int), .func (.func 44) #[] [Value.pointer (some ⟨w1.heap.size, 0, none⟩), .pointer (some ⟨w.heap.size, 0, none⟩)].toArray])
      (Post := fun _ w' => ∃ pv, Has w' w1.heap.size 42 [pv] ∧ w'.ownsRow w.heap.size 39 32 pv (Tree.path 0 ss.length p).length (U8 ((Tree.path 0 ss.length p).map (topOf (ss.map bl))).flatten) ∧ Has w' w.heap.size 36 [.slice A ss.length c] ∧ Below w.heap.size w w') goes43 rfl (hcl.mono (by rintro e w' ⟨rfl, h⟩; exact ⟨_, rfl, h⟩))) (fun v3 w3 a3 hp hS => ?_)
    obtain ⟨pv, hP3, hO3, _, hB3⟩ := hp
    refine nil_ok (qx_seq (reg_seq ?_))
    refine seq_is hS (by decide) (runs_load rfl (by kernel_rfl) (hP3.cell 0)) (fun a1 hS => ?_)
    refine seq_is hS (by decide) (runs_assign rfl) (fun a1 hS => ?_)
    refine seq_is hS (by decide) (runs_assign rfl) (fun a1 hS => ?_)
    refine nil_ok (qx_ret (ret2 (t := 4) (u := 5) (by kernel_rfl) hS rfl rfl ⟨pv, rfl, ?_, hB3⟩))
    have he : (Tree.path 0 ss.length p).map (topOf (ss.map bl)) = proofOf (ss.map bl) p := by unfold proofOf; rw [List.length_map]
    rw [if_pos rfl, Int.toNat_natCast]
    have hln : (Tree.path 0 ss.length p).length = (proofOf (ss.map bl) p).length := by rw [← he, List.length_map]
    rw [he, hln] at hO3
    exact hashes_own hO3 (proofOf_ok _ _)
end Go.Proofs.YtbcmglggplmkfaaDoor
