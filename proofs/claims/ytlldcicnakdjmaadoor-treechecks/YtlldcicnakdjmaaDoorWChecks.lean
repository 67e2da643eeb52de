/- How slices of sums come in, and the walk of TreeChecks. Conditions: the table of constants lies as it was laid. -/
import Derived.Test.YtlldcicnakdjmaaDoorTRefD
namespace Go.Proofs.YtlldcicnakdjmaaDoor
open Go.ChangeShapes Go.WideShapes Go.ChangeAt Go.RowKit Go.Deep

theorem add_lit' (b o i : Nat) : (⟨b, o, none⟩ : Addr).add i = ⟨b, o + i, none⟩ := by unfold Addr.add; split <;> simp_all
section
variable {H : Type} {enc : TypeId × Value → H} {W : World} {base b0 : Nat} {r : Reach} {sp : Nat → Bool} {held : Bool} {v : Value} {d : DataW H} {p : List MemPlace}
theorem hash_cells {m : Nat} {cs : List Value} {x : DataW H × List MemPlace} (hf : DataW.trod enc Tryd.prog W base sp held m 26 cs = some x) : ∃ l : List Nat, l.length = 32 ∧ Sha.Bytes l ∧ cs = U8 l := by
  obtain ⟨xs, m, _, _, hlen, hn, hel⟩ := DataW.trod_array undHash hf
  have hcs : cs.length = 32 := by rw [← c26]; exact hlen
  have hcell : ∀ i, i < 32 → ∃ n : Nat, n < 256 ∧ cs[i]? = some (.int .u8 (n : Int)) := fun i hi => by
    have h1 := hel i hi
    rw [c5] at h1
    have hxi : xs[i]? = some (xs[i]'(by omega)) := List.getElem?_eq_getElem _
    rw [hxi] at h1
    obtain ⟨n, e1, _, wf⟩ := DataW.trod_int und5 h1
    have hb : 0 ≤ n ∧ n ≤ 255 := bounds_u8 wf
    refine ⟨n.toNat, by omega, ?_⟩
    have := congrArg (fun l => l[0]?) e1
    simp only [List.getElem?_take, List.getElem?_drop, Nat.mul_one, Nat.add_zero] at this
    rw [Int.toNat_of_nonneg hb.1]
    simpa using this
  refine ⟨cs.map (fun u => match u with | .int _ n => n.toNat | _ => 0), by simpa using hcs, ?_, ?_⟩
  · intro x hx
    obtain ⟨u, hu, rfl⟩ := List.mem_map.1 hx
    obtain ⟨i, hi, rfl⟩ := List.mem_iff_getElem.1 hu
    obtain ⟨n, hn256, e⟩ := hcell i (by omega)
    rw [List.getElem?_eq_getElem hi] at e
    injection e with e
    rw [e]
    simpa using hn256
  · unfold U8
    rw [List.map_map]
    apply List.ext_getElem (by simp)
    intro i h1 h2
    obtain ⟨n, _, e⟩ := hcell i (by omega)
    rw [List.getElem?_eq_getElem h1] at e
    injection e with e
    simp only [List.getElem_map, Function.comp]
    rw [e]
    simp
theorem flat_len : ∀ (hs : List (List Nat)), (∀ h ∈ hs, h.length = 32) → hs.flatten.length = hs.length * 32
  | [], _ => rfl
  | h :: hs, hl => by
    rw [List.flatten_cons, List.length_append, hl h (by simp), flat_len hs (fun g hg => hl g (by simp [hg])), List.length_cons]
    omega
theorem open_hashes {W : World} {p : List MemPlace} (hv : Value.okWide Tryd.prog W r b0 32 v) (h : DataW.Trod enc Tryd.prog W base (fun _ => true) held 32 v d p) (hlt : ∀ x ∈ p, x.block < W.heap.size) : ∃ hs : List (List Nat), Hashes W v hs := by
  obtain ⟨a0, len, cap, rfl⟩ := okWide_slice undHashes hv
  obtain ⟨fuel, hf⟩ := h
  rcases open_slice undHashes hf with ⟨hcs, hx⟩ | ⟨a, len', cap', m, n, D, Pl, hcs, hb, hl, hm, hmm, hx, hi⟩
  · simp [Value.cells] at hcs
    obtain ⟨rfl, rfl, rfl⟩ := hcs
    exact ⟨[], _, _, rfl, Nat.le_refl _, by unfold maxLen; omega, by simp, fun h => by simp at h⟩
  · simp [Value.cells] at hcs
    obtain ⟨rfl, rfl, rfl⟩ := hcs
    simp only [if_true] at hmm
    subst hmm
    simp only [Prod.mk.injEq] at hx
    have hel : ∀ i, i < len → ∃ l : List Nat, (l.length = 32 ∧ Sha.Bytes l) ∧ ∀ j u, (U8 l)[j]? = some u → W.cell? ((a.add (i * 32)).add j) = some u := fun i hil => by
      obtain ⟨cs', hc, ht'⟩ := hi i (by omega)
      rw [c26] at hc
      obtain ⟨l, h32, hby, e⟩ := hash_cells ht'
      obtain ⟨_, hcl, hat⟩ := World.cells?_some hc
      refine ⟨l, ⟨h32, hby⟩, fun j u hu => ?_⟩
      have hj : j < 32 := by have := (List.getElem?_eq_some_iff.1 hu).1; rwa [U8_length, h32] at this
      rw [hat j hj, e]; exact hu
    by_cases h0 : len = 0
    · subst h0
      exact ⟨[], some a, _, rfl, hl, hm, by simp, fun h => by simp at h⟩
    obtain ⟨b, off, spot⟩ := a
    have hspot : spot = none := by
      obtain ⟨l, ⟨h32, _⟩, hc⟩ := hel 0 (by omega)
      have := hc 0 _ (List.getElem?_eq_getElem (by rw [U8_length, h32]; omega))
      simpa [Addr.add] using World.cell?_spot this
    subst hspot
    have hall : ∃ hs : List (List Nat), hs.length = len ∧ (∀ h ∈ hs, h.length = 32 ∧ Sha.Bytes h) ∧ W.rangeAt b off (U8 hs.flatten) := by
      clear hl hm hx hi hf hv hb h0
      induction len with
      | zero => exact ⟨[], rfl, by simp, fun i f h => by simp [U8] at h⟩
      | succ k ih =>
        obtain ⟨hs, h1, h2, h3⟩ := ih (fun i hi => hel i (by omega))
        obtain ⟨l, hok, hf⟩ := hel k (by omega)
        have hfl := flat_len hs (fun h hh => (h2 h hh).1)
        refine ⟨hs ++ [l], by simp [h1], fun g hg => ?_, fun j u hu => ?_⟩
        · rcases List.mem_append.1 hg with hg | hg
          · exact h2 g hg
          · rw [List.mem_singleton.1 hg]; exact hok
        · rw [List.flatten_append, List.flatten_singleton] at hu
          unfold U8 at hu
          rw [List.map_append] at hu
          by_cases hj : j < hs.flatten.length
          · rw [List.getElem?_append_left (by rw [List.length_map]; exact hj)] at hu
            exact h3 j u hu
          · rw [List.getElem?_append_right (by rw [List.length_map]; omega), List.length_map, hfl, h1] at hu
            have := hf (j - k * 32) u hu
            rw [add_lit', add_lit'] at this
            rw [hfl, h1] at hj
            rwa [show off + k * 32 + (j - k * 32) = off + j by omega] at this
    obtain ⟨hs, h1, h2, h3⟩ := hall
    subst h1
    refine ⟨hs, some ⟨b, off, none⟩, _, rfl, hl, hm, h2, fun _ => ⟨b, off, rfl, hlt (.cell b off) ?_, h3⟩⟩
    rw [hx.2]
    exact List.mem_append_left _ (MemPlace.mem_row.2 ⟨0, by rw [c26]; omega, by simp⟩)
end
section
variable {P : Program} {L : List (Nat × Value)} {w : World} {ty : TypeId}
theorem runs_append0N {t e : TypeId} {s x : Operand} {i : TypeInfo} {z : Value} {bytes g m c sz : Nat} {news : List Value} {ad : Addr} (ht : P.underlying t = some (.slice e)) (hi : P.info? e = some i) (hz : i.zero = some z)
    (hsize : i.size = sz) (hby : i.bytes = bytes) (hzs : z.cells.size = sz) (hsz : 0 < sz) (hs : vals L s = some (.slice (some ⟨g, 0, none⟩) 0 0)) (hx : vals L x = some (.slice (some ad) m c)) (hl : news.length = m * sz) (hnews : ∀ j u, news[j]? = some u → w.cell? (ad.add j) = some u)
    (h63 : m ≤ maxLen) (hbytes : m * bytes ≤ 140737488355328) (hm : 0 < m) :
    Runs P (.call { callee := .builtin .append, args := #[s, x], argTypes := #[t, t] }) ty L w (fun v w' => w'.ownsRow w.heap.size e sz v m news ∧ Below w.heap.size w w') := fun o a K Q ho _ hL hK => by
  have e1 := hL s (by simp [Op.operands, Call.operands]) _ hs
  have e2 := hL x (by simp [Op.operands, Call.operands]) _ hx
  obtain ⟨v', w', hr, h2, h3⟩ := run_append_arg_grows (P := P) w t o.type e i z sz bytes ht hi hz hsize hby hzs hsz ⟨g, 0, none⟩ 0 0 [] (by simp) (fun j u h => by simp at h) ad m c news hl hnews (by omega) (by omega) (by simpa using hbytes)
  unfold Oper.wp execOp
  simp only [ho, resolve, invoke, builtin, Sem.run_bind, Sem.run_pure, Result.andThen_ok, List.map_toArray, List.map_cons, List.map_nil, e1, e2, hr]
  rw [Nat.zero_add, List.nil_append] at h2
  exact hK v' w' ⟨h2, (Below.refl _ _).grown h3 (Nat.le_refl _) (fun k h => by cases h)⟩
theorem runs_eqBool {t' : TypeId} {x y : Operand} {a b r : Bool} (hx : vals L x = some (.bool a)) (hy : vals L y = some (.bool b)) (hr : (a == b) = r) : Runs Tryd.prog (.binOp .eql 4 x y t') ty L w (Is (.bool r) w) :=
  runs_bin hx hy rfl (by rw [run_eql_bool w 4 a b (by kernel_rfl), hr])
/-- A copy of a slice of sums. -/
theorem copy_hashes {s x : Operand} {g : Nat} {v : Value} {hs : List (List Nat)} (hH : Hashes w v hs) (hn : hs.length ≤ 1000) (hs2 : vals L s = some (.slice (some ⟨g, 0, none⟩) 0 0)) (hx : vals L x = some v) :
    Runs Tryd.prog (.call { callee := .builtin .append, args := #[s, x], argTypes := #[32, 32] }) ty L w (fun u w2 => Hashes w2 u hs ∧ Below w.heap.size w w2) := by
  obtain ⟨ih, hih, hzh, hszh, hbh⟩ := info_parts infHashb
  obtain ⟨A, c, rfl, hc1, hc2, hok, hA⟩ := hH
  by_cases h0 : hs.length = 0
  · rw [h0] at hx
    refine (runs_appendNone undHashes hih hs2 (Nat.le_refl _) (by simp) hx).mono ?_
    rintro u w2 ⟨rfl, rfl⟩
    exact ⟨⟨_, 0, by rw [h0], by omega, by unfold maxLen; omega, hok, fun h => by omega⟩, Below.refl _ _⟩
  · obtain ⟨b, o, rfl, hb, hra⟩ := hA (by omega)
    refine (runs_append0N (m := hs.length) undHashes hih hzh hszh hbh (by simp [Value.cells]) (by omega) hs2 hx (news := U8 hs.flatten) (by rw [U8_length, flat_len hs (fun h hh => (hok h hh).1)]) (fun j u hu => ?_) (by omega) (by omega) (by omega)).mono ?_
    · rw [add_lit']; exact hra j u hu
    · rintro u w2 ⟨h3, h4⟩
      exact ⟨hashes_own h3 hok, h4⟩
end
theorem bool_post {f : FuncId} {args : Array Value} {w : World} {b : Bool} (C : World → Prop) (hc : Calls Tryd.prog f args w fun e w' => e = .returned (.bool b) ∧ Below w.heap.size w w') (hC : ∀ w', Below w.heap.size w w' → C w') :
    Calls Tryd.prog f args w fun e w' => ∃ v, e = .returned v ∧ v = .bool b ∧ C w' := hc.mono (by rintro e w' ⟨rfl, h⟩; exact ⟨_, rfl, rfl, hC w' h⟩)
set_option maxRecDepth 100000 in
set_option maxHeartbeats 1000000 in
theorem checks_walk (root : List Nat) (n at_ : Int) (s : ByteArray) (v : Value) (hs : List (List Nat)) (w : World) (hrl : root.length = 32) (hH : Hashes w v hs) (hk : Kept w) :
    Calls Tryd.prog 6 #[.agg (U8 root).toArray, .int .i64 n, .int .i64 at_, .string s, v] w fun e w' => e = .returned (.bool true) ∧ Below w.heap.size w w' := by
  refine calls_qx (args := [.agg (U8 root).toArray, .int .i64 n, .int .i64 at_, .string s, v]) 48 Tryd.func6 rfl (by kernel_rfl) (by simp) (fun a hS => ?_)
  refine qx_seq (reg_seq ?_)
  refine seq_op hS (by decide) (runs_box rfl) (fun v1 w1 a1 hp1 hS => ?_)
  obtain ⟨rfl, rfl⟩ := hp1
  have hR1 : Has (w.alloc (.cells (Value.agg (U8 root).toArray).cells 26)) w.heap.size 26 (U8 root) := Has.new w 26 (U8 root)
  have hB1 : Below w.heap.size w (w.alloc (.cells (Value.agg (U8 root).toArray).cells 26)) := (Below.refl _ _).alloc (Nat.le_refl _) _
  generalize w.alloc (.cells (Value.agg (U8 root).toArray).cells 26) = w1 at *
  refine seq_is hS (by decide) (runs_assign rfl) (fun a1 hS => ?_)
  refine nil_ok (qx_seq (qx_seq (reg_seq ?_)))
  refine seq_op hS (by decide) (runs_call (args := []) goes12 rfl (awake_call w1 (hk.below hB1 hk.pos))) (fun v1 w3 a1 hp1 hS => ?_)
  obtain ⟨rfl, hB3⟩ := hp1
  have hBw3 : Below w.heap.size w w3 := hB1.trans (hB3.mono hB1.size)
  have hk3 := hk.below hBw3 hk.pos
  have hR3 := hR1.below hB3 hR1.lt
  have hH3 := hH.kept hBw3
  have hH4 := hH3
  obtain ⟨A, c, rfl, _⟩ := hH4
  have last : ∀ (L : List (Nat × Value)) (a9 : Act) (N : Act → World → Prop) (X : Nat → Act → World → Prop), Sees 48 L a9 → ((Tryd.f6.body.bind (regionIn 2)).getD .skip).wp Tryd.prog (Qx (fun a' w' => Code.ret.wp Tryd.prog (Qx N X (Rets Tryd.prog Tryd.f6 (fun e w' => e = .returned (.bool true) ∧ Below w.heap.size w w'))) a' w') X (Rets Tryd.prog Tryd.f6 (fun e w' => e = .returned (.bool true) ∧ Below w.heap.size w w'))) a9 w3 := fun L a9 N X hS => by
    refine reg_seq ?_
    refine seq_op hS (by decide) (runs_call (args := []) goes12 rfl (awake_call w3 hk3)) (fun v2 w4 a2 hp2 hS => ?_)
    obtain ⟨rfl, hB4⟩ := hp2
    refine seq_is hS (by decide) (runs_assign rfl) (fun a1 hS => ?_)
    exact nil_ok (qx_ret (ret1 (t := 10) (by kernel_rfl) hS rfl ⟨rfl, hBw3.trans (hB4.mono hBw3.size)⟩))
  refine seq_is hS (by decide) (runs_not rfl) (fun a1 hS => ?_)
  refine seq_is hS (by decide) (runs_move rfl) (fun a1 hS => ?_)
  refine seq_yis hS (by decide) rfl (by decide) rfl (runs_move rfl) (fun a1 hS => ?_)
  refine seq_yis hS (by decide) rfl (by decide) rfl (runs_lens rfl (by kernel_rfl)) (fun a1 hS => ?_)
  by_cases hsz : 200 < s.size
  · refine seq_yis hS (by decide) rfl (by decide) rfl (runs_gtr (r := true) rfl rfl (by rw [decide_eq_true_eq]; omega)) (fun a1 hS => ?_)
    refine seq_is hS (by decide) (runs_pick rfl rfl) (fun a1 hS => ?_)
    refine seq_is hS (by decide) (runs_move rfl) (fun a1 hS => ?_)
    refine seq_no hS (by decide) rfl (by decide) rfl rfl (fun a1 hS => ?_)
    refine seq_no hS (by decide) rfl (by decide) rfl rfl (fun a1 hS => ?_)
    refine seq_no hS (by decide) rfl (by decide) rfl rfl (fun a1 hS => ?_)
    refine seq_is hS (by decide) (runs_pick rfl rfl) (fun a1 hS => ?_)
    exact nil_ok (wp_cond_true (hS.eval rfl) (qx_seq (last _ _ _ _ hS)))
  · refine seq_yis hS (by decide) rfl (by decide) rfl (runs_gtr (r := false) rfl rfl (by rw [decide_eq_false_iff_not]; omega)) (fun a1 hS => ?_)
    refine seq_is hS (by decide) (runs_pick rfl rfl) (fun a1 hS => ?_)
    refine seq_is hS (by decide) (runs_move rfl) (fun a1 hS => ?_)
    refine seq_yis hS (by decide) rfl (by decide) rfl (runs_move rfl) (fun a1 hS => ?_)
    refine seq_yis hS (by decide) rfl (by decide) rfl (runs_len rfl undHashes) (fun a1 hS => ?_)
    by_cases hn : 40 < hs.length
    · refine seq_yis hS (by decide) rfl (by decide) rfl (runs_gtr (r := true) rfl rfl (by rw [decide_eq_true_eq]; omega)) (fun a1 hS => ?_)
      refine seq_is hS (by decide) (runs_pick rfl rfl) (fun a1 hS => ?_)
      exact nil_ok (wp_cond_true (hS.eval rfl) (qx_seq (last _ _ _ _ hS)))
    · refine seq_yis hS (by decide) rfl (by decide) rfl (runs_gtr (r := false) rfl rfl (by rw [decide_eq_false_iff_not]; omega)) (fun a1 hS => ?_)
      refine seq_is hS (by decide) (runs_pick rfl rfl) (fun a1 hS => ?_)
      refine nil_ok (wp_cond_false (hS.eval rfl) (wp_skip ?_))
      have kb : ∀ w', Below w3.heap.size w3 w' → Kept w' := fun w' h => hk3.below h hk3.pos
      obtain ⟨ih, hih, hzh, hszh, hbh⟩ := info_parts infHashb
      refine qx_seq (reg_guard (fun w' => Below w3.heap.size w3 w') [.inl (.agg (U8 root).toArray), .inl (.int .i64 n), .inl (.int .i64 at_), .inl (.string s), .inr (fun v _ => ∃ g, v = .slice (some ⟨g, 0, none⟩) 0 0), .inl (.slice A hs.length c), .inr (fun v w' => Hashes w' v hs), .inl (.bool (checkB root n at_ (bl s) hs)),
        .inl (.agg (U8 root).toArray), .inl (.int .i64 n), .inl (.int .i64 at_), .inl (.string s), .inl (.slice A hs.length c), .inl (.bool (checkB root n at_ (bl s) hs)), .inl (.bool true), .inl (.bool true),
        .inl (.int .i64 n), .inl (.int .i64 at_), .inl (.int .i64 ((deepZ n at_ : Nat) : Int)), .inl (.int .i64 n), .inl (.int .i64 at_), .inl (.int .i64 ((deepZ n at_ : Nat) : Int)), .inl (.bool true), .inl (.bool true), .inl (.bool true)] 25 0 mixed rfl (by kernel_rfl) hS (Below.refl _ _) (fun _ h => h.drew) ?_)
      refine hs_is rfl (fun w' hw => runs_loadRow rfl (hR3.below hw hR3.lt) undHash rfl (by rw [infHash]; simp [hrl])) ?_
      refine hs_is rfl (fun w' hw => runs_move rfl) ?_
      refine hs_is rfl (fun w' hw => runs_move rfl) ?_
      refine hs_is rfl (fun w' hw => runs_move rfl) ?_
      refine hs_pr rfl (fun _ _ _ h _ => h) (fun w' hw _ => (runs_buildNone undHashes hih).mono (by rintro v w2 ⟨rfl, rfl⟩; exact ⟨⟨_, rfl⟩, hw.alloc hw.size _, (Below.refl _ _).alloc (Nat.le_refl _) _⟩)) (fun v28 => ?_)
      refine hs_is rfl (fun w' hw => runs_move rfl) ?_
      refine hs_pr rfl (fun _ _ _ h hb => h.kept hb) (fun w' hw hq => ?_) (fun v30 => ?_)
      · obtain ⟨g, rfl⟩ := hq (4, _) List.mem_cons_self (by kernel_rfl)
        exact (copy_hashes (hH3.kept hw) (by omega) rfl rfl).mono (by rintro u w2 ⟨h1, h2⟩; exact ⟨h1, hw.trans (h2.mono hw.size), h2⟩)
      refine hs_val rfl (fun w' hw hq => runs_call (args := [.agg (U8 root).toArray, .int .i64 n, .int .i64 at_, .string s, v30]) goes27 rfl (bool_post _ (check_any root n at_ s v30 hs w' hrl (hq (6, _) List.mem_cons_self (by kernel_rfl)) (by omega) (by omega) (kb w' hw)) (fun _ h => ⟨hw.trans (h.mono hw.size), h⟩))) ?_
      refine hs_is rfl (fun w' hw => runs_loadRow rfl (hR3.below hw hR3.lt) undHash rfl (by rw [infHash]; simp [hrl])) ?_
      refine hs_is rfl (fun w' hw => runs_move rfl) ?_
      refine hs_is rfl (fun w' hw => runs_move rfl) ?_
      refine hs_is rfl (fun w' hw => runs_move rfl) ?_
      refine hs_is rfl (fun w' hw => runs_move rfl) ?_
      refine hs_val rfl (fun w' hw _ => runs_call (args := [.agg (U8 root).toArray, .int .i64 n, .int .i64 at_, .string s, .slice A hs.length c]) goes29 rfl (bool_post _ (refCheck_any root n at_ s _ hs w' hrl (hH3.kept hw) (by omega) (by omega)) (fun _ h => ⟨hw.trans (h.mono hw.size), h⟩))) ?_
      refine hs_is rfl (fun w' hw => runs_eqBool (r := true) rfl rfl (beq_iff_eq.2 rfl)) ?_
      refine hs_is rfl (fun w' hw => runs_move rfl) ?_
      refine hs_yis rfl rfl (fun w' hw => runs_move rfl) ?_
      refine hs_yis rfl rfl (fun w' hw => runs_move rfl) ?_
      refine hs_yval rfl rfl (fun w' hw _ => runs_call (args := [.int .i64 n, .int .i64 at_]) goes28 rfl ((deep_any n at_ w').mono (by rintro e w2 ⟨rfl, h⟩; exact ⟨_, rfl, rfl, hw.trans (h.mono hw.size), h⟩))) ?_
      refine hs_yis rfl rfl (fun w' hw => runs_move rfl) ?_
      refine hs_yis rfl rfl (fun w' hw => runs_move rfl) ?_
      refine hs_yis rfl rfl (fun w' hw => runs_call (args := [.int .i64 n, .int .i64 at_]) goes30 rfl (refDeep_any n.toNat n at_ w' rfl)) ?_
      refine hs_yis rfl rfl (fun w' hw => runs_eql (r := true) rfl rfl (beq_iff_eq.2 rfl)) ?_
      refine hs_is rfl (fun w' hw => runs_pick rfl rfl) ?_
      refine hs_is rfl (fun w' hw => runs_assign rfl) ?_
      refine (fun a5 w5 hS5 hB5 _ => ?_)
      refine wpAnyH_done (by kernel_rfl) ?_ _
      exact qx_ret (ret1 (t := 10) (by kernel_rfl) hS5 rfl ⟨rfl, hBw3.trans (hB5.mono hBw3.size)⟩)
end Go.Proofs.YtlldcicnakdjmaaDoor
