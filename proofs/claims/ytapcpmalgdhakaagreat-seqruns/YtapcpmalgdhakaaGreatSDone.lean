/- Layer 7: a turn of a vertex that has something to do; messages looked through. Conditions: none of our own. -/
import Derived.Test.YtapcpmalgdhakaaGreatSRun
import Derived.Test.YtapcpmalgdhakaaGreatGPick
import Derived.Test.YtapcpmalgdhakaaGreatEngW
namespace Go.Proofs.YtapcpmalgdhakaaGreat
open Go.RowKit
set_option maxRecDepth 100000

theorem EdgesB.off {B : Nat} {w : World} {v : Value} {es : List E} (h : EdgesB B w v es) : EdgesOff (fun k => k < B ∨ w.heap.size ≤ k) w v es := by
  obtain ⟨A, c, rfl, h1, h2, h3⟩ := h
  exact ⟨A, c, rfl, h1, h2, fun h0 => by obtain ⟨b, o, rfl, hB, hb, hr⟩ := h3 h0; exact ⟨b, o, rfl, hb, hr, by omega⟩⟩
theorem EdgesOff.mono {S S' : Nat → Prop} {w : World} {v : Value} {es : List E} (h : EdgesOff S w v es) (hs : ∀ k, S' k → S k) : EdgesOff S' w v es := by
  obtain ⟨A, c, rfl, h1, h2, h3⟩ := h
  exact ⟨A, c, rfl, h1, h2, fun h0 => by obtain ⟨b, o, rfl, hb, hr, hn⟩ := h3 h0; exact ⟨b, o, rfl, hb, hr, fun k => hn (hs b k)⟩⟩
theorem outL_length {n : Int} {es : List E} (h : checkZ n es = 0) (q : Int) : (outL n es q).length ≤ 512 := by
  obtain ⟨k, rfl, _, _, h4⟩ := norm_small h
  have := norm_length h
  have h5 := List.length_filter_le (fun e : E => e.1 == q) (normL k es)
  unfold outL
  rw [Int.toNat_natCast]
  omega
theorem outL_mem {n : Int} {es : List E} (h : checkZ n es = 0) {q : Int} {e : E} (he : e ∈ outL n es q) : e ∈ es ∧ e.1 = q := by
  obtain ⟨k, rfl, _, _, _⟩ := norm_small h
  unfold outL at he
  rw [List.mem_filter, Int.toNat_natCast] at he
  exact ⟨(norm_perm h).mem_iff.1 he.1, by simpa using he.2⟩
theorem outL_ok {n : Int} {es : List E} (h : checkZ n es = 0) {q : Int} {e : E} (he : e ∈ outL n es q) : 0 ≤ e.2.2 ∧ e.2.2 ≤ 1048576 := by
  have h1 := ((formed_iff n es).1 (check_zero h).1).2.2.2 e (outL_mem h he).1
  have := (okE_iff n e).1 h1
  exact ⟨this.2.2.2.2.1, this.2.2.2.2.2⟩
set_option maxHeartbeats 1000000 in
theorem done_any (n : Int) (es : List E) (v : Value) (tg : ByteArray) (src steps at_ : Int) (x : Vx) (w : World) (hE : Edges w v es) (hc : checkZ n es = 0) (hs1 : 1 ≤ steps) (hs2 : steps ≤ 64) (hgv : great x.val = false) (hgi : great x.inn = false) :
    Ans 43 [gv n v, jv tg src steps, .int .i64 at_, vv x] w (fun u w' => Below w.heap.size w w' ∧ ∃ sv, u = .tuple #[vv ⟨x.id, (turnL n es (kindL tg.data.toList) src steps at_ x).1.1, (turnL n es (kindL tg.data.toList) src steps at_ x).1.2, false, 0⟩, sv] ∧ w'.ownsRow w.heap.size 61 3 sv (turnL n es (kindL tg.data.toList) src steps at_ x).2.length (cellsE (turnL n es (kindL tg.data.toList) src steps at_ x).2)) := by
  obtain ⟨A, c, rfl, h1, h2, hA⟩ := hE
  have hE : Edges w (.slice A es.length c) es := ⟨A, c, rfl, h1, h2, hA⟩
  obtain ⟨l, hl⟩ : ∃ l, outL n es x.id = l := ⟨_, rfl⟩
  have hlen := outL_length hc x.id
  have hlok : ∀ e ∈ l, -2000000000000000 ≤ e.2.2 ∧ e.2.2 ≤ 2000000000000000 := fun e he => by rw [← hl] at he; have := outL_ok hc he; omega
  rw [hl] at hlen
  refine calls_qx (args := [gv n (.slice A es.length c), .agg (jc tg src steps).toArray, .int .i64 at_, .agg (vc x).toArray]) 53 Tryz.func43 rfl (by kernel_rfl) (by simp) (fun a hS => ?_)
  have hB := Below.refl w.heap.size w
  have hEb := hE
  refine qx_seq (reg_seq ?_)
  refine seq_op hS (by decide) (runs_boxB (cs := [.int .i64 n, .slice A es.length c]) rfl rfl) (fun v1 w1 a1 hp hS => ?_)
  obtain ⟨rfl, hM1, hB1⟩ := hp
  have hZ2 := hB1.size
  have hB := hB.trans (hB1.mono hB.size)
  have hE := hEb.kept hB
  refine seq_op hS (by decide) (runs_boxB (cs := jc tg src steps) rfl rfl) (fun v3 w3 a1 hp hS => ?_)
  obtain ⟨rfl, hM3, hB3⟩ := hp
  have hZ4 := hB3.size
  have hB := hB.trans (hB3.mono hB.size)
  have hM1 := hM1.below hB3 hM1.lt
  have hE := hEb.kept hB
  refine seq_op hS (by decide) (runs_boxB (cs := vc x) rfl rfl) (fun v5 w5 a1 hp hS => ?_)
  obtain ⟨rfl, hM5, hB5⟩ := hp
  have hZ6 := hB5.size
  have hB := hB.trans (hB5.mono hB.size)
  have hM1 := hM1.below hB5 hM1.lt
  have hM3 := hM3.below hB5 hM3.lt
  have hE := hEb.kept hB
  refine seq_op hS (by decide) (runs_allocB (cs := [.int .i64 0, .int .i64 0, .bool false, .bool false, .int .i64 0]) zo28 rfl) (fun v7 w7 a1 hp hS => ?_)
  obtain ⟨rfl, hM7, hB7⟩ := hp
  have hLhM7 : w.heap.size ≤ w5.heap.size := hB.size
  have hNhM5hM7 : w3.heap.size ≠ w5.heap.size := by have := hM5.lt; omega
  have hZ8 := hB7.size
  have hB := hB.trans (hB7.mono hB.size)
  have hM1 := hM1.below hB7 hM1.lt
  have hM3 := hM3.below hB7 hM3.lt
  have hM5 := hM5.below hB7 hM5.lt
  have hE := hEb.kept hB
  refine sI hS (runs_assign rfl) fun _ hS => ?_
  refine nil_ok (qx_seq (?_))
  have hlt78 : w3.heap.size ≤ w5.heap.size := by have := hZ4; have := hZ6; omega
  refine reg_seq ?_
  refine seq_op hS (by decide) (runs_allocB (cs := [.slice none 0 0]) zo32 rfl) (fun v9 w9 a1 hp hS => ?_)
  obtain ⟨rfl, hM9, hB9⟩ := hp
  have hLhM9 : w.heap.size ≤ w7.heap.size := hB.size
  have hZ10 := hB9.size
  have hB := hB.trans (hB9.mono hB.size)
  have hM1 := hM1.below hB9 hM1.lt
  have hM3 := hM3.below hB9 hM3.lt
  have hM5 := hM5.below hB9 hM5.lt
  have hM7 := hM7.below hB9 hM7.lt
  have hE := hEb.kept hB
  refine nil_ok (qx_seq (reg_seq ?_))
  refine sI hS (runs_loadRow rfl hM1 Tryz.underlying24 rfl (by rw [sz24]; rfl)) fun _ hS => ?_
  refine sI hS (runs_fieldK fo28_0 rfl) fun _ hS => ?_
  refine sI hS (runs_load rfl pl3 (hM5.at rfl)) fun _ hS => ?_
  have hgsl := hM9.lt
  refine seq_op hS (by decide) (runs_call (args := [gv n (.slice A es.length c), .int .i64 x.id]) goes62 rfl (out_any n x.id es _ w9 hE)) (fun v11 w11 a1 hp hS => ?_)
  obtain ⟨hB11, hO⟩ := hp
  rw [if_pos hc] at hO
  change EdgesB _ _ _ (outL n es x.id) at hO
  rw [hl] at hO
  have hOb := hO.off
  have hO := hO.off
  obtain ⟨A2, c2, rfl, _, _, _⟩ := hOb
  have hZ12 := hB11.size
  have hB := hB.trans (hB11.mono hB.size)
  have hM3 := hM3.below hB11 hM3.lt
  have hM5 := hM5.below hB11 hM5.lt
  have hM7 := hM7.below hB11 hM7.lt
  have hM9 := hM9.below hB11 hM9.lt
  refine seq_op hS (by decide) (runs_allocB (cs := [.slice none 0 0]) zo22 rfl) (fun v13 w13 a1 hp hS => ?_)
  obtain ⟨rfl, hM13, hB13⟩ := hp
  have hLhM13 : w.heap.size ≤ w11.heap.size := hB.size
  have hZ14 := hB13.size
  have hB := hB.trans (hB13.mono hB.size)
  have hM3 := hM3.below hB13 hM3.lt
  have hM5 := hM5.below hB13 hM5.lt
  have hM7 := hM7.below hB13 hM7.lt
  have hM9 := hM9.below hB13 hM9.lt
  have hO := hO.kept hB13
  refine seq_none hS (runs_storeC rfl rfl rfl s1_22 hM13 rfl) (fun v15 w15 a1 hp hS => ?_)
  have hQ15 := hM13
  obtain ⟨hM13, hU15⟩ := hp
  have hB := But.new hB hU15 (fun i e => by rw [e]; exact hLhM13) (Nat.le_refl _)
  have hM3 := hM3.but hU15 (has_ne hM3 hQ15 (by decide))
  have hM5 := hM5.but hU15 (has_ne hM5 hQ15 (by decide))
  have hM7 := hM7.but hU15 (has_ne hM7 hQ15 (by decide))
  have hM9 := hM9.but hU15 (has_ne hM9 hQ15 (by decide))
  have hO := hO.but (hU15.mono (fun i e => by subst e; first | exact .inl (by have := hZ2; have := hZ4; have := hZ6; have := hZ8; have := hZ10; have := hZ12; have := hZ14; omega) | exact .inr (by have := hZ2; have := hZ4; have := hZ6; have := hZ8; have := hZ10; have := hZ12; have := hZ14; omega)))
  have hZ16 := hU15.size
  refine nil_ok (qx_seq (reg_seq ?_))
  refine sI hS (runs_move rfl) fun _ hS => ?_
  refine sI hS (runs_eql (r := (at_ == 0)) rfl rfl rfl) fun _ hS => ?_
  refine sI hS (runs_move rfl) fun _ hS => ?_
  refine sI hS (runs_fieldK fo26_2 rfl) fun _ hS => ?_
  refine sI hS (runs_load rfl pl3 (hM3.at rfl)) fun _ hS => ?_
  refine sI hS (runs_sub rfl rfl (wrap64 (by omega) (by omega))) fun _ hS => ?_
  refine sI hS (runs_eql (r := (at_ == steps - 1)) rfl rfl rfl) fun _ hS => ?_
  refine sI hS (runs_fieldK fo28_0 rfl) fun _ hS => ?_
  refine sI hS (runs_load rfl pl3 (hM5.at rfl)) fun _ hS => ?_
  refine sI hS (runs_fieldK fo26_1 rfl) fun _ hS => ?_
  refine sI hS (runs_load rfl pl3 (hM3.at rfl)) fun _ hS => ?_
  refine sI hS (runs_eql (r := (x.id == src)) rfl rfl rfl) fun _ hS => ?_
  refine sI hS (runs_fieldK fo28_3 rfl) fun _ hS => ?_
  refine sI hS (runs_load rfl pl4 (hM5.at rfl)) fun _ hS => ?_
  refine sI hS (runs_load rfl pl22 (hM13.at rfl)) fun _ hS => ?_
  refine sI hS (runs_len rfl und22) fun _ hS => ?_
  refine sI hS (runs_fieldK fo28_1 rfl) fun _ hS => ?_
  refine sI hS (runs_load rfl pl2 (hM5.at rfl)) fun _ hS => ?_
  refine sI hS (runs_makeFunc (cs := [.pointer (some ⟨w11.heap.size, 0, none⟩), .pointer (some ⟨w7.heap.size, 0, none⟩)]) rfl) fun _ hS => ?_
  refine sI hS (runs_buildK (pv := [(0, .bool (at_ == 0)), (1, .bool (at_ == steps - 1)), (2, .bool (x.id == src)), (3, .bool x.has), (5, .int .i64 ((l.length : Nat) : Int)), (6, .int .i64 x.val), (8, .func (.func 63) #[] #[.pointer (some ⟨w11.heap.size, 0, none⟩), .pointer (some ⟨w7.heap.size, 0, none⟩)])]) (cells := #[.bool (at_ == 0), .bool (at_ == steps - 1), .bool (x.id == src), .bool x.has, .int .i64 0, .int .i64 ((l.length : Nat) : Int), .int .i64 x.val, .bool false, .func (.func 63) #[] #[.pointer (some ⟨w11.heap.size, 0, none⟩), .pointer (some ⟨w7.heap.size, 0, none⟩)]]) rfl (by kernel_rfl)) fun _ hS => ?_
  refine seq_op hS (by decide) (runs_allocB (cs := [.bool false, .bool false, .bool false, .bool false, .int .i64 0, .int .i64 0, .int .i64 0, .bool false, .nilFunc]) zo63 rfl) (fun v17 w17 a1 hp hS => ?_)
  obtain ⟨rfl, hM17, hB17⟩ := hp
  have hLhM17 : w.heap.size ≤ w15.heap.size := hB.size
  have hZ18 := hB17.size
  have hB := hB.trans (hB17.mono hB.size)
  have hM3 := hM3.below hB17 hM3.lt
  have hM5 := hM5.below hB17 hM5.lt
  have hM7 := hM7.below hB17 hM7.lt
  have hM9 := hM9.below hB17 hM9.lt
  have hM13 := hM13.below hB17 hM13.lt
  have hO := hO.kept hB17
  refine seq_none hS (runs_storeB (cs := [.bool (at_ == 0), .bool (at_ == steps - 1), .bool (x.id == src), .bool x.has, .int .i64 0, .int .i64 ((l.length : Nat) : Int), .int .i64 x.val, .bool false, .func (.func 63) #[] #[.pointer (some ⟨w11.heap.size, 0, none⟩), .pointer (some ⟨w7.heap.size, 0, none⟩)]]) rfl rfl hM17 rfl rfl sz63) (fun v19 w19 a1 hp hS => ?_)
  have hQ19 := hM17
  obtain ⟨hM17, hU19⟩ := hp
  have hB := But.new hB hU19 (fun i e => by rw [e]; exact hLhM17) (Nat.le_refl _)
  have hM3 := hM3.but hU19 (has_ne hM3 hQ19 (by decide))
  have hM5 := hM5.but hU19 (has_ne hM5 hQ19 (by decide))
  have hM7 := hM7.but hU19 (has_ne hM7 hQ19 (by decide))
  have hM9 := hM9.but hU19 (has_ne hM9 hQ19 (by decide))
  have hM13 := hM13.but hU19 (has_ne hM13 hQ19 (by decide))
  have hO := hO.but (hU19.mono (fun i e => by subst e; first | exact .inl (by have := hZ2; have := hZ4; have := hZ6; have := hZ8; have := hZ10; have := hZ12; have := hZ14; have := hZ16; have := hZ18; omega) | exact .inr (by have := hZ2; have := hZ4; have := hZ6; have := hZ8; have := hZ10; have := hZ12; have := hZ14; have := hZ16; have := hZ18; omega)))
  have hZ20 := hU19.size
  refine nil_ok (qx_seq (qx_seq (reg_seq ?_)))
  refine sI hS (runs_fieldK fo28_3 rfl) fun _ hS => ?_
  by_cases hh : x.has = true
  · skip
    refine sI hS (runs_load rfl pl4 ((hM5.at rfl).trans (by rw [hh]))) fun _ hS => ?_
    refine nil_ok (wp_cond_true (hS.eval rfl) (reg_seq ?_))
    refine sI hS (runs_fieldK fo28_4 rfl) fun _ hS => ?_
    refine sI hS (runs_load rfl pl2 (hM5.at rfl)) fun _ hS => ?_
    refine sI hS (runs_fieldK fo63_4 rfl) fun _ hS => ?_
    refine seq_none hS (runs_storeC rfl rfl rfl s1_2 hM17 rfl) (fun v21 w21 a1 hp hS => ?_)
    have hQ21 := hM17
    obtain ⟨hM17, hU21⟩ := hp
    have hB := But.new hB hU21 (fun i e => by rw [e]; exact hLhM17) (Nat.le_refl _)
    have hM3 := hM3.but hU21 (has_ne hM3 hQ21 (by decide))
    have hM5 := hM5.but hU21 (has_ne hM5 hQ21 (by decide))
    have hM7 := hM7.but hU21 (has_ne hM7 hQ21 (by decide))
    have hM9 := hM9.but hU21 (has_ne hM9 hQ21 (by decide))
    have hM13 := hM13.but hU21 (has_ne hM13 hQ21 (by decide))
    have hO := hO.but (hU21.mono (fun i e => by subst e; first | exact .inl (by have := hZ2; have := hZ4; have := hZ6; have := hZ8; have := hZ10; have := hZ12; have := hZ14; have := hZ16; have := hZ18; have := hZ20; omega) | exact .inr (by have := hZ2; have := hZ4; have := hZ6; have := hZ8; have := hZ10; have := hZ12; have := hZ14; have := hZ16; have := hZ18; have := hZ20; omega)))
    have hZ22 := hU21.size
    refine nil_ok (qx_seq (reg_seq ?_))
    refine sI hS (runs_fieldK fo26_0 rfl) fun _ hS => ?_
    refine sI hS (runs_load rfl pl9 (hM3.at rfl)) fun _ hS => ?_
    have hB0 := hB
    refine seq_op hS (by decide) (runs_call (args := [.pointer (some ⟨w15.heap.size, 0, none⟩), .string tg]) goes64 rfl (run_any l (by omega) _ (w15.heap.size) (w11.heap.size) (w7.heap.size) (at_ == 0) (at_ == steps - 1) (x.id == src) x.has x.inn ((l.length : Nat) : Int) x.val w21 hM17 hM13 hM9 (hO.mono (fun i e => by rcases e with e | e <;> subst e; exact .inr (by have := hZ2; have := hZ4; have := hZ6; have := hZ8; have := hZ10; have := hZ12; have := hZ14; have := hZ16; have := hZ18; have := hZ20; have := hZ22;  omega); exact .inl (by have := hZ2; have := hZ4; have := hZ6; have := hZ8; have := hZ10; have := hZ12; have := hZ14; have := hZ16; have := hZ18; have := hZ20; have := hZ22;  omega))) tg rfl hgv hgi hlok)) (fun v23 w23 a1 hp hS => ?_)
    obtain ⟨rfl, hK, hTt, sv, hSs, hown⟩ := hp
    have hB := But.new hB hK (fun i e => by rcases e with e | e <;> rw [e]; exact hLhM17; exact hLhM9) (Nat.le_refl _)
    have hM3 := hM3.but hK (fun e => by rcases e with e | e; exact has_ne hM3 hM17 (by decide) e; exact has_ne hM3 hM9 (by decide) e)
    have hM5 := hM5.but hK (fun e => by rcases e with e | e; exact has_ne hM5 hM17 (by decide) e; exact has_ne hM5 hM9 (by decide) e)
    have hM7 := hM7.but hK (fun e => by rcases e with e | e; exact has_ne hM7 hM17 (by decide) e; exact has_ne hM7 hM9 (by decide) e)
    have hM13 := hM13.but hK (fun e => by rcases e with e | e; exact has_ne hM13 hM17 (by decide) e; exact has_ne hM13 hM9 (by decide) e)
    have hM17 := hTt
    have hM9 := hSs
    have hown := owns_mono hown (Nat.le_trans hB0.size (Nat.le_refl _))
    have hG8 : w3.heap.size < w5.heap.size := by have := hlt78; have := hNhM5hM7; omega
    refine nil_ok (qx_seq (reg_v (KF (w5.heap.size) 50 (vc ⟨x.id, (runL (kindL tg.data.toList) (at_ == 0) (at_ == steps - 1) (x.id == src) x.has x.inn x.val l).1.1, (runL (kindL tg.data.toList) (at_ == 0) (at_ == steps - 1) (x.id == src) x.has x.inn x.val l).1.2, false, 0⟩)) (fun w' => KF (w5.heap.size) 50 (vc ⟨x.id, (runL (kindL tg.data.toList) (at_ == 0) (at_ == steps - 1) (x.id == src) x.has x.inn x.val l).1.1, (runL (kindL tg.data.toList) (at_ == 0) (at_ == steps - 1) (x.id == src) x.has x.inn x.val l).1.2, false, 0⟩) w23 w') [.inl (.pointer (some ⟨w3.heap.size, 0 + 0, none⟩)), .inl (.int .i64 x.id), .inl (.pointer (some ⟨w15.heap.size, 0 + 6, none⟩)), .inl (.int .i64 (runL (kindL tg.data.toList) (at_ == 0) (at_ == steps - 1) (x.id == src) x.has x.inn x.val l).1.1), .inl (.pointer (some ⟨w15.heap.size, 0 + 7, none⟩)), .inl (.bool (runL (kindL tg.data.toList) (at_ == 0) (at_ == steps - 1) (x.id == src) x.has x.inn x.val l).1.2), .inl (.agg #[.int .i64 x.id, .int .i64 (runL (kindL tg.data.toList) (at_ == 0) (at_ == steps - 1) (x.id == src) x.has x.inn x.val l).1.1, .bool (runL (kindL tg.data.toList) (at_ == 0) (at_ == steps - 1) (x.id == src) x.has x.inn x.val l).1.2, .bool false, .int .i64 0]), .inl (sv), .inr (fun _ _ => fun w' => Has w' w5.heap.size 50 (vc ⟨x.id, (runL (kindL tg.data.toList) (at_ == 0) (at_ == steps - 1) (x.id == src) x.has x.inn x.val l).1.1, (runL (kindL tg.data.toList) (at_ == 0) (at_ == steps - 1) (x.id == src) x.has x.inn x.val l).1.2, false, 0⟩)), .inl (sv)] 10 0 ⟨trivial, trivial, trivial, trivial, trivial, trivial, trivial, trivial, fun _ _ _ => rfl, trivial, trivial⟩ mixed rfl (by kernel_rfl) hS (KF.refl _ _ _ _) (fun _ h => h.drew) ?_))
    refine fun vs => ?_
    refine vs_is rfl (fun w' hw => runs_fieldK fo28_0 rfl) ?_
    refine vs_is rfl (fun w' hw => runs_load rfl pl3 ((hM5.below hw.below (hG8)).at rfl)) ?_
    refine vs_is rfl (fun w' hw => runs_fieldK fo63_6 rfl) ?_
    refine vs_is rfl (fun w' hw => runs_load rfl pl2 ((hw.other _ _ _ (by decide) hM17).at rfl)) ?_
    refine vs_is rfl (fun w' hw => runs_fieldK fo63_7 rfl) ?_
    refine vs_is rfl (fun w' hw => runs_load rfl pl4 ((hw.other _ _ _ (by decide) hM17).at rfl)) ?_
    refine vs_is rfl (fun w' hw => runs_buildK (pv := [(0, .int .i64 x.id), (1, .int .i64 (runL (kindL tg.data.toList) (at_ == 0) (at_ == steps - 1) (x.id == src) x.has x.inn x.val l).1.1), (2, .bool (runL (kindL tg.data.toList) (at_ == 0) (at_ == steps - 1) (x.id == src) x.has x.inn x.val l).1.2)]) (cells := #[.int .i64 x.id, .int .i64 (runL (kindL tg.data.toList) (at_ == 0) (at_ == steps - 1) (x.id == src) x.has x.inn x.val l).1.1, .bool (runL (kindL tg.data.toList) (at_ == 0) (at_ == steps - 1) (x.id == src) x.has x.inn x.val l).1.2, .bool false, .int .i64 0]) rfl (by kernel_rfl)) ?_
    refine vs_is rfl (fun w' hw => runs_load rfl pl32 ((hw.other _ _ _ (by decide) hM9).at rfl)) ?_
    refine vs_none rfl (fun w1 w2 h hk => hk.fin _ h) (fun w' hw hq => (by obtain ⟨cs, hcs, hg⟩ := hw.len _ _ hM7; exact (runs_storeB (cs := (vc ⟨x.id, (runL (kindL tg.data.toList) (at_ == 0) (at_ == steps - 1) (x.id == src) x.has x.inn x.val l).1.1, (runL (kindL tg.data.toList) (at_ == 0) (at_ == steps - 1) (x.id == src) x.has x.inn x.val l).1.2, false, 0⟩)) rfl rfl hg (hcs.trans rfl) rfl sz28).mono (by rintro v w2 ⟨h1, h2⟩; have hk := KF.store (F := (vc ⟨x.id, (runL (kindL tg.data.toList) (at_ == 0) (at_ == steps - 1) (x.id == src) x.has x.inn x.val l).1.1, (runL (kindL tg.data.toList) (at_ == 0) (at_ == steps - 1) (x.id == src) x.has x.inn x.val l).1.2, false, 0⟩)) hg (Nat.le_refl _) (hcs.trans rfl) h1 h2; exact ⟨h1, hw.trans hk, hk⟩))) (fun _ _ => ?_)
    refine vs_is rfl (fun w' hw => runs_assign rfl) ?_
    refine (fun a24 w24 hS hK24 hq => ?_)
    have hRet := (hq (8, _) List.mem_cons_self)
    clear hq
    have hB := hB.trans (hK24.below.mono (hLhM7))
    have hM3 := hK24.other _ _ _ (by decide) hM3
    have hM5 := hM5.below hK24.below (hG8)
    have hM9 := hK24.other _ _ _ (by decide) hM9
    have hM13 := hK24.other _ _ _ (by decide) hM13
    have hM17 := hK24.other _ _ _ (by decide) hM17
    have hown := hK24.owns hown (by decide)
    refine wpAnyH_done (by kernel_rfl) ?_ _
    have hfin : (runL (kindL tg.data.toList) (at_ == 0) (at_ == steps - 1) (x.id == src) x.has x.inn x.val l) = turnL n es (kindL tg.data.toList) src steps at_ x := by unfold turnL; rw [if_pos hh, hl]
    rw [hfin] at hown hRet
    exact qx_ret (retRow2 (p := 8) (t := 9) (ty := 50) (by kernel_rfl) hS rfl rfl hRet Tryz.underlying50 rfl (by rw [sz28]; rfl) ⟨_, rfl, hB, _, rfl, hown⟩)
  refine sI hS (runs_load rfl pl4 ((hM5.at rfl).trans (by rw [Bool.eq_false_iff.2 hh]))) fun _ hS => ?_
  refine nil_ok (wp_cond_false (hS.eval rfl) (wp_skip (qx_seq (reg_seq ?_))))
  refine sI hS (runs_fieldK fo26_0 rfl) fun _ hS => ?_
  refine sI hS (runs_load rfl pl9 (hM3.at rfl)) fun _ hS => ?_
  have hB0 := hB
  refine seq_op hS (by decide) (runs_call (args := [.pointer (some ⟨w15.heap.size, 0, none⟩), .string tg]) goes64 rfl (run_any l (by omega) _ (w15.heap.size) (w11.heap.size) (w7.heap.size) (at_ == 0) (at_ == steps - 1) (x.id == src) x.has 0 ((l.length : Nat) : Int) x.val w19 hM17 hM13 hM9 (hO.mono (fun i e => by rcases e with e | e <;> subst e; exact .inr (by have := hZ2; have := hZ4; have := hZ6; have := hZ8; have := hZ10; have := hZ12; have := hZ14; have := hZ16; have := hZ18; have := hZ20;  omega); exact .inl (by have := hZ2; have := hZ4; have := hZ6; have := hZ8; have := hZ10; have := hZ12; have := hZ14; have := hZ16; have := hZ18; have := hZ20;  omega))) tg rfl hgv (by decide) hlok)) (fun v26 w26 a1 hp hS => ?_)
  obtain ⟨rfl, hK, hTt, sv, hSs, hown⟩ := hp
  have hB := But.new hB hK (fun i e => by rcases e with e | e <;> rw [e]; exact hLhM17; exact hLhM9) (Nat.le_refl _)
  have hM5 := hM5.but hK (fun e => by rcases e with e | e; exact has_ne hM5 hM17 (by decide) e; exact has_ne hM5 hM9 (by decide) e)
  have hM7 := hM7.but hK (fun e => by rcases e with e | e; exact has_ne hM7 hM17 (by decide) e; exact has_ne hM7 hM9 (by decide) e)
  have hM17 := hTt
  have hM9 := hSs
  have hown := owns_mono hown (Nat.le_trans hB0.size (Nat.le_refl _))
  have hG8 : w3.heap.size < w5.heap.size := by have := hlt78; have := hNhM5hM7; omega
  refine nil_ok (qx_seq (reg_v (KF (w5.heap.size) 50 (vc ⟨x.id, (runL (kindL tg.data.toList) (at_ == 0) (at_ == steps - 1) (x.id == src) x.has 0 x.val l).1.1, (runL (kindL tg.data.toList) (at_ == 0) (at_ == steps - 1) (x.id == src) x.has 0 x.val l).1.2, false, 0⟩)) (fun w' => KF (w5.heap.size) 50 (vc ⟨x.id, (runL (kindL tg.data.toList) (at_ == 0) (at_ == steps - 1) (x.id == src) x.has 0 x.val l).1.1, (runL (kindL tg.data.toList) (at_ == 0) (at_ == steps - 1) (x.id == src) x.has 0 x.val l).1.2, false, 0⟩) w26 w') [.inl (.pointer (some ⟨w3.heap.size, 0 + 0, none⟩)), .inl (.int .i64 x.id), .inl (.pointer (some ⟨w15.heap.size, 0 + 6, none⟩)), .inl (.int .i64 (runL (kindL tg.data.toList) (at_ == 0) (at_ == steps - 1) (x.id == src) x.has 0 x.val l).1.1), .inl (.pointer (some ⟨w15.heap.size, 0 + 7, none⟩)), .inl (.bool (runL (kindL tg.data.toList) (at_ == 0) (at_ == steps - 1) (x.id == src) x.has 0 x.val l).1.2), .inl (.agg #[.int .i64 x.id, .int .i64 (runL (kindL tg.data.toList) (at_ == 0) (at_ == steps - 1) (x.id == src) x.has 0 x.val l).1.1, .bool (runL (kindL tg.data.toList) (at_ == 0) (at_ == steps - 1) (x.id == src) x.has 0 x.val l).1.2, .bool false, .int .i64 0]), .inl (sv), .inr (fun _ _ => fun w' => Has w' w5.heap.size 50 (vc ⟨x.id, (runL (kindL tg.data.toList) (at_ == 0) (at_ == steps - 1) (x.id == src) x.has 0 x.val l).1.1, (runL (kindL tg.data.toList) (at_ == 0) (at_ == steps - 1) (x.id == src) x.has 0 x.val l).1.2, false, 0⟩)), .inl (sv)] 10 0 ⟨trivial, trivial, trivial, trivial, trivial, trivial, trivial, trivial, fun _ _ _ => rfl, trivial, trivial⟩ mixed rfl (by kernel_rfl) hS (KF.refl _ _ _ _) (fun _ h => h.drew) ?_))
  refine fun vs => ?_
  refine vs_is rfl (fun w' hw => runs_fieldK fo28_0 rfl) ?_
  refine vs_is rfl (fun w' hw => runs_load rfl pl3 ((hM5.below hw.below (hG8)).at rfl)) ?_
  refine vs_is rfl (fun w' hw => runs_fieldK fo63_6 rfl) ?_
  refine vs_is rfl (fun w' hw => runs_load rfl pl2 ((hw.other _ _ _ (by decide) hM17).at rfl)) ?_
  refine vs_is rfl (fun w' hw => runs_fieldK fo63_7 rfl) ?_
  refine vs_is rfl (fun w' hw => runs_load rfl pl4 ((hw.other _ _ _ (by decide) hM17).at rfl)) ?_
  refine vs_is rfl (fun w' hw => runs_buildK (pv := [(0, .int .i64 x.id), (1, .int .i64 (runL (kindL tg.data.toList) (at_ == 0) (at_ == steps - 1) (x.id == src) x.has 0 x.val l).1.1), (2, .bool (runL (kindL tg.data.toList) (at_ == 0) (at_ == steps - 1) (x.id == src) x.has 0 x.val l).1.2)]) (cells := #[.int .i64 x.id, .int .i64 (runL (kindL tg.data.toList) (at_ == 0) (at_ == steps - 1) (x.id == src) x.has 0 x.val l).1.1, .bool (runL (kindL tg.data.toList) (at_ == 0) (at_ == steps - 1) (x.id == src) x.has 0 x.val l).1.2, .bool false, .int .i64 0]) rfl (by kernel_rfl)) ?_
  refine vs_is rfl (fun w' hw => runs_load rfl pl32 ((hw.other _ _ _ (by decide) hM9).at rfl)) ?_
  refine vs_none rfl (fun w1 w2 h hk => hk.fin _ h) (fun w' hw hq => (by obtain ⟨cs, hcs, hg⟩ := hw.len _ _ hM7; exact (runs_storeB (cs := (vc ⟨x.id, (runL (kindL tg.data.toList) (at_ == 0) (at_ == steps - 1) (x.id == src) x.has 0 x.val l).1.1, (runL (kindL tg.data.toList) (at_ == 0) (at_ == steps - 1) (x.id == src) x.has 0 x.val l).1.2, false, 0⟩)) rfl rfl hg (hcs.trans rfl) rfl sz28).mono (by rintro v w2 ⟨h1, h2⟩; have hk := KF.store (F := (vc ⟨x.id, (runL (kindL tg.data.toList) (at_ == 0) (at_ == steps - 1) (x.id == src) x.has 0 x.val l).1.1, (runL (kindL tg.data.toList) (at_ == 0) (at_ == steps - 1) (x.id == src) x.has 0 x.val l).1.2, false, 0⟩)) hg (Nat.le_refl _) (hcs.trans rfl) h1 h2; exact ⟨h1, hw.trans hk, hk⟩))) (fun _ _ => ?_)
  refine vs_is rfl (fun w' hw => runs_assign rfl) ?_
  refine (fun a27 w27 hS hK27 hq => ?_)
  have hRet := (hq (8, _) List.mem_cons_self)
  clear hq
  have hB := hB.trans (hK27.below.mono (hLhM7))
  have hown := hK27.owns hown (by decide)
  refine wpAnyH_done (by kernel_rfl) ?_ _
  have hfin : (runL (kindL tg.data.toList) (at_ == 0) (at_ == steps - 1) (x.id == src) x.has 0 x.val l) = turnL n es (kindL tg.data.toList) src steps at_ x := by unfold turnL; rw [if_neg hh, hl]
  rw [hfin] at hown hRet
  exact qx_ret (retRow2 (p := 8) (t := 9) (ty := 50) (by kernel_rfl) hS rfl rfl hRet Tryz.underlying50 rfl (by rw [sz28]; rfl) ⟨_, rfl, hB, _, rfl, hown⟩)
end Go.Proofs.YtapcpmalgdhakaaGreat
