/- Layer 8: messages picked, as a list of their own; looked through; compared; copied. Conditions: none of our own. -/
import Derived.Test.YtooeahpkhocaeaaDoorJ17
import Derived.Shelf.SlSortCmp.NoneTotal
import Derived.ProofKit
import Derived.OpenShut
import Derived.ShutString
import Derived.Lib.LaidTab
import Derived.ChangeOld
import Derived.ChangeSame
import Derived.Below
import Derived.Deep.Slices
namespace Go.Proofs.YtooeahpkhocaeaaDoor
open Go.RowKit
set_option maxRecDepth 100000

theorem edges_row {w : World} {A : Option Addr} {c : Nat} {l : List E} (h : Edges w (.slice A l.length c) l) (h0 : 0 < l.length) : ∃ b o, A = some ⟨b, o, none⟩ ∧ b < w.heap.size ∧ w.rangeAt b o (cellsE l) := by
  obtain ⟨A', c', hv, _, _, h3⟩ := h
  simp only [Value.slice.injEq, true_and] at hv
  obtain ⟨rfl, rfl⟩ := hv
  exact h3 h0
theorem filter_snoc {α : Type} {l : List α} {i : Nat} {e : α} (p : α → Bool) (h : l[i]? = some e) : (l.take (i + 1)).filter p = (l.take i).filter p ++ (if p e = true then [e] else []) := by
  rw [List.take_add_one, h, Option.toList_some, List.filter_append]
  by_cases hp : p e = true
  · rw [if_pos hp, List.filter_cons_of_pos hp]; rfl
  · rw [if_neg hp, List.filter_cons_of_neg hp]; rfl
theorem filter_take_le {α : Type} (p : α → Bool) (l : List α) (i : Nat) : ((l.take i).filter p).length ≤ i := Nat.le_trans (List.length_filter_le _ _) (by simp; omega)
set_option maxHeartbeats 1000000 in
theorem picked_any (es : List E) (hsm : es.length ≤ 10000) (v : Value) (kf : FuncId) (hkf : Goes Tryd.prog kf) (cf : List Value) (p : E → Bool) (w : World) (hE : Edges w v es) (hp : ∀ e w1, Below w.heap.size w w1 → Ans kf ([.agg (encE e).toArray] ++ cf) w1 (fun u w2 => u = .bool (p e) ∧ Below w1.heap.size w1 w2)) : Ans 57 [v, .func (.func kf) #[] cf.toArray] w (fun u w' => Below w.heap.size w w' ∧ w'.ownsRow w.heap.size 92 3 u (es.filter p).length (cellsE (es.filter p))) := by
  obtain ⟨A, c, rfl, h1, h2, hA⟩ := hE
  have hE : Edges w (.slice A es.length c) es := ⟨A, c, rfl, h1, h2, hA⟩
  refine calls_qx (args := [.slice A es.length c, .func (.func kf) #[] cf.toArray]) 23 Tryd.func57 rfl (by kernel_rfl) (by simp) (fun a hS => ?_)
  have hB := Below.refl w.heap.size w
  have hEb := hE
  refine qx_seq (reg_seq ?_)
  refine sI hS (runs_assign rfl) fun _ hS => ?_
  refine nil_ok (qx_seq (reg_seq ?_))
  refine sI hS (runs_assign rfl) fun _ hS => ?_
  refine nil_ok (qx_seq (qx_seq (reg_seq ?_)))
  refine sI hS (runs_move rfl) fun _ hS => ?_
  refine sI hS (runs_len rfl und32) fun _ hS => ?_
  refine sI hS (runs_move rfl) fun _ hS => ?_
  refine nil_ok (?_)
  refine qx_range (fun mm a w' => ∃ (i : Nat) (sv : Value), i ≤ es.length ∧ mm = es.length - i ∧ Below w.heap.size w w' ∧ w'.ownsRow w.heap.size 92 3 sv ((es.take i).filter p).length (cellsE ((es.take i).filter p)) ∧ Sees 23 [(10, .int .i64 (i : Int)), (9, .int .i64 ((es.length : Nat) : Int)), (8, .slice A es.length c), (5, sv), (1, .func (.func kf) #[] cf.toArray)] a) es.length ⟨0, .slice none 0 0, by omega, by omega, hB, ⟨rfl, .inl ⟨rfl, rfl⟩⟩, hS.only _ ⟨rfl, rfl, rfl, rfl, rfl, trivial⟩⟩ ?_
  clear hS 
  rintro mm a wl1 ⟨i, sv, hi1, rfl, hBb1, hown, hS⟩
  have hBsz1 := hBb1.size
  have hE := hEb.kept hBb1
  have hB := Below.refl wl1.heap.size wl1
  refine reg_seq ?_
  by_cases hlt1 : i < es.length
  · skip
    refine sI hS (lssT rfl rfl (by omega)) fun _ hS => ?_
    refine nil_ok ⟨_, hS.eval rfl, fun h => by simp at h, fun _ => ?_⟩
    obtain ⟨e, hei⟩ : ∃ e, es[i]? = some e := ⟨es[i], by simp [hlt1]⟩
    obtain ⟨b, o, rfl, hbw, hr⟩ := edges_row hE (by omega)
    have hre := edges_at hr hei
    have hfl := filter_take_le p es i
    have hownb := hown
    refine qx_seq (qx_block (qx_seq (reg_seq ?_)))
    refine sI hS (runs_indexAddrG (j := i) rfl rfl und32 sz41 rfl hlt1) fun _ hS => ?_
    refine sI hS (runs_loadM rfl hre) fun _ hS => ?_
    refine seq_op hS (by decide) (runs_allocB (cs := [.int .i64 0, .int .i64 0, .int .i64 0]) zo41 rfl) (fun v1 w1 a1 hp hS => ?_)
    obtain ⟨rfl, hM1, hB1⟩ := hp
    have hLhM1 : wl1.heap.size ≤ wl1.heap.size := hB.size
    have hB := hB.trans (hB1.mono hB.size)
    have hown := owns_kept hown hB1
    refine seq_none hS (runs_storeB (cs := encE e) rfl rfl hM1 rfl rfl sz41) (fun v3 w3 a1 hp hS => ?_)
    obtain ⟨hM1, hU3⟩ := hp
    have hB := But.new hB hU3 (fun i e => by rw [e]; exact hLhM1) (Nat.le_refl _)
    have hown := owns_kept hownb hB
    refine nil_ok (qx_seq (reg_seq ?_))
    refine sI hS (runs_move rfl) fun _ hS => ?_
    refine sI hS (runs_loadRow rfl hM1 Tryd.underlying92 rfl (by rw [sz41]; rfl)) fun _ hS => ?_
    refine seq_op hS (by decide) (runs_callv (args := [.agg (encE e).toArray]) (caps := cf) hkf rfl rfl (hp e w3 (hBb1.trans (hB.mono hBb1.size)))) (fun v5 w5 a1 hp hS => ?_)
    obtain ⟨rfl, hB5⟩ := hp
    have hB := hB.trans (hB5.mono hB.size)
    have hM1 := hM1.below hB5 hM1.lt
    have hown := owns_kept hown hB5
    refine nil_ok (?_)
    by_cases hpe : p e = true
    · skip
      rw [hpe] at hS
      refine wp_cond_true (hS.eval rfl) (reg_seq ?_)
      refine sI hS (runs_move rfl) fun _ hS => ?_
      refine sI hS (runs_loadRow rfl hM1 Tryd.underlying92 rfl (by rw [sz41]; rfl)) fun _ hS => ?_
      refine seq_op hS (by decide) (runs_oneM (e := e) rfl) (fun v7 w7 a1 hp hS => ?_)
      obtain ⟨g2, rfl, hX, hB7⟩ := hp
      have hB := hB.trans (hB7.mono hB.size)
      have hown := owns_kept hown hB7
      refine seq_op hS (by decide) (push_ownM (B := w.heap.size) (acc := ((es.take i).filter p)) (e := e) rfl hown rfl hX (by omega) (Nat.le_trans hBsz1 hB.size)) (fun v9 w9 a1 hp hS => ?_)
      obtain ⟨_, hown3, _, hB9⟩ := hp
      refine sI hS (runs_assign rfl) fun _ hS => ?_
      refine nil_ok (reg_seq ?_)
      refine sI hS (runs_add (r := ((i + 1 : Nat) : Int)) rfl rfl (by simp [IntKind.wrap, IntKind.bits, IntKind.signed]; omega)) fun _ hS => ?_
      refine sI hS (runs_move rfl) fun _ hS => ?_
      exact nil_ok ⟨_, by omega, i + 1, v9, by omega, rfl, hBb1.trans ((hB.mono hBb1.size).trans hB9), by rw [filter_snoc p hei, if_pos hpe, List.length_append]; exact hown3, hS.only _ ⟨rfl, rfl, rfl, rfl, rfl, trivial⟩⟩
    · skip
      rw [Bool.eq_false_iff.2 hpe] at hS
      refine wp_cond_false (hS.eval rfl) (wp_skip (reg_seq ?_))
      refine sI hS (runs_add (r := ((i + 1 : Nat) : Int)) rfl rfl (by simp [IntKind.wrap, IntKind.bits, IntKind.signed]; omega)) fun _ hS => ?_
      refine sI hS (runs_move rfl) fun _ hS => ?_
      exact nil_ok ⟨_, by omega, i + 1, sv, by omega, rfl, hBb1.trans (hB.mono hBb1.size), by rw [filter_snoc p hei, if_neg hpe, List.append_nil]; exact hown, hS.only _ ⟨rfl, rfl, rfl, rfl, rfl, trivial⟩⟩
  refine sI hS (lssF rfl rfl (by omega)) fun _ hS => ?_
  obtain rfl : i = es.length := by omega
  refine nil_ok ⟨_, hS.eval rfl, fun _ => ?_, fun h => by simp at h⟩
  have hB := hBb1
  rw [List.take_length] at hown
  refine qx_seq (reg_seq ?_)
  refine sI hS (runs_move rfl) fun _ hS => ?_
  refine sI hS (runs_assign rfl) fun _ hS => ?_
  exact nil_ok (qx_ret (ret1 (t := 4) (by kernel_rfl) hS rfl ⟨_, rfl, hB, hown⟩))
end Go.Proofs.YtooeahpkhocaeaaDoor
/- Layer 8: messages put in order: the library's sort with the program's own comparing. Conditions: none of our own. -/
namespace Go.Proofs.YtooeahpkhocaeaaDoor
open Go.Shelf Go.RowKit
set_option maxRecDepth 100000

def sortE_ren : Go.Shelf.Ren := ⟨fun | 6 => 63 | 15 => 60 | 14 => 73 | 28 => 71 | 29 => 72 | 20 => 78 | 21 => 79 | 22 => 80 | 23 => 81 | 24 => 82 | 25 => 83 | 26 => 84 | 27 => 85 | 46 => 88 | 47 => 89 | 48 => 90 | 49 => 91 | 50 => 92 | 57 => 94 | n => n, fun | 22 => 40 | 24 => 92 | 25 => 112 | 3 => 3 | 39 => 74 | 0 => 0 | 53 => 117 | 55 => 48 | 4 => 4 | 46 => 131 | 45 => 130 | 50 => 135 | 5 => 5 | 9 => 9 | 66 => 140 | 70 => 143 | 76 => 145 | 77 => 146 | n => n, fun | n => n⟩
theorem sortE : Go.Proofs.SlLaysF0.n6 Tryd.prog sortE_ren := {
  mixed := by kernel_rfl
  f6 := ⟨Tryd.f63.name, by decide, Tryd.func63.trans (congrArg some (by kernel_rfl))⟩
  f14 := ⟨Tryd.f73.name, by decide, Tryd.func73.trans (congrArg some (by kernel_rfl))⟩
  f15 := Tryd.func60.trans (congrArg some (by kernel_rfl))
  f20 := ⟨Tryd.f78.name, by decide, Tryd.func78.trans (congrArg some (by kernel_rfl))⟩
  f21 := ⟨Tryd.f79.name, by decide, Tryd.func79.trans (congrArg some (by kernel_rfl))⟩
  f22 := ⟨Tryd.f80.name, by decide, Tryd.func80.trans (congrArg some (by kernel_rfl))⟩
  f23 := ⟨Tryd.f81.name, by decide, Tryd.func81.trans (congrArg some (by kernel_rfl))⟩
  f24 := ⟨Tryd.f82.name, by decide, Tryd.func82.trans (congrArg some (by kernel_rfl))⟩
  f25 := ⟨Tryd.f83.name, by decide, Tryd.func83.trans (congrArg some (by kernel_rfl))⟩
  f26 := ⟨Tryd.f84.name, by decide, Tryd.func84.trans (congrArg some (by kernel_rfl))⟩
  f27 := ⟨Tryd.f85.name, by decide, Tryd.func85.trans (congrArg some (by kernel_rfl))⟩
  f28 := Tryd.func71.trans (congrArg some (by kernel_rfl))
  f29 := Tryd.func72.trans (congrArg some (by kernel_rfl))
  f46 := ⟨Tryd.f88.name, by decide, Tryd.func88.trans (congrArg some (by kernel_rfl))⟩
  f47 := Tryd.func89.trans (congrArg some (by kernel_rfl))
  f48 := Tryd.func90.trans (congrArg some (by kernel_rfl))
  f49 := ⟨Tryd.f91.name, by decide, Tryd.func91.trans (congrArg some (by kernel_rfl))⟩
  f50 := ⟨Tryd.f92.name, by decide, Tryd.func92.trans (congrArg some (by kernel_rfl))⟩
  f57 := ⟨Tryd.f94.name, by decide, Tryd.func94.trans (congrArg some (by kernel_rfl))⟩
  t0 := Tryd.underlying0
  a0 := Tryd.isAgg0
  z0 := Tryd.sizeOf0
  v0 := Tryd.zeroValue0
  t3 := Tryd.underlying3
  a3 := Tryd.isAgg3
  z3 := Tryd.sizeOf3
  v3 := Tryd.zeroValue3
  t4 := Tryd.underlying4
  a4 := Tryd.isAgg4
  z4 := Tryd.sizeOf4
  v4 := Tryd.zeroValue4
  t5 := Tryd.underlying5
  a5 := Tryd.isAgg5
  z5 := Tryd.sizeOf5
  v5 := Tryd.zeroValue5
  t9 := Tryd.underlying9
  a9 := Tryd.isAgg9
  z9 := Tryd.sizeOf9
  v9 := Tryd.zeroValue9
  t22 := Tryd.underlying40
  a22 := Tryd.isAgg40
  z22 := Tryd.sizeOf40
  v22 := Tryd.zeroValue40
  t25 := Tryd.underlying112
  a25 := Tryd.isAgg112
  z25 := Tryd.sizeOf112
  v25 := Tryd.zeroValue112
  t39 := Tryd.underlying74
  a39 := Tryd.isAgg74
  z39 := Tryd.sizeOf74
  v39 := Tryd.zeroValue74
  t45 := Tryd.underlying130
  a45 := Tryd.isAgg130
  z45 := Tryd.sizeOf130
  v45 := Tryd.zeroValue130
  t46 := Tryd.underlying131
  a46 := Tryd.isAgg131
  z46 := Tryd.sizeOf131
  v46 := Tryd.zeroValue131
  t50 := Tryd.underlying135
  a50 := Tryd.isAgg135
  z50 := Tryd.sizeOf135
  v50 := Tryd.zeroValue135
  t53 := Tryd.underlying117
  a53 := Tryd.isAgg117
  z53 := Tryd.sizeOf117
  v53 := Tryd.zeroValue117
  t55 := Tryd.underlying48
  a55 := Tryd.isAgg48
  z55 := Tryd.sizeOf48
  v55 := Tryd.zeroValue48
  t66 := Tryd.underlying140
  a66 := Tryd.isAgg140
  z66 := Tryd.sizeOf140
  v66 := Tryd.zeroValue140
  t70 := Tryd.underlying143
  a70 := Tryd.isAgg143
  z70 := Tryd.sizeOf143
  v70 := Tryd.zeroValue143
  t76 := Tryd.underlying145
  a76 := Tryd.isAgg145
  z76 := Tryd.sizeOf145
  v76 := Tryd.zeroValue145
  t77 := Tryd.underlying146
  a77 := Tryd.isAgg146
  z77 := Tryd.sizeOf146
  v77 := Tryd.zeroValue146 }
theorem ltM_cf (a b : E) : ltOf cfM a b = lessM a b := by
  unfold ltOf cfM cmpI lessM
  repeat' split
  all_goals first
    | (rw [decide_eq_decide]; omega)
    | (simp only [decide_eq_decide]; omega)
    | omega
theorem swoM : Sort.SWO (ltOf cfM) where
  irrefl x := by rw [ltM_cf, lessM_no]; omega
  trans x y z h1 h2 := by rw [ltM_cf, lessM_iff] at *; omega
  ntrans x y z h1 h2 := by rw [ltM_cf, lessM_no] at *; omega
theorem holdsE {w : World} {g : Nat} {cur : Array Value} {es : List E} (hg : w.heap[g]? = some (.cells cur 92 (0, 0))) (h : cur.toList.take (es.length * 3) = cellsE es) : Sort.HoldsK encE 3 w g 0 es.toArray := by
  intro j hj
  simp only [Sort.size_flatK, List.size_toArray] at hj
  rw [Sort.get_flatK _ _ _ _ (by simpa using hj)]
  have hq : j / 3 < es.length := by omega
  have he : es.toArray[j / 3]! = es[j / 3] := by simp [hq]
  have h1 := cellsE_get es (j / 3) es[j / 3] (List.getElem?_eq_getElem hq)
  have h2 : (cellsE es)[j]? = (encE es[j / 3])[j % 3]? := by
    rw [← h1, List.getElem?_take, if_pos (Nat.mod_lt _ (by omega)), List.getElem?_drop, show j / 3 * 3 + j % 3 = j by omega]
  have h3 : (encE es[j / 3])[j % 3]? = some (encE es[j / 3])[j % 3]! := by
    have : j % 3 < (encE es[j / 3]).length := by simp [encE]; omega
    rw [List.getElem?_eq_getElem this, getElem!_pos (encE es[j / 3]) (j % 3) this]
  rw [h3, ← h, List.getElem?_take, if_pos hj] at h2
  rw [he]
  refine ⟨?_, ?_⟩
  · simp only [World.cell?, hg, Nat.zero_add, id]; simpa using h2
  · simp [World.frozen?, hg]
theorem rangeK {w : World} {g : Nat} {d : Array E} (h : Sort.HoldsK encE 3 w g 0 d) : w.rangeAt g 0 (cellsE d.toList) := by
  intro j v hv
  have hj : j < d.toList.length * 3 := by have := (List.getElem?_eq_some_iff.1 hv).1; rwa [cellsE_length] at this
  have hq : j / 3 < d.toList.length := by omega
  have h1 := cellsE_get d.toList (j / 3) d.toList[j / 3] (List.getElem?_eq_getElem hq)
  have h2 : (cellsE d.toList)[j]? = (encE d.toList[j / 3])[j % 3]? := by
    rw [← h1, List.getElem?_take, if_pos (Nat.mod_lt _ (by omega)), List.getElem?_drop, show j / 3 * 3 + j % 3 = j by omega]
  have hd : j / 3 < d.size := by simpa using hq
  have := (h.cell (i := j / 3) (c := j % 3) hd (Nat.mod_lt _ (by omega))).1
  rw [show 0 + j / 3 * 3 + j % 3 = 0 + j by omega] at this
  rw [this, ← hv, h2]
  have he : d[j / 3]! = d.toList[j / 3] := by simp [hd]
  have h3 : j % 3 < (encE d.toList[j / 3]).length := by simp [encE]; omega
  rw [he, List.getElem?_eq_getElem h3, getElem!_pos (encE d.toList[j / 3]) (j % 3) h3]
theorem sortWorld_below {B : Nat} {w : World} {g n : Nat} {d : Array E} {os : Array Obj} (hB : B ≤ g) (hw : B ≤ w.heap.size) : Below B w (sortWorldK encE 3 w g 0 n d os) := by
  refine ⟨rfl, rfl, rfl, ?_, fun i hi => ?_⟩
  · simp only [sortWorldK, Sort.grow, Sort.putRowK, Sort.putRow, Sort.mapBlock, Sort.ahead]
    simp
  · simp only [sortWorldK, Sort.grow, Sort.putRowK, Sort.putRow, Sort.mapBlock, Sort.ahead]
    rw [Array.getElem?_append_left (by simp; omega), Array.getElem?_modify]
    rw [if_neg (by omega)]
theorem sorted_ofM {es : List E} {d : Array E} (hp : Sort.PermIn 0 es.toArray.size es.toArray d) (hs : Sort.SortedIn (ltOf cfM) 0 es.toArray.size d) : d.toList = sortM es := by
  obtain ⟨h1, _, h3⟩ := hp
  have e1 : (d.extract 0 es.toArray.size) = d := by rw [← h1]; simp
  have e2 : (es.toArray.extract 0 es.toArray.size) = es.toArray := by simp
  rw [e1, e2] at h3
  have hperm : d.toList.Perm es := by simpa using h3
  refine sortM_is hperm ?_
  rw [List.pairwise_iff_getElem]
  intro i j hi hj hij
  have hsz : d.toList.length = es.length := hperm.length_eq
  have := hs i j (Nat.zero_le _) hij (by simp; omega)
  have hi' : i < d.size := by simpa using hi
  have hj' : j < d.size := by simpa using hj
  rw [getElem!_pos d j hj', getElem!_pos d i hi', ltM_cf] at this
  simpa [leM] using this
set_option maxHeartbeats 1000000 in
theorem sort_any (es : List E) (hsm : es.length ≤ 10000) (B : Nat) (v : Value) (w : World) (hown : w.ownsRow B 92 3 v es.length (cellsE es)) : Ans 63 [v, .func (.func 64) #[] #[]] w (fun _ w' => Below B w w' ∧ EdgesB B w' v (sortM es)) := by
  rcases hown.2 with ⟨rfl, h0⟩ | ⟨g, cap, cur, rfl, hg, hh, hc1, hc2, hc3, hc4⟩
  · obtain rfl : es = [] := List.eq_nil_of_length_eq_zero h0
    have h := AnyF.slices_SortFunc_none sortE none 0 (.func (.func 64) #[] #[]) w
    change Calls Tryd.prog 63 _ _ _ at h
    exact h.mono (by rintro e w' ⟨rfl, rfl⟩; exact ⟨_, rfl, Below.refl _ _, edgesB_nil _ _⟩)
  · have hgl : g < w.heap.size := (Array.getElem?_eq_some_iff.1 hh).1
    have hH := holdsE hh hc4
    have eg : ∀ args w, (callFunc 64 args).run Tryd.prog w = .ok (.enter 64 args) w := enters_of Tryd.func64 (by kernel_rfl) rfl
    have hcmp : CmpLays Tryd.prog 64 #[] encE 3 cfM g 0 es.toArray.size w := fun _ _ _ _ x y =>
      (cmp_any x y _).mono (by rintro e w' ⟨v, rfl, rfl, q, os, rfl⟩; exact ⟨rfl, q, os, rfl⟩)
    have h := AnyQ.slices_SortFunc sortE 3 Tryd.isAgg92 Tryd.sizeOf92 encE (fun _ => rfl) (fun x v hv => by simp [encE] at hv; rcases hv with rfl | rfl | rfl <;> rfl) cfM swoM 64 #[] g 0 cap es.toArray w eg hcmp hH hgl (by simp; omega)
    change Calls Tryd.prog 63 _ _ _ at h
    rw [show es.toArray.size = es.length by simp] at h
    refine h.mono ?_
    rintro e w' ⟨rfl, d, n, os, hp, hs, rfl⟩
    have hdl := sorted_ofM (by simpa using hp) (by simpa using hs)
    refine ⟨_, rfl, sortWorld_below hg (by omega), ?_⟩
    have hl : (sortM es).length = es.length := sortM_length es
    refine ⟨_, cap, by rw [hl], by omega, hc2, fun _ => ⟨g, 0, rfl, hg, ?_, ?_⟩⟩
    · have h2 := (sortWorld_below (B := 0) (w := w) (g := g) (n := n) (d := d) (os := os) (Nat.zero_le _) (Nat.zero_le _)).size
      exact Nat.lt_of_lt_of_le hgl h2
    · rw [← hdl]
      refine rangeK ?_
      unfold sortWorldK
      have hH2 := Sort.holdsK_ahead (enc := encE) (k := 3) w n g 0 es.toArray hH
      have hH3 := Sort.holdsK_putRowK (enc := encE) (k := 3) (Sort.ahead w n) g 0 es.toArray d hH2 hp.1
      exact Sort.holdsK_grow (enc := encE) (k := 3) _ os g 0 d (by simp [Sort.putRowK, Sort.putRow, Sort.mapBlock, Sort.ahead]; exact hgl) hH3
end Go.Proofs.YtooeahpkhocaeaaDoor
/- Layer 8: Sort, To, From. Conditions: none of our own. -/
namespace Go.Proofs.YtooeahpkhocaeaaDoor
open Go.RowKit
set_option maxRecDepth 100000

set_option maxHeartbeats 1000000 in
theorem ordered_any (es : List E) (hsm : es.length ≤ 10000) (B : Nat) (v : Value) (w : World) (hown : w.ownsRow B 92 3 v es.length (cellsE es)) : Ans 56 [v] w (fun u w' => Below B w w' ∧ EdgesB B w' u (sortM es)) := by
  refine calls_qx (args := [v]) 6 Tryd.func56 rfl (by kernel_rfl) (by simp) (fun a hS => ?_)
  refine qx_seq (reg_seq ?_)
  refine sI hS (runs_assign rfl) fun _ hS => ?_
  refine nil_ok (qx_seq (reg_seq ?_))
  refine sI hS (runs_move rfl) fun _ hS => ?_
  refine seq_op hS (by decide) (runs_call (args := [v, .func (.func 64) #[] #[]]) goes63 rfl (sort_any es hsm B v w hown)) (fun v1 w1 a1 hp hS => ?_)
  obtain ⟨hBs, hEs⟩ := hp
  refine nil_ok (qx_seq (reg_seq ?_))
  refine sI hS (runs_move rfl) fun _ hS => ?_
  refine sI hS (runs_assign rfl) fun _ hS => ?_
  exact nil_ok (qx_ret (ret1 (t := 2) (by kernel_rfl) hS rfl ⟨_, rfl, hBs, hEs⟩))
set_option maxHeartbeats 1000000 in
theorem msort_any (es : List E) (hsm : es.length ≤ 10000) (v : Value) (w : World) (hE : Edges w v es) : Ans 47 [v] w (fun u w' => Below w.heap.size w w' ∧ EdgesB w.heap.size w' u (sortM es)) := by
  refine calls_qx (args := [v]) 6 Tryd.func47 rfl (by kernel_rfl) (by simp) (fun a hS => ?_)
  have hB := Below.refl w.heap.size w
  refine qx_seq (reg_seq ?_)
  refine sI hS (runs_assign rfl) fun _ hS => ?_
  refine nil_ok (qx_seq (reg_seq ?_))
  refine sI hS (runs_move rfl) fun _ hS => ?_
  refine seq_op hS (by decide) (runs_call (args := [v, .func (.func 58) #[] #[]]) goes57 rfl (picked_any es hsm v 58 goes58 [] (fun _ => true) w hE (fun e w1 hw1 => sort1_any e w1))) (fun v1 w1 a1 hp hS => ?_)
  obtain ⟨hB1, hown⟩ := hp
  have hown := owns_mono hown hB.size
  have hB := hB.trans (hB1.mono hB.size)
  refine seq_op hS (by decide) (runs_call (args := [v1]) goes56 rfl (ordered_any (es.filter fun _ => true) (Nat.le_trans (List.length_filter_le _ _) hsm) w.heap.size v1 w1 hown)) (fun v3 w3 a1 hp hS => ?_)
  obtain ⟨hBs, hEs⟩ := hp
  rw [filter_tt] at hEs
  refine sI hS (runs_assign rfl) fun _ hS => ?_
  exact nil_ok (qx_ret (ret1 (t := 2) (by kernel_rfl) hS rfl ⟨_, rfl, hB.trans hBs, hEs⟩))
end Go.Proofs.YtooeahpkhocaeaaDoor
/- modillionlaw08.FoldRises, walked. Conditions: none of our own. -/
namespace Go.Proofs.YtooeahpkhocaeaaDoor
open Go.RowKit
set_option maxRecDepth 100000

end Go.Proofs.YtooeahpkhocaeaaDoor
/- How graphs, messages and numbers come in. No condition. -/
namespace Go.Proofs.YtooeahpkhocaeaaDoor
open Go.ChangeShapes Go.WideShapes Go.ChangeAt Go.RowKit
set_option maxRecDepth 100000

theorem und2 : Tryd.prog.underlying 2 = some (.int .i64) := by kernel_rfl
theorem ce3 : Tryd.prog.cellsOf 3 = 1 := by kernel_rfl
theorem ce2 : Tryd.prog.cellsOf 2 = 1 := by kernel_rfl
theorem ce41 : Tryd.prog.cellsOf 92 = 3 := by kernel_rfl
section
variable {H : Type} {enc : TypeId × Value → H} {W : World} {base b0 : Nat} {r : Reach} {sp : Nat → Bool} {held : Bool} {v : Value} {d : DataW H} {p : List MemPlace}
theorem cells3 {a : Addr} {cs : List Value} (h : W.cells? base a 3 = some cs) : ∀ j u, cs[j]? = some u → W.cell? (a.add j) = some u := by
  unfold World.cells? at h
  split at h
  · intro j u hj
    have hlen : cs.length = 3 := by simpa using Lib.mapM_length h
    have hj3 : j < 3 := by have := (List.getElem?_eq_some_iff.1 hj).1; omega
    obtain ⟨b, hb, hf⟩ := Lib.mapM_at h j j (by simp [hj3])
    rw [hb] at hj
    rw [hf, ← hj]
  · cases h
end
end Go.Proofs.YtooeahpkhocaeaaDoor
