/- Layer 8: messages put in order: the library's sort with the program's own comparing. Conditions: none of our own. -/
import Derived.Test.YthkbnbnfjnliaaaDoorF8FPick
import Derived.Shelf.SlSortCmp.NoneTotal
namespace Go.Proofs.YthkbnbnfjnliaaaDoor
open Go.Shelf Go.RowKit
set_option maxRecDepth 100000

def sortE_ren : Go.Shelf.Ren := ⟨fun | 6 => 63 | 15 => 70 | 14 => 75 | 28 => 81 | 29 => 82 | 20 => 83 | 21 => 84 | 22 => 85 | 23 => 86 | 24 => 87 | 25 => 88 | 26 => 89 | 27 => 90 | 46 => 93 | 47 => 94 | 48 => 95 | 49 => 96 | 50 => 97 | 57 => 100 | n => n, fun | 22 => 23 | 24 => 31 | 25 => 96 | 3 => 3 | 39 => 74 | 0 => 0 | 53 => 114 | 55 => 41 | 4 => 4 | 46 => 118 | 45 => 117 | 50 => 122 | 5 => 5 | 9 => 9 | 66 => 132 | 70 => 135 | 76 => 140 | 77 => 141 | n => n, fun | n => n⟩
theorem sortE : Go.Proofs.SlLaysF0.n6 Tryd.prog sortE_ren := {
  mixed := by kernel_rfl
  f6 := ⟨Tryd.f63.name, by decide, Tryd.func63.trans (congrArg some (by kernel_rfl))⟩
  f14 := ⟨Tryd.f75.name, by decide, Tryd.func75.trans (congrArg some (by kernel_rfl))⟩
  f15 := Tryd.func70.trans (congrArg some (by kernel_rfl))
  f20 := ⟨Tryd.f83.name, by decide, Tryd.func83.trans (congrArg some (by kernel_rfl))⟩
  f21 := ⟨Tryd.f84.name, by decide, Tryd.func84.trans (congrArg some (by kernel_rfl))⟩
  f22 := ⟨Tryd.f85.name, by decide, Tryd.func85.trans (congrArg some (by kernel_rfl))⟩
  f23 := ⟨Tryd.f86.name, by decide, Tryd.func86.trans (congrArg some (by kernel_rfl))⟩
  f24 := ⟨Tryd.f87.name, by decide, Tryd.func87.trans (congrArg some (by kernel_rfl))⟩
  f25 := ⟨Tryd.f88.name, by decide, Tryd.func88.trans (congrArg some (by kernel_rfl))⟩
  f26 := ⟨Tryd.f89.name, by decide, Tryd.func89.trans (congrArg some (by kernel_rfl))⟩
  f27 := ⟨Tryd.f90.name, by decide, Tryd.func90.trans (congrArg some (by kernel_rfl))⟩
  f28 := Tryd.func81.trans (congrArg some (by kernel_rfl))
  f29 := Tryd.func82.trans (congrArg some (by kernel_rfl))
  f46 := ⟨Tryd.f93.name, by decide, Tryd.func93.trans (congrArg some (by kernel_rfl))⟩
  f47 := Tryd.func94.trans (congrArg some (by kernel_rfl))
  f48 := Tryd.func95.trans (congrArg some (by kernel_rfl))
  f49 := ⟨Tryd.f96.name, by decide, Tryd.func96.trans (congrArg some (by kernel_rfl))⟩
  f50 := ⟨Tryd.f97.name, by decide, Tryd.func97.trans (congrArg some (by kernel_rfl))⟩
  f57 := ⟨Tryd.f100.name, by decide, Tryd.func100.trans (congrArg some (by kernel_rfl))⟩
  t0 := Tryd.underlying0
  a0 := Tryd.isAgg0
  z0 := Tryd.sizeOf0
  v0 := Tryd.zeroValue0
  t3 := Tryd.underlying3
  a3 := Tryd.isAgg3
  z3 := Tryd.sizeOf3
  v3 := Tryd.zeroValue3
  t4 := Tryd.underlying4
  a4 := Tryd.isAgg4
  z4 := Tryd.sizeOf4
  v4 := Tryd.zeroValue4
  t5 := Tryd.underlying5
  a5 := Tryd.isAgg5
  z5 := Tryd.sizeOf5
  v5 := Tryd.zeroValue5
  t9 := Tryd.underlying9
  a9 := Tryd.isAgg9
  z9 := Tryd.sizeOf9
  v9 := Tryd.zeroValue9
  t22 := Tryd.underlying23
  a22 := Tryd.isAgg23
  z22 := Tryd.sizeOf23
  v22 := Tryd.zeroValue23
  t25 := Tryd.underlying96
  a25 := Tryd.isAgg96
  z25 := Tryd.sizeOf96
  v25 := Tryd.zeroValue96
  t39 := Tryd.underlying74
  a39 := Tryd.isAgg74
  z39 := Tryd.sizeOf74
  v39 := Tryd.zeroValue74
  t45 := Tryd.underlying117
  a45 := Tryd.isAgg117
  z45 := Tryd.sizeOf117
  v45 := Tryd.zeroValue117
  t46 := Tryd.underlying118
  a46 := Tryd.isAgg118
  z46 := Tryd.sizeOf118
  v46 := Tryd.zeroValue118
  t50 := Tryd.underlying122
  a50 := Tryd.isAgg122
  z50 := Tryd.sizeOf122
  v50 := Tryd.zeroValue122
  t53 := Tryd.underlying114
  a53 := Tryd.isAgg114
  z53 := Tryd.sizeOf114
  v53 := Tryd.zeroValue114
  t55 := Tryd.underlying41
  a55 := Tryd.isAgg41
  z55 := Tryd.sizeOf41
  v55 := Tryd.zeroValue41
  t66 := Tryd.underlying132
  a66 := Tryd.isAgg132
  z66 := Tryd.sizeOf132
  v66 := Tryd.zeroValue132
  t70 := Tryd.underlying135
  a70 := Tryd.isAgg135
  z70 := Tryd.sizeOf135
  v70 := Tryd.zeroValue135
  t76 := Tryd.underlying140
  a76 := Tryd.isAgg140
  z76 := Tryd.sizeOf140
  v76 := Tryd.zeroValue140
  t77 := Tryd.underlying141
  a77 := Tryd.isAgg141
  z77 := Tryd.sizeOf141
  v77 := Tryd.zeroValue141 }
theorem ltM_cf (a b : E) : ltOf cfM a b = lessM a b := by
  unfold ltOf cfM cmpI lessM
  repeat' split
  all_goals first
    | (rw [decide_eq_decide]; omega)
    | (simp only [decide_eq_decide]; omega)
    | omega
theorem swoM : Sort.SWO (ltOf cfM) where
  irrefl x := by rw [ltM_cf, lessM_no]; omega
  trans x y z h1 h2 := by rw [ltM_cf, lessM_iff] at *; omega
  ntrans x y z h1 h2 := by rw [ltM_cf, lessM_no] at *; omega
theorem holdsE {w : World} {g : Nat} {cur : Array Value} {es : List E} (hg : w.heap[g]? = some (.cells cur 31 (0, 0))) (h : cur.toList.take (es.length * 3) = cellsE es) : Sort.HoldsK encE 3 w g 0 es.toArray := by
  intro j hj
  simp only [Sort.size_flatK, List.size_toArray] at hj
  rw [Sort.get_flatK _ _ _ _ (by simpa using hj)]
  have hq : j / 3 < es.length := by omega
  have he : es.toArray[j / 3]! = es[j / 3] := by simp [hq]
  have h1 := cellsE_get es (j / 3) es[j / 3] (List.getElem?_eq_getElem hq)
  have h2 : (cellsE es)[j]? = (encE es[j / 3])[j % 3]? := by
    rw [← h1, List.getElem?_take, if_pos (Nat.mod_lt _ (by omega)), List.getElem?_drop, show j / 3 * 3 + j % 3 = j by omega]
  have h3 : (encE es[j / 3])[j % 3]? = some (encE es[j / 3])[j % 3]! := by
    have : j % 3 < (encE es[j / 3]).length := by simp [encE]; omega
    rw [List.getElem?_eq_getElem this, getElem!_pos (encE es[j / 3]) (j % 3) this]
  rw [h3, ← h, List.getElem?_take, if_pos hj] at h2
  rw [he]
  refine ⟨?_, ?_⟩
  · simp only [World.cell?, hg, Nat.zero_add, id]; simpa using h2
  · simp [World.frozen?, hg]
theorem rangeK {w : World} {g : Nat} {d : Array E} (h : Sort.HoldsK encE 3 w g 0 d) : w.rangeAt g 0 (cellsE d.toList) := by
  intro j v hv
  have hj : j < d.toList.length * 3 := by have := (List.getElem?_eq_some_iff.1 hv).1; rwa [cellsE_length] at this
  have hq : j / 3 < d.toList.length := by omega
  have h1 := cellsE_get d.toList (j / 3) d.toList[j / 3] (List.getElem?_eq_getElem hq)
  have h2 : (cellsE d.toList)[j]? = (encE d.toList[j / 3])[j % 3]? := by
    rw [← h1, List.getElem?_take, if_pos (Nat.mod_lt _ (by omega)), List.getElem?_drop, show j / 3 * 3 + j % 3 = j by omega]
  have hd : j / 3 < d.size := by simpa using hq
  have := (h.cell (i := j / 3) (c := j % 3) hd (Nat.mod_lt _ (by omega))).1
  rw [show 0 + j / 3 * 3 + j % 3 = 0 + j by omega] at this
  rw [this, ← hv, h2]
  have he : d[j / 3]! = d.toList[j / 3] := by simp [hd]
  have h3 : j % 3 < (encE d.toList[j / 3]).length := by simp [encE]; omega
  rw [he, List.getElem?_eq_getElem h3, getElem!_pos (encE d.toList[j / 3]) (j % 3) h3]
theorem sortWorld_below {B : Nat} {w : World} {g n : Nat} {d : Array E} {os : Array Obj} (hB : B ≤ g) (hw : B ≤ w.heap.size) : Below B w (sortWorldK encE 3 w g 0 n d os) := by
  refine ⟨rfl, rfl, rfl, ?_, fun i hi => ?_⟩
  · simp only [sortWorldK, Sort.grow, Sort.putRowK, Sort.putRow, Sort.mapBlock, Sort.ahead]
    simp
  · simp only [sortWorldK, Sort.grow, Sort.putRowK, Sort.putRow, Sort.mapBlock, Sort.ahead]
    rw [Array.getElem?_append_left (by simp; omega), Array.getElem?_modify]
    rw [if_neg (by omega)]
theorem sorted_ofM {es : List E} {d : Array E} (hp : Sort.PermIn 0 es.toArray.size es.toArray d) (hs : Sort.SortedIn (ltOf cfM) 0 es.toArray.size d) : d.toList = sortM es := by
  obtain ⟨h1, _, h3⟩ := hp
  have e1 : (d.extract 0 es.toArray.size) = d := by rw [← h1]; simp
  have e2 : (es.toArray.extract 0 es.toArray.size) = es.toArray := by simp
  rw [e1, e2] at h3
  have hperm : d.toList.Perm es := by simpa using h3
  refine sortM_is hperm ?_
  rw [List.pairwise_iff_getElem]
  intro i j hi hj hij
  have hsz : d.toList.length = es.length := hperm.length_eq
  have := hs i j (Nat.zero_le _) hij (by simp; omega)
  have hi' : i < d.size := by simpa using hi
  have hj' : j < d.size := by simpa using hj
  rw [getElem!_pos d j hj', getElem!_pos d i hi', ltM_cf] at this
  simpa [leM] using this
set_option maxHeartbeats 1000000 in
theorem sort_any (es : List E) (hsm : es.length ≤ 10000) (B : Nat) (v : Value) (w : World) (hown : w.ownsRow B 31 3 v es.length (cellsE es)) : Ans 63 [v, .func (.func 64) #[] #[]] w (fun _ w' => Below B w w' ∧ EdgesB B w' v (sortM es)) := by
  rcases hown.2 with ⟨rfl, h0⟩ | ⟨g, cap, cur, rfl, hg, hh, hc1, hc2, hc3, hc4⟩
  · obtain rfl : es = [] := List.eq_nil_of_length_eq_zero h0
    have h := AnyF.slices_SortFunc_none sortE none 0 (.func (.func 64) #[] #[]) w
    change Calls Tryd.prog 63 _ _ _ at h
    exact h.mono (by rintro e w' ⟨rfl, rfl⟩; exact ⟨_, rfl, Below.refl _ _, edgesB_nil _ _⟩)
  · have hgl : g < w.heap.size := (Array.getElem?_eq_some_iff.1 hh).1
    have hH := holdsE hh hc4
    have eg : ∀ args w, (callFunc 64 args).run Tryd.prog w = .ok (.enter 64 args) w := enters_of Tryd.func64 (by kernel_rfl) rfl
    have hcmp : CmpLays Tryd.prog 64 #[] encE 3 cfM g 0 es.toArray.size w := fun _ _ _ _ x y =>
      (cmp_any x y _).mono (by rintro e w' ⟨v, rfl, rfl, q, os, rfl⟩; exact ⟨rfl, q, os, rfl⟩)
    have h := AnyQ.slices_SortFunc sortE 3 Tryd.isAgg31 Tryd.sizeOf31 encE (fun _ => rfl) (fun x v hv => by simp [encE] at hv; rcases hv with rfl | rfl | rfl <;> rfl) cfM swoM 64 #[] g 0 cap es.toArray w eg hcmp hH hgl (by simp; omega)
    change Calls Tryd.prog 63 _ _ _ at h
    rw [show es.toArray.size = es.length by simp] at h
    refine h.mono ?_
    rintro e w' ⟨rfl, d, n, os, hp, hs, rfl⟩
    have hdl := sorted_ofM (by simpa using hp) (by simpa using hs)
    refine ⟨_, rfl, sortWorld_below hg (by omega), ?_⟩
    have hl : (sortM es).length = es.length := sortM_length es
    refine ⟨_, cap, by rw [hl], by omega, hc2, fun _ => ⟨g, 0, rfl, hg, ?_, ?_⟩⟩
    · have h2 := (sortWorld_below (B := 0) (w := w) (g := g) (n := n) (d := d) (os := os) (Nat.zero_le _) (Nat.zero_le _)).size
      exact Nat.lt_of_lt_of_le hgl h2
    · rw [← hdl]
      refine rangeK ?_
      unfold sortWorldK
      have hH2 := Sort.holdsK_ahead (enc := encE) (k := 3) w n g 0 es.toArray hH
      have hH3 := Sort.holdsK_putRowK (enc := encE) (k := 3) (Sort.ahead w n) g 0 es.toArray d hH2 hp.1
      exact Sort.holdsK_grow (enc := encE) (k := 3) _ os g 0 d (by simp [Sort.putRowK, Sort.putRow, Sort.mapBlock, Sort.ahead]; exact hgl) hH3
end Go.Proofs.YthkbnbnfjnliaaaDoor
/- Layer 8: Sort, To, From. Conditions: none of our own. -/
namespace Go.Proofs.YthkbnbnfjnliaaaDoor
open Go.RowKit
set_option maxRecDepth 100000

set_option maxHeartbeats 1000000 in
theorem ordered_any (es : List E) (hsm : es.length ≤ 10000) (B : Nat) (v : Value) (w : World) (hown : w.ownsRow B 31 3 v es.length (cellsE es)) : Ans 46 [v] w (fun u w' => Below B w w' ∧ EdgesB B w' u (sortM es)) := by
  refine calls_qx (args := [v]) 6 Tryd.func46 rfl (by kernel_rfl) (by simp) (fun a hS => ?_)
  refine qx_seq (reg_seq ?_)
  refine sI hS (runs_assign rfl) fun _ hS => ?_
  refine nil_ok (qx_seq (reg_seq ?_))
  refine sI hS (runs_move rfl) fun _ hS => ?_
  refine seq_op hS (by decide) (runs_call (args := [v, .func (.func 64) #[] #[]]) goes63 rfl (sort_any es hsm B v w hown)) (fun v1 w1 a1 hp hS => ?_)
  obtain ⟨hBs, hEs⟩ := hp
  refine nil_ok (qx_seq (reg_seq ?_))
  refine sI hS (runs_move rfl) fun _ hS => ?_
  refine sI hS (runs_assign rfl) fun _ hS => ?_
  exact nil_ok (qx_ret (ret1 (t := 2) (by kernel_rfl) hS rfl ⟨_, rfl, hBs, hEs⟩))
set_option maxHeartbeats 1000000 in
theorem msort_any (es : List E) (hsm : es.length ≤ 10000) (v : Value) (w : World) (hE : Edges w v es) : Ans 28 [v] w (fun u w' => Below w.heap.size w w' ∧ EdgesB w.heap.size w' u (sortM es)) := by
  refine calls_qx (args := [v]) 6 Tryd.func28 rfl (by kernel_rfl) (by simp) (fun a hS => ?_)
  have hB := Below.refl w.heap.size w
  refine qx_seq (reg_seq ?_)
  refine sI hS (runs_assign rfl) fun _ hS => ?_
  refine nil_ok (qx_seq (reg_seq ?_))
  refine sI hS (runs_move rfl) fun _ hS => ?_
  refine seq_op hS (by decide) (runs_call (args := [v, .func (.func 48) #[] #[]]) goes47 rfl (picked_any es hsm v 48 goes48 [] (fun _ => true) w hE (fun e w1 hw1 => sort1_any e w1))) (fun v1 w1 a1 hp hS => ?_)
  obtain ⟨hB1, hown⟩ := hp
  have hown := owns_mono hown hB.size
  have hB := hB.trans (hB1.mono hB.size)
  refine seq_op hS (by decide) (runs_call (args := [v1]) goes46 rfl (ordered_any (es.filter fun _ => true) (Nat.le_trans (List.length_filter_le _ _) hsm) w.heap.size v1 w1 hown)) (fun v3 w3 a1 hp hS => ?_)
  obtain ⟨hBs, hEs⟩ := hp
  rw [filter_tt] at hEs
  refine sI hS (runs_assign rfl) fun _ hS => ?_
  exact nil_ok (qx_ret (ret1 (t := 2) (by kernel_rfl) hS rfl ⟨_, rfl, hB.trans hBs, hEs⟩))
end Go.Proofs.YthkbnbnfjnliaaaDoor
