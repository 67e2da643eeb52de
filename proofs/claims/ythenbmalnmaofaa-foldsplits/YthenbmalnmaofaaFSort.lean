/- Layer 8: messages put in order: the library's sort with the program's own comparing. Conditions: none of our own. -/
import Derived.Test.YthenbmalnmaofaaFPick
import Derived.Shelf.SlSortCmp.NoneTotal
namespace Go.Proofs.Ythenbmalnmaofaa
open Go.Shelf Go.RowKit
set_option maxRecDepth 100000

def sortE_ren : Go.Shelf.Ren := ⟨fun | 6 => 43 | 15 => 56 | 14 => 55 | 28 => 69 | 29 => 70 | 20 => 61 | 21 => 62 | 22 => 63 | 23 => 64 | 24 => 65 | 25 => 66 | 26 => 67 | 27 => 68 | 46 => 72 | 47 => 73 | 48 => 74 | 49 => 75 | 50 => 76 | 57 => 77 | n => n, fun | 22 => 22 | 24 => 41 | 25 => 62 | 3 => 3 | 39 => 75 | 0 => 0 | 53 => 70 | 55 => 72 | 4 => 4 | 46 => 82 | 45 => 81 | 50 => 86 | 5 => 5 | 9 => 9 | 66 => 91 | 70 => 95 | 76 => 97 | 77 => 98 | n => n, fun | n => n⟩
theorem sortE : Go.Proofs.SlLaysF0.n6 Try.prog sortE_ren := {
  mixed := by kernel_rfl
  f6 := ⟨Try.f43.name, by decide, Try.func43.trans (congrArg some (by kernel_rfl))⟩
  f14 := ⟨Try.f55.name, by decide, Try.func55.trans (congrArg some (by kernel_rfl))⟩
  f15 := Try.func56.trans (congrArg some (by kernel_rfl))
  f20 := ⟨Try.f61.name, by decide, Try.func61.trans (congrArg some (by kernel_rfl))⟩
  f21 := ⟨Try.f62.name, by decide, Try.func62.trans (congrArg some (by kernel_rfl))⟩
  f22 := ⟨Try.f63.name, by decide, Try.func63.trans (congrArg some (by kernel_rfl))⟩
  f23 := ⟨Try.f64.name, by decide, Try.func64.trans (congrArg some (by kernel_rfl))⟩
  f24 := ⟨Try.f65.name, by decide, Try.func65.trans (congrArg some (by kernel_rfl))⟩
  f25 := ⟨Try.f66.name, by decide, Try.func66.trans (congrArg some (by kernel_rfl))⟩
  f26 := ⟨Try.f67.name, by decide, Try.func67.trans (congrArg some (by kernel_rfl))⟩
  f27 := ⟨Try.f68.name, by decide, Try.func68.trans (congrArg some (by kernel_rfl))⟩
  f28 := Try.func69.trans (congrArg some (by kernel_rfl))
  f29 := Try.func70.trans (congrArg some (by kernel_rfl))
  f46 := ⟨Try.f72.name, by decide, Try.func72.trans (congrArg some (by kernel_rfl))⟩
  f47 := Try.func73.trans (congrArg some (by kernel_rfl))
  f48 := Try.func74.trans (congrArg some (by kernel_rfl))
  f49 := ⟨Try.f75.name, by decide, Try.func75.trans (congrArg some (by kernel_rfl))⟩
  f50 := ⟨Try.f76.name, by decide, Try.func76.trans (congrArg some (by kernel_rfl))⟩
  f57 := ⟨Try.f77.name, by decide, Try.func77.trans (congrArg some (by kernel_rfl))⟩
  t0 := Try.underlying0
  a0 := Try.isAgg0
  z0 := Try.sizeOf0
  v0 := Try.zeroValue0
  t3 := Try.underlying3
  a3 := Try.isAgg3
  z3 := Try.sizeOf3
  v3 := Try.zeroValue3
  t4 := Try.underlying4
  a4 := Try.isAgg4
  z4 := Try.sizeOf4
  v4 := Try.zeroValue4
  t5 := Try.underlying5
  a5 := Try.isAgg5
  z5 := Try.sizeOf5
  v5 := Try.zeroValue5
  t9 := Try.underlying9
  a9 := Try.isAgg9
  z9 := Try.sizeOf9
  v9 := Try.zeroValue9
  t22 := Try.underlying22
  a22 := Try.isAgg22
  z22 := Try.sizeOf22
  v22 := Try.zeroValue22
  t25 := Try.underlying62
  a25 := Try.isAgg62
  z25 := Try.sizeOf62
  v25 := Try.zeroValue62
  t39 := Try.underlying75
  a39 := Try.isAgg75
  z39 := Try.sizeOf75
  v39 := Try.zeroValue75
  t45 := Try.underlying81
  a45 := Try.isAgg81
  z45 := Try.sizeOf81
  v45 := Try.zeroValue81
  t46 := Try.underlying82
  a46 := Try.isAgg82
  z46 := Try.sizeOf82
  v46 := Try.zeroValue82
  t50 := Try.underlying86
  a50 := Try.isAgg86
  z50 := Try.sizeOf86
  v50 := Try.zeroValue86
  t53 := Try.underlying70
  a53 := Try.isAgg70
  z53 := Try.sizeOf70
  v53 := Try.zeroValue70
  t55 := Try.underlying72
  a55 := Try.isAgg72
  z55 := Try.sizeOf72
  v55 := Try.zeroValue72
  t66 := Try.underlying91
  a66 := Try.isAgg91
  z66 := Try.sizeOf91
  v66 := Try.zeroValue91
  t70 := Try.underlying95
  a70 := Try.isAgg95
  z70 := Try.sizeOf95
  v70 := Try.zeroValue95
  t76 := Try.underlying97
  a76 := Try.isAgg97
  z76 := Try.sizeOf97
  v76 := Try.zeroValue97
  t77 := Try.underlying98
  a77 := Try.isAgg98
  z77 := Try.sizeOf98
  v77 := Try.zeroValue98 }
theorem ltM_cf (a b : E) : ltOf cfM a b = lessM a b := by
  unfold ltOf cfM cmpI lessM
  repeat' split
  all_goals first
    | (rw [decide_eq_decide]; omega)
    | (simp only [decide_eq_decide]; omega)
    | omega
theorem swoM : Sort.SWO (ltOf cfM) where
  irrefl x := by rw [ltM_cf, lessM_no]; omega
  trans x y z h1 h2 := by rw [ltM_cf, lessM_iff] at *; omega
  ntrans x y z h1 h2 := by rw [ltM_cf, lessM_no] at *; omega
theorem holdsE {w : World} {g : Nat} {cur : Array Value} {es : List E} (hg : w.heap[g]? = some (.cells cur 41 (0, 0))) (h : cur.toList.take (es.length * 3) = cellsE es) : Sort.HoldsK encE 3 w g 0 es.toArray := by
  intro j hj
  simp only [Sort.size_flatK, List.size_toArray] at hj
  rw [Sort.get_flatK _ _ _ _ (by simpa using hj)]
  have hq : j / 3 < es.length := by omega
  have he : es.toArray[j / 3]! = es[j / 3] := by simp [hq]
  have h1 := cellsE_get es (j / 3) es[j / 3] (List.getElem?_eq_getElem hq)
  have h2 : (cellsE es)[j]? = (encE es[j / 3])[j % 3]? := by
    rw [← h1, List.getElem?_take, if_pos (Nat.mod_lt _ (by omega)), List.getElem?_drop, show j / 3 * 3 + j % 3 = j by omega]
  have h3 : (encE es[j / 3])[j % 3]? = some (encE es[j / 3])[j % 3]! := by
    have : j % 3 < (encE es[j / 3]).length := by simp [encE]; omega
    rw [List.getElem?_eq_getElem this, getElem!_pos (encE es[j / 3]) (j % 3) this]
  rw [h3, ← h, List.getElem?_take, if_pos hj] at h2
  rw [he]
  refine ⟨?_, ?_⟩
  · simp only [World.cell?, hg, Nat.zero_add, id]; simpa using h2
  · simp [World.frozen?, hg]
theorem rangeK {w : World} {g : Nat} {d : Array E} (h : Sort.HoldsK encE 3 w g 0 d) : w.rangeAt g 0 (cellsE d.toList) := by
  intro j v hv
  have hj : j < d.toList.length * 3 := by have := (List.getElem?_eq_some_iff.1 hv).1; rwa [cellsE_length] at this
  have hq : j / 3 < d.toList.length := by omega
  have h1 := cellsE_get d.toList (j / 3) d.toList[j / 3] (List.getElem?_eq_getElem hq)
  have h2 : (cellsE d.toList)[j]? = (encE d.toList[j / 3])[j % 3]? := by
    rw [← h1, List.getElem?_take, if_pos (Nat.mod_lt _ (by omega)), List.getElem?_drop, show j / 3 * 3 + j % 3 = j by omega]
  have hd : j / 3 < d.size := by simpa using hq
  have := (h.cell (i := j / 3) (c := j % 3) hd (Nat.mod_lt _ (by omega))).1
  rw [show 0 + j / 3 * 3 + j % 3 = 0 + j by omega] at this
  rw [this, ← hv, h2]
  have he : d[j / 3]! = d.toList[j / 3] := by simp [hd]
  have h3 : j % 3 < (encE d.toList[j / 3]).length := by simp [encE]; omega
  rw [he, List.getElem?_eq_getElem h3, getElem!_pos (encE d.toList[j / 3]) (j % 3) h3]
theorem sortWorld_below {B : Nat} {w : World} {g n : Nat} {d : Array E} {os : Array Obj} (hB : B ≤ g) (hw : B ≤ w.heap.size) : Below B w (sortWorldK encE 3 w g 0 n d os) := by
  refine ⟨rfl, rfl, rfl, ?_, fun i hi => ?_⟩
  · simp only [sortWorldK, Sort.grow, Sort.putRowK, Sort.putRow, Sort.mapBlock, Sort.ahead]
    simp
  · simp only [sortWorldK, Sort.grow, Sort.putRowK, Sort.putRow, Sort.mapBlock, Sort.ahead]
    rw [Array.getElem?_append_left (by simp; omega), Array.getElem?_modify]
    rw [if_neg (by omega)]
theorem sorted_ofM {es : List E} {d : Array E} (hp : Sort.PermIn 0 es.toArray.size es.toArray d) (hs : Sort.SortedIn (ltOf cfM) 0 es.toArray.size d) : d.toList = sortM es := by
  obtain ⟨h1, _, h3⟩ := hp
  have e1 : (d.extract 0 es.toArray.size) = d := by rw [← h1]; simp
  have e2 : (es.toArray.extract 0 es.toArray.size) = es.toArray := by simp
  rw [e1, e2] at h3
  have hperm : d.toList.Perm es := by simpa using h3
  refine sortM_is hperm ?_
  rw [List.pairwise_iff_getElem]
  intro i j hi hj hij
  have hsz : d.toList.length = es.length := hperm.length_eq
  have := hs i j (Nat.zero_le _) hij (by simp; omega)
  have hi' : i < d.size := by simpa using hi
  have hj' : j < d.size := by simpa using hj
  rw [getElem!_pos d j hj', getElem!_pos d i hi', ltM_cf] at this
  simpa [leM] using this
set_option maxHeartbeats 1000000 in
theorem sort_any (es : List E) (hsm : es.length ≤ 10000) (B : Nat) (v : Value) (w : World) (hown : w.ownsRow B 41 3 v es.length (cellsE es)) : Ans 43 [v, .func (.func 44) #[] #[]] w (fun _ w' => Below B w w' ∧ EdgesB B w' v (sortM es)) := by
  rcases hown.2 with ⟨rfl, h0⟩ | ⟨g, cap, cur, rfl, hg, hh, hc1, hc2, hc3, hc4⟩
  · obtain rfl : es = [] := List.eq_nil_of_length_eq_zero h0
    have h := AnyF.slices_SortFunc_none sortE none 0 (.func (.func 44) #[] #[]) w
    change Calls Try.prog 43 _ _ _ at h
    exact h.mono (by rintro e w' ⟨rfl, rfl⟩; exact ⟨_, rfl, Below.refl _ _, edgesB_nil _ _⟩)
  · have hgl : g < w.heap.size := (Array.getElem?_eq_some_iff.1 hh).1
    have hH := holdsE hh hc4
    have eg : ∀ args w, (callFunc 44 args).run Try.prog w = .ok (.enter 44 args) w := enters_of Try.func44 (by kernel_rfl) rfl
    have hcmp : CmpLays Try.prog 44 #[] encE 3 cfM g 0 es.toArray.size w := fun _ _ _ _ x y =>
      (cmp_any x y _).mono (by rintro e w' ⟨v, rfl, rfl, q, os, rfl⟩; exact ⟨rfl, q, os, rfl⟩)
    have h := AnyQ.slices_SortFunc sortE 3 Try.isAgg41 Try.sizeOf41 encE (fun _ => rfl) (fun x v hv => by simp [encE] at hv; rcases hv with rfl | rfl | rfl <;> rfl) cfM swoM 44 #[] g 0 cap es.toArray w eg hcmp hH hgl (by simp; omega)
    change Calls Try.prog 43 _ _ _ at h
    rw [show es.toArray.size = es.length by simp] at h
    refine h.mono ?_
    rintro e w' ⟨rfl, d, n, os, hp, hs, rfl⟩
    have hdl := sorted_ofM (by simpa using hp) (by simpa using hs)
    refine ⟨_, rfl, sortWorld_below hg (by omega), ?_⟩
    have hl : (sortM es).length = es.length := sortM_length es
    refine ⟨_, cap, by rw [hl], by omega, hc2, fun _ => ⟨g, 0, rfl, hg, ?_, ?_⟩⟩
    · have h2 := (sortWorld_below (B := 0) (w := w) (g := g) (n := n) (d := d) (os := os) (Nat.zero_le _) (Nat.zero_le _)).size
      exact Nat.lt_of_lt_of_le hgl h2
    · rw [← hdl]
      refine rangeK ?_
      unfold sortWorldK
      have hH2 := Sort.holdsK_ahead (enc := encE) (k := 3) w n g 0 es.toArray hH
      have hH3 := Sort.holdsK_putRowK (enc := encE) (k := 3) (Sort.ahead w n) g 0 es.toArray d hH2 hp.1
      exact Sort.holdsK_grow (enc := encE) (k := 3) _ os g 0 d (by simp [Sort.putRowK, Sort.putRow, Sort.mapBlock, Sort.ahead]; exact hgl) hH3
end Go.Proofs.Ythenbmalnmaofaa
