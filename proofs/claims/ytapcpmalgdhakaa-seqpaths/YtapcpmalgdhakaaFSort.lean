/- Layer 8: messages put in order: the library's sort with the program's own comparing. Conditions: none of our own. -/
import Derived.Test.YtapcpmalgdhakaaFPick
import Derived.Shelf.SlSortCmp.NoneTotal
namespace Go.Proofs.Ytapcpmalgdhakaa
open Go.Shelf Go.RowKit
set_option maxRecDepth 100000

def sortE_ren8 : Go.Shelf.Ren := ⟨fun | 6 => 54 | 15 => 71 | 14 => 70 | 28 => 88 | 29 => 89 | 20 => 80 | 21 => 81 | 22 => 82 | 23 => 83 | 24 => 84 | 25 => 85 | 26 => 86 | 27 => 87 | 46 => 91 | 47 => 92 | 48 => 93 | 49 => 94 | 50 => 95 | 57 => 104 | n => n, fun | 22 => 37 | 24 => 48 | 25 => 94 | 3 => 3 | 39 => 105 | 0 => 0 | 53 => 121 | 55 => 123 | 4 => 4 | 46 => 114 | 45 => 113 | 50 => 118 | 5 => 5 | 9 => 9 | 66 => 125 | 70 => 129 | 76 => 136 | 77 => 137 | n => n, fun | n => n⟩
theorem sortE8 : Go.Proofs.SlLaysF0.n6 Try.prog sortE_ren8 := {
  mixed := by kernel_rfl
  f6 := ⟨Try.f54.name, by decide, Try.func54.trans (congrArg some (by kernel_rfl))⟩
  f14 := ⟨Try.f70.name, by decide, Try.func70.trans (congrArg some (by kernel_rfl))⟩
  f15 := Try.func71.trans (congrArg some (by kernel_rfl))
  f20 := ⟨Try.f80.name, by decide, Try.func80.trans (congrArg some (by kernel_rfl))⟩
  f21 := ⟨Try.f81.name, by decide, Try.func81.trans (congrArg some (by kernel_rfl))⟩
  f22 := ⟨Try.f82.name, by decide, Try.func82.trans (congrArg some (by kernel_rfl))⟩
  f23 := ⟨Try.f83.name, by decide, Try.func83.trans (congrArg some (by kernel_rfl))⟩
  f24 := ⟨Try.f84.name, by decide, Try.func84.trans (congrArg some (by kernel_rfl))⟩
  f25 := ⟨Try.f85.name, by decide, Try.func85.trans (congrArg some (by kernel_rfl))⟩
  f26 := ⟨Try.f86.name, by decide, Try.func86.trans (congrArg some (by kernel_rfl))⟩
  f27 := ⟨Try.f87.name, by decide, Try.func87.trans (congrArg some (by kernel_rfl))⟩
  f28 := Try.func88.trans (congrArg some (by kernel_rfl))
  f29 := Try.func89.trans (congrArg some (by kernel_rfl))
  f46 := ⟨Try.f91.name, by decide, Try.func91.trans (congrArg some (by kernel_rfl))⟩
  f47 := Try.func92.trans (congrArg some (by kernel_rfl))
  f48 := Try.func93.trans (congrArg some (by kernel_rfl))
  f49 := ⟨Try.f94.name, by decide, Try.func94.trans (congrArg some (by kernel_rfl))⟩
  f50 := ⟨Try.f95.name, by decide, Try.func95.trans (congrArg some (by kernel_rfl))⟩
  f57 := ⟨Try.f104.name, by decide, Try.func104.trans (congrArg some (by kernel_rfl))⟩
  t0 := Try.underlying0
  a0 := Try.isAgg0
  z0 := Try.sizeOf0
  v0 := Try.zeroValue0
  t3 := Try.underlying3
  a3 := Try.isAgg3
  z3 := Try.sizeOf3
  v3 := Try.zeroValue3
  t4 := Try.underlying4
  a4 := Try.isAgg4
  z4 := Try.sizeOf4
  v4 := Try.zeroValue4
  t5 := Try.underlying5
  a5 := Try.isAgg5
  z5 := Try.sizeOf5
  v5 := Try.zeroValue5
  t9 := Try.underlying9
  a9 := Try.isAgg9
  z9 := Try.sizeOf9
  v9 := Try.zeroValue9
  t22 := Try.underlying37
  a22 := Try.isAgg37
  z22 := Try.sizeOf37
  v22 := Try.zeroValue37
  t25 := Try.underlying94
  a25 := Try.isAgg94
  z25 := Try.sizeOf94
  v25 := Try.zeroValue94
  t39 := Try.underlying105
  a39 := Try.isAgg105
  z39 := Try.sizeOf105
  v39 := Try.zeroValue105
  t45 := Try.underlying113
  a45 := Try.isAgg113
  z45 := Try.sizeOf113
  v45 := Try.zeroValue113
  t46 := Try.underlying114
  a46 := Try.isAgg114
  z46 := Try.sizeOf114
  v46 := Try.zeroValue114
  t50 := Try.underlying118
  a50 := Try.isAgg118
  z50 := Try.sizeOf118
  v50 := Try.zeroValue118
  t53 := Try.underlying121
  a53 := Try.isAgg121
  z53 := Try.sizeOf121
  v53 := Try.zeroValue121
  t55 := Try.underlying123
  a55 := Try.isAgg123
  z55 := Try.sizeOf123
  v55 := Try.zeroValue123
  t66 := Try.underlying125
  a66 := Try.isAgg125
  z66 := Try.sizeOf125
  v66 := Try.zeroValue125
  t70 := Try.underlying129
  a70 := Try.isAgg129
  z70 := Try.sizeOf129
  v70 := Try.zeroValue129
  t76 := Try.underlying136
  a76 := Try.isAgg136
  z76 := Try.sizeOf136
  v76 := Try.zeroValue136
  t77 := Try.underlying137
  a77 := Try.isAgg137
  z77 := Try.sizeOf137
  v77 := Try.zeroValue137 }
theorem ltM_cf (a b : E) : ltOf cfM a b = lessM a b := by
  unfold ltOf cfM cmpI lessM
  repeat' split
  all_goals first
    | (rw [decide_eq_decide]; omega)
    | (simp only [decide_eq_decide]; omega)
    | omega
theorem swoM : Sort.SWO (ltOf cfM) where
  irrefl x := by rw [ltM_cf, lessM_no]; omega
  trans x y z h1 h2 := by rw [ltM_cf, lessM_iff] at *; omega
  ntrans x y z h1 h2 := by rw [ltM_cf, lessM_no] at *; omega
theorem holdsE8 {w : World} {g : Nat} {cur : Array Value} {es : List E} (hg : w.heap[g]? = some (.cells cur 48 (0, 0))) (h : cur.toList.take (es.length * 3) = cellsE es) : Sort.HoldsK encE 3 w g 0 es.toArray := by
  intro j hj
  simp only [Sort.size_flatK, List.size_toArray] at hj
  rw [Sort.get_flatK _ _ _ _ (by simpa using hj)]
  have hq : j / 3 < es.length := by omega
  have he : es.toArray[j / 3]! = es[j / 3] := by simp [hq]
  have h1 := cellsE_get es (j / 3) es[j / 3] (List.getElem?_eq_getElem hq)
  have h2 : (cellsE es)[j]? = (encE es[j / 3])[j % 3]? := by
    rw [← h1, List.getElem?_take, if_pos (Nat.mod_lt _ (by omega)), List.getElem?_drop, show j / 3 * 3 + j % 3 = j by omega]
  have h3 : (encE es[j / 3])[j % 3]? = some (encE es[j / 3])[j % 3]! := by
    have : j % 3 < (encE es[j / 3]).length := by simp [encE]; omega
    rw [List.getElem?_eq_getElem this, getElem!_pos (encE es[j / 3]) (j % 3) this]
  rw [h3, ← h, List.getElem?_take, if_pos hj] at h2
  rw [he]
  refine ⟨?_, ?_⟩
  · simp only [World.cell?, hg, Nat.zero_add, id]; simpa using h2
  · simp [World.frozen?, hg]
theorem sorted_ofM {es : List E} {d : Array E} (hp : Sort.PermIn 0 es.toArray.size es.toArray d) (hs : Sort.SortedIn (ltOf cfM) 0 es.toArray.size d) : d.toList = sortM es := by
  obtain ⟨h1, _, h3⟩ := hp
  have e1 : (d.extract 0 es.toArray.size) = d := by rw [← h1]; simp
  have e2 : (es.toArray.extract 0 es.toArray.size) = es.toArray := by simp
  rw [e1, e2] at h3
  have hperm : d.toList.Perm es := by simpa using h3
  refine sortM_is hperm ?_
  rw [List.pairwise_iff_getElem]
  intro i j hi hj hij
  have hsz : d.toList.length = es.length := hperm.length_eq
  have := hs i j (Nat.zero_le _) hij (by simp; omega)
  have hi' : i < d.size := by simpa using hi
  have hj' : j < d.size := by simpa using hj
  rw [getElem!_pos d j hj', getElem!_pos d i hi', ltM_cf] at this
  simpa [leM] using this
set_option maxHeartbeats 1000000 in
theorem sort_any8 (es : List E) (hsm : es.length ≤ 10000) (B : Nat) (v : Value) (w : World) (hown : w.ownsRow B 48 3 v es.length (cellsE es)) : Ans 54 [v, .func (.func 55) #[] #[]] w (fun _ w' => Below B w w' ∧ EdgesB B w' v (sortM es)) := by
  rcases hown.2 with ⟨rfl, h0⟩ | ⟨g, cap, cur, rfl, hg, hh, hc1, hc2, hc3, hc4⟩
  · obtain rfl : es = [] := List.eq_nil_of_length_eq_zero h0
    have h := AnyF.slices_SortFunc_none sortE8 none 0 (.func (.func 55) #[] #[]) w
    change Calls Try.prog 54 _ _ _ at h
    exact h.mono (by rintro e w' ⟨rfl, rfl⟩; exact ⟨_, rfl, Below.refl _ _, edgesB_nil _ _⟩)
  · have hgl : g < w.heap.size := (Array.getElem?_eq_some_iff.1 hh).1
    have hH := holdsE8 hh hc4
    have eg : ∀ args w, (callFunc 55 args).run Try.prog w = .ok (.enter 55 args) w := enters_of Try.func55 (by kernel_rfl) rfl
    have hcmp : CmpLays Try.prog 55 #[] encE 3 cfM g 0 es.toArray.size w := fun _ _ _ _ x y =>
      (cmp_any8 x y _).mono (by rintro e w' ⟨v, rfl, rfl, q, os, rfl⟩; exact ⟨rfl, q, os, rfl⟩)
    have h := AnyQ.slices_SortFunc sortE8 3 Try.isAgg48 Try.sizeOf48 encE (fun _ => rfl) (fun x v hv => by simp [encE] at hv; rcases hv with rfl | rfl | rfl <;> rfl) cfM swoM 55 #[] g 0 cap es.toArray w eg hcmp hH hgl (by simp; omega)
    change Calls Try.prog 54 _ _ _ at h
    rw [show es.toArray.size = es.length by simp] at h
    refine h.mono ?_
    rintro e w' ⟨rfl, d, n, os, hp, hs, rfl⟩
    have hdl := sorted_ofM (by simpa using hp) (by simpa using hs)
    refine ⟨_, rfl, sortWorld_below hg (by omega), ?_⟩
    have hl : (sortM es).length = es.length := sortM_length es
    refine ⟨_, cap, by rw [hl], by omega, hc2, fun _ => ⟨g, 0, rfl, hg, ?_, ?_⟩⟩
    · have h2 := (sortWorld_below (B := 0) (w := w) (g := g) (n := n) (d := d) (os := os) (Nat.zero_le _) (Nat.zero_le _)).size
      exact Nat.lt_of_lt_of_le hgl h2
    · rw [← hdl]
      refine rangeK ?_
      unfold sortWorldK
      have hH2 := Sort.holdsK_ahead (enc := encE) (k := 3) w n g 0 es.toArray hH
      have hH3 := Sort.holdsK_putRowK (enc := encE) (k := 3) (Sort.ahead w n) g 0 es.toArray d hH2 hp.1
      exact Sort.holdsK_grow (enc := encE) (k := 3) _ os g 0 d (by simp [Sort.putRowK, Sort.putRow, Sort.mapBlock, Sort.ahead]; exact hgl) hH3
end Go.Proofs.Ytapcpmalgdhakaa
