/- The contracts of In.read, In.Num, In.Int. Conditions: none. -/
import Derived.Test.YtooeahpkhocaeaaDoorJ14
import Derived.Test.YtooeahpkhocaeaaDoorJ13
import Derived.Lib.Strings
import Derived.Lib.Walk
import Derived.Lib.BufferWrite
import Derived.Lib.UnsafeStr
import Derived.Laws.MakeOwn
import Derived.Test.YtooeahpkhocaeaaDoorJ08
import Derived.Laws.BitsAllLaws
import Derived.Test.YtooeahpkhocaeaaDoorTTop
import Derived.Test.YtooeahpkhocaeaaDoorEngP
import Derived.Test.YtooeahpkhocaeaaDoorJ12
import Derived.Laws.BytesString
import Derived.ArgAppend
import Derived.Laws.StructEq
namespace Go.Proofs.YtooeahpkhocaeaaDoor
open Go.RowKit
set_option maxRecDepth 100000

/-- What stands behind the first k bytes. -/
def cut (s : ByteArray) (k : Nat) : ByteArray := s.extract k s.size
theorem read_not (f : Value) (b : Nat) (s : ByteArray) (x : Nat) (w : World) (hx : x ≠ 0) (h : In w b s x) :
    Calls Tryd.prog 35 #[.pointer (some ⟨b, 0, none⟩), f] w fun e w' => e = .returned (.tuple #[]) ∧ w = w' := by
  have c1 : w.cell? ⟨b, 1, none⟩ = some (.int .i64 (x : Int)) := h.cell 1
  have t1 : ((x : Int) != 0) = true := by simp; omega
  clear h
  go_enter Tryd.func35, Tryd.ntmps35
  go_wp2
  refine bodyPost_ret (results_none rfl _ _ _) rfl ?_
  exact ⟨rfl, rfl⟩
set_option maxHeartbeats 1000000 in
theorem read_ok (F : Nat) (caps : Array Value) (b : Nat) (s : ByteArray) (n : Nat) (R : World → Prop) (w : World) (h : In w b s 0) (hn : n ≤ s.size)
    (hE : ∀ args w, (callFunc F args).run Tryd.prog w = .ok (.enter F args) w) (hF : Calls Tryd.prog F (#[.string s] ++ caps) w fun e w1 => e = .returned (.tuple #[.int .i64 (n : Int), .int .i64 0]) ∧ In w1 b s 0 ∧ R w1) :
    Calls Tryd.prog 35 #[.pointer (some ⟨b, 0, none⟩), .func (.func F) #[] caps] w fun e w' => e = .returned (.tuple #[]) ∧ ∃ w1, R w1 ∧ In w1 b s 0 ∧ w' = w1.setCell ⟨b, 0, none⟩ (.string (cut s n)) := by
  have c0 : w.cell? ⟨b, 0, none⟩ = some (.string s) := h.cell 0
  have c1 : w.cell? ⟨b, 1, none⟩ = some (.int .i64 0) := h.cell 1
  have HF := Lib.hid hF
  clear h hF
  go_enter Tryd.func35, Tryd.ntmps35
  go_wp2_with fail
  refine HF.out.mono ?_
  rintro e w1 ⟨rfl, hi, hr⟩
  have HI := Lib.hid hi
  have HR := Lib.hid hr
  have d0 : w1.cell? ⟨b, 0, none⟩ = some (.string s) := hi.cell 0
  have f0 : w1.frozen? ⟨b, 0, none⟩ = false := hi.open_ 0
  clear hi hr HF c0 c1
  go_wp2
  go_end0
  exact ⟨rfl, w1, HR.out, HI.out, rfl⟩
set_option maxHeartbeats 1000000 in
theorem read_bad (F : Nat) (caps : Array Value) (b : Nat) (s : ByteArray) (n x : Nat) (R : World → Prop) (w : World) (h : In w b s 0) (hx : x ≠ 0)
    (hE : ∀ args w, (callFunc F args).run Tryd.prog w = .ok (.enter F args) w) (hF : Calls Tryd.prog F (#[.string s] ++ caps) w fun e w1 => e = .returned (.tuple #[.int .i64 (n : Int), .int .i64 (x : Int)]) ∧ In w1 b s 0 ∧ R w1) :
    Calls Tryd.prog 35 #[.pointer (some ⟨b, 0, none⟩), .func (.func F) #[] caps] w fun e w' => e = .returned (.tuple #[]) ∧ ∃ w1, R w1 ∧ In w1 b s 0 ∧ w' = w1.setCell ⟨b, 1, none⟩ (.int .i64 (x : Int)) := by
  have c0 : w.cell? ⟨b, 0, none⟩ = some (.string s) := h.cell 0
  have c1 : w.cell? ⟨b, 1, none⟩ = some (.int .i64 0) := h.cell 1
  have t1 : ((x : Int) != 0) = true := by simp; omega
  have HF := Lib.hid hF
  clear h hF
  go_enter Tryd.func35, Tryd.ntmps35
  go_wp2_with fail
  refine HF.out.mono ?_
  rintro e w1 ⟨rfl, hi, hr⟩
  have HI := Lib.hid hi
  have HR := Lib.hid hr
  have d0 : w1.cell? ⟨b, 1, none⟩ = some (.int .i64 0) := hi.cell 1
  have f0 : w1.frozen? ⟨b, 1, none⟩ = false := hi.open_ 1
  clear hi hr HF c0 c1
  go_wp2
  refine bodyPost_ret (results_none rfl _ _ _) rfl ?_
  exact ⟨rfl, w1, HR.out, HI.out, rfl⟩
theorem enter_of {f : FuncId} {fn : Func} {c : Code} (hf : Tryd.prog.funcs[f]? = some fn) (hname : (fn.name == "runtime.NumGoroutine") = false) (hb : fn.body = some c) (args : Array Value) (w : World) :
    (callFunc f args).run Tryd.prog w = .ok (.enter f args) w := by
  have h1 : fn.name ≠ "runtime.NumGoroutine" := by simpa using hname
  simp [callFunc, hf, h1, hb]
theorem enter36 : ∀ args w, (callFunc 36 args).run Tryd.prog w = .ok (.enter 36 args) w := enter_of Tryd.func36 (by kernel_rfl) rfl
theorem enter38 : ∀ args w, (callFunc 38 args).run Tryd.prog w = .ok (.enter 38 args) w := enter_of Tryd.func38 (by kernel_rfl) rfl
theorem numClosure_any (s : ByteArray) (p : Nat) (u : Value) (w : World) (h : Has w p 48 [u]) :
    Calls Tryd.prog 36 #[.string s, .pointer (some ⟨p, 0, none⟩)] w fun e w' => e = .returned (.tuple #[.int .i64 ((Wire.rd (bl s)).2.1 : Int), .int .i64 ((Wire.rd (bl s)).2.2 : Int)]) ∧ w' = w.setCell ⟨p, 0, none⟩ (.int .u64 ((Wire.rd (bl s)).1 : Int)) := by
  have c0 : w.cell? ⟨p, 0, none⟩ = some u := h.cell 0
  have f0 : w.frozen? ⟨p, 0, none⟩ = false := h.open_ 0
  have HN := Lib.hid (number_any s w)
  clear h
  generalize Wire.rd (bl s) = r at *
  go_enter Tryd.func36, Tryd.ntmps36
  go_wp2_with fail
  refine HN.out.mono ?_
  rintro e w1 ⟨rfl, rfl⟩
  unfold rdVal
  go_wp2
  go_ret2
  exact ⟨rfl, rfl⟩
/-- What Num reads, what is left, what is wrong. -/
def numRes (s : ByteArray) (x : Nat) : Nat × ByteArray × Nat := if x ≠ 0 then (0, s, x) else if (Wire.rd (bl s)).2.2 = 0 then ((Wire.rd (bl s)).1, cut s (Wire.rd (bl s)).2.1, 0) else (0, s, (Wire.rd (bl s)).2.2)
theorem mf : ∀ (fn : Fn) (first cap : Array Value) (w : World), (Instr.makeFunc fn first cap).run Tryd.prog w = .ok (.func fn first cap) w := fun _ _ _ _ => rfl
/-- Where a reader keeps what it reads: block p, new; nothing else has turned. -/
def Kp (w : World) (b p : Nat) (t : TypeId) (cs : List Value) (w1 : World) : Prop := Has w1 p t cs ∧ Fr b nul w w1 ∧ p ≠ b
theorem kp_left {w w1 : World} {b p : Nat} {t : TypeId} {cs : List Value} {s : ByteArray} {n : Nat} (h : Kp w b p t cs w1) (hi : In w1 b s 0) : Did w b (cut s n) 0 (w1.setCell ⟨b, 0, none⟩ (.string (cut s n))) ∧ Has (w1.setCell ⟨b, 0, none⟩ (.string (cut s n))) p t cs :=
  ⟨⟨by unfold In; simpa using Has.set_ hi 0 (.string (cut s n)), h.2.1.set 0 _⟩, h.1.far (by simpa using h.2.2) _⟩
theorem kp_wrong {w w1 : World} {b p : Nat} {t : TypeId} {cs : List Value} {s : ByteArray} {x : Nat} (h : Kp w b p t cs w1) (hi : In w1 b s 0) : Did w b s x (w1.setCell ⟨b, 1, none⟩ (.int .i64 (x : Int))) ∧ Has (w1.setCell ⟨b, 1, none⟩ (.int .i64 (x : Int))) p t cs :=
  ⟨⟨by unfold In; simpa using Has.set_ hi 1 (.int .i64 (x : Int)), h.2.1.set 1 _⟩, h.1.far (by simpa using h.2.2) _⟩
theorem fr_new {b g : Nat} {w w1 : World} (h : Fr b nul w w1) (hg : w.heap.size ≤ g) (i : Nat) (u : Value) : Fr b nul w (w1.setCell ⟨g, i, none⟩ u) :=
  ⟨h.os, h.tape, h.output, by have := h.size; simpa [World.setCell] using this, fun k hk hb hv => by rw [Below.heap_setCell w1 ⟨g, i, none⟩ u k (by show k ≠ g; omega)]; exact h.block k hk hb hv⟩
set_option maxHeartbeats 1000000 in
theorem inNum_any (b : Nat) (s : ByteArray) (x : Nat) (w : World) (h : In w b s x) :
    Calls Tryd.prog 24 #[.pointer (some ⟨b, 0, none⟩)] w fun e w' => e = .returned (.int .u64 ((numRes s x).1 : Int)) ∧ Did w b (numRes s x).2.1 (numRes s x).2.2 w' := by
  have hmf := mf
  have hP : Has (w.alloc (.cells #[.int .u64 0] 48)) w.heap.size 48 [.int .u64 0] := Has.new _ _ _
  have hI : In (w.alloc (.cells #[.int .u64 0] 48)) b s x := Has.alloc h _
  have hF : Fr b nul w (w.alloc (.cells #[.int .u64 0] 48)) := (Fr.refl _ _ _).alloc _
  have hne : b ≠ w.heap.size := Nat.ne_of_lt h.lt
  by_cases hx : x ≠ 0
  · have HR := Lib.hid (show numRes s x = (0, s, x) by unfold numRes; rw [if_pos hx])
    have HI := Lib.hid hI
    have HF := Lib.hid hF
    have c0 := hP.cell 0
    have HX := Lib.hid hx
    clear h hI hP hne hF hx
    go_enter Tryd.func24, Tryd.ntmps24
    go_wp2_with fail
    refine (read_not _ b s x _ HX.out HI.out).mono ?_
    rintro e w1 ⟨rfl, rfl⟩
    go_wp2
    go_ret
    refine ⟨by rw [HR.out]; rfl, ?_⟩
    rw [HR.out]
    exact ⟨HI.out, HF.out⟩
  · obtain rfl : x = 0 := by omega
    clear hx
    have hcl := numClosure_any s w.heap.size _ _ hP
    have hin := fun u => Has.far (p := ⟨w.heap.size, 0, none⟩) hI hne u
    have hk := fun u : Value => (show Kp w b w.heap.size 48 [u] ((w.alloc (.cells #[.int .u64 0] 48)).setCell ⟨w.heap.size, 0, none⟩ u) from ⟨by simpa using hP.set_ 0 u, fr_new hF (Nat.le_refl _) 0 u, fun e => hne e.symm⟩)
    have hlen : (Wire.rd (bl s)).2.2 = 0 → (Wire.rd (bl s)).2.1 ≤ s.size := fun h0 => by
      have := (Wire.rd_back (bl s) (Wire.rd (bl s)).1 (Wire.rd (bl s)).2.1 (bl_bytes s) (by rw [← h0])).1
      rwa [bl_length] at this
    have hnr : numRes s 0 = if (Wire.rd (bl s)).2.2 = 0 then ((Wire.rd (bl s)).1, cut s (Wire.rd (bl s)).2.1, 0) else (0, s, (Wire.rd (bl s)).2.2) := by unfold numRes; rw [if_neg (by omega)]
    have hz : (Wire.rd (bl s)).2.2 ≠ 0 → (Wire.rd (bl s)).1 = 0 := fun h0 => by
      rcases Wire.rd_err (bl s) with h | h | h
      · exact absurd h h0
      · rw [h]
      · rw [h]
    generalize Wire.rd (bl s) = r at *
    obtain ⟨v, k, y⟩ := r
    simp only at hcl hlen hnr hz
    by_cases hy : y = 0
    · subst hy
      rw [if_pos rfl] at hnr
      have HR := Lib.hid hnr
      have hcall := read_ok 36 #[.pointer (some ⟨w.heap.size, 0, none⟩)] b s k (Kp w b w.heap.size 48 [.int .u64 (v : Int)]) _ hI (hlen rfl) enter36 (hcl.mono fun e w1 ⟨he, hw⟩ => ⟨he, by rw [hw]; exact hin _, by rw [hw]; exact hk _⟩)
      have HC := Lib.hid hcall
      clear h hI hP hne hF hcl hin hk hlen hnr hz hcall
      go_enter Tryd.func24, Tryd.ntmps24
      go_wp2_with fail
      refine HC.out.mono ?_
      rintro e w2 ⟨rfl, w1, hK, hI1, rfl⟩
      have HD := Lib.hid (kp_left (n := k) hK hI1)
      have c0 := HD.out.2.cell 0
      clear hK hI1
      go_wp2
      go_ret
      refine ⟨by rw [HR.out]; rfl, ?_⟩
      rw [HR.out]
      exact HD.out.1
    · rw [if_neg hy] at hnr
      have HR := Lib.hid hnr
      obtain rfl : v = 0 := hz hy
      have hcall := read_bad 36 #[.pointer (some ⟨w.heap.size, 0, none⟩)] b s k y (Kp w b w.heap.size 48 [.int .u64 ((0 : Nat) : Int)]) _ hI hy enter36 (hcl.mono fun e w1 ⟨he, hw⟩ => ⟨he, by rw [hw]; exact hin _, by rw [hw]; exact hk _⟩)
      have HC := Lib.hid hcall
      clear h hI hP hne hF hcl hin hk hlen hnr hz hcall hy
      go_enter Tryd.func24, Tryd.ntmps24
      go_wp2_with fail
      refine HC.out.mono ?_
      rintro e w2 ⟨rfl, w1, hK, hI1, rfl⟩
      have HD := Lib.hid (kp_wrong (x := y) hK hI1)
      have c0 := HD.out.2.cell 0
      clear hK hI1
      go_wp2
      go_ret
      refine ⟨by rw [HR.out]; rfl, ?_⟩
      rw [HR.out]
      exact HD.out.1
theorem num_in64 (s : ByteArray) (x : Nat) : (numRes s x).1 < 18446744073709551616 := by
  unfold numRes
  split
  · simp
  · split
    · rename_i h
      exact (Wire.rd_back (bl s) _ (Wire.rd (bl s)).2.1 (bl_bytes s) (by rw [← h])).2.2.2
    · simp
end Go.Proofs.YtooeahpkhocaeaaDoor
/- The contracts of strings.Clone. Conditions: no longer than memory bears. -/
namespace Go.Proofs.YtooeahpkhocaeaaDoor
open Go.RowKit
set_option maxRecDepth 100000

end Go.Proofs.YtooeahpkhocaeaaDoor
/- The contract of In.Text. Conditions: at most 100000 bytes are left. -/
namespace Go.Proofs.YtooeahpkhocaeaaDoor
open Go.RowKit
set_option maxRecDepth 100000

def sub (s : ByteArray) (a b : Nat) : ByteArray := s.extract a b
def nil : ByteArray := ⟨#[]⟩
/-- What Text reads, what is left, what is wrong. -/
def textOf (s : ByteArray) (most : Int) (r : Nat × Nat × Nat) : ByteArray × Nat × Nat := if r.2.2 ≠ 0 then (nil, 0, r.2.2) else if most < (r.1 : Int) then (nil, 0, 22) else if s.size - r.2.1 < r.1 then (nil, 0, 20) else (sub s r.2.1 (r.2.1 + r.1), r.2.1 + r.1, 0)
end Go.Proofs.YtooeahpkhocaeaaDoor
/- The contracts of NewOut, Out.Num, Done, folded. Conditions: what was written has at most 100000 bytes; a number of 64 bits. -/
namespace Go.Proofs.YtooeahpkhocaeaaDoor
open Go.RowKit
set_option maxRecDepth 100000

end Go.Proofs.YtooeahpkhocaeaaDoor
/- The contracts of Out.Int, Out.Text, Out.Hash, Done. Conditions: what was written has at most 50000 bytes. -/
namespace Go.Proofs.YtooeahpkhocaeaaDoor
open Go.RowKit
set_option maxRecDepth 100000

theorem outInt_any (b : Nat) (n : Int) (v : Value) (l : List Nat) (w : World) (h1 : -9223372036854775808 ≤ n) (h2 : n ≤ 9223372036854775807) (h : Out w b v l) (hl : l.length ≤ 100000) :
    Calls Tryd.prog 54 #[.pointer (some ⟨b, 0, none⟩), .int .i64 n] w fun e w' => e = .returned (.tuple #[]) ∧ Wrote w b v (l ++ Wire.num (Wire.fold n)) w' := by
  have HO := Lib.hid h
  have HF := Lib.hid (Wire.fold_lt n h1 h2)
  clear h
  go_enter Tryd.func54, Tryd.ntmps54
  go_wp2_with fail
  refine (folded_any n w h1 h2).mono ?_
  rintro e w1 ⟨rfl, rfl⟩
  go_wp2_with fail
  refine (outNum_any b (Wire.fold n) v l w HF.out HO.out hl).mono ?_
  rintro e w1 ⟨rfl, hw⟩
  go_wp2
  go_end0
  exact ⟨rfl, hw⟩

end Go.Proofs.YtooeahpkhocaeaaDoor
/- Layer 3: climb, Deep. Conditions: at most 2 to the 31 leaves; what the closure does is a premise. -/
namespace Go.Proofs.YtooeahpkhocaeaaDoor
open Go.RowKit
set_option maxRecDepth 100000

end Go.Proofs.YtooeahpkhocaeaaDoor
/- Layer 3: Prove. Conditions: the table of constants lies as it was laid; leaves of at most 100000 bytes, at most 1000000 of them. -/
namespace Go.Proofs.YtooeahpkhocaeaaDoor
open Go.RowKit
set_option maxRecDepth 100000

theorem foldl_set : ∀ (l : List Value) (k : Nat) (z : Array Value), k + l.length ≤ z.size → ((l.zipIdx k).foldl (fun (acc : Array Value) (p : Value × Nat) => acc.setIfInBounds (0 + p.2) p.1) z).toList = z.toList.take k ++ l ++ z.toList.drop (k + l.length)
  | [], k, z, _ => by simp
  | x :: l, k, z, h => by
    simp only [List.length_cons] at h
    rw [List.zipIdx_cons, List.foldl_cons, foldl_set l (k + 1) _ (by simp; omega)]
    simp only [Nat.zero_add, Array.toList_setIfInBounds, List.length_cons]
    have hk : k < z.toList.length := by simp; omega
    rw [List.take_add_one, List.take_set_of_le (by omega), List.getElem?_set_self hk, List.drop_set_of_lt (by omega), show k + 1 + l.length = k + (l.length + 1) by omega]
    simp
theorem fill_row (z : Array Value) (cs : List Value) (h : z.size = cs.length) : Instr.fill (fun i => some (i * cs.length, cs.length)) z [(0, .agg cs.toArray)] = some cs.toArray := by
  have hf := foldl_set cs 0 z (by omega)
  unfold Instr.fill
  simp only []
  split
  · rename_i hc
    exfalso
    simp [Value.cells, h] at hc
  · unfold Instr.fill
    congr 1
    apply Array.toList_inj.1
    rw [← Array.foldl_toList]
    simp only [Value.cells, Nat.zero_mul, Array.toList_zipIdx]
    rw [hf]
    simp [show z.toList.length = cs.length by simpa using h]
section
variable {P : Program} {L : List (Nat × Value)} {w : World} {ty : TypeId}
/-- A slice of one element of several cells. -/
theorem runs_buildRow {t e : TypeId} {x : Operand} {cs : List Value} {ie : TypeInfo} {z : Value} (hx : vals L x = some (.agg cs.toArray)) (hu : P.underlying t = some (.slice e)) (hie : P.info? e = some ie) (hz : ie.zero = some z) (hsz : ie.size = cs.length) (hsmall : cs.length ≤ 1000) (hpos : 0 < cs.length) :
    Runs P (.buildSlice t 1 #[(0, x)]) ty L w (Built w e 1 cs.toArray) := fun o a K Q ho _ hL hK => by
  have ex := hL x (by simp [Op.operands]) _ hx
  refine wp_buildSlice t e 1 _ ho cs.toArray ie z hu hie hz (by rw [hsz]; omega) (by rw [hsz]; omega) ?_ (hK _ _ ⟨rfl, rfl⟩)
  simp only [List.map_toArray, List.map_cons, List.map_nil, ex, hsz, Nat.one_mul]
  exact fill_row _ cs (by simp)
def AppendedN (w : World) (base : Nat) (e : TypeId) (sz : Nat) (v : Value) (k : Nat) (xs : List Value) : Value → World → Prop := fun v' w' => w'.ownsRow base e sz v' k xs ∧ w.grownBy w' v.ownBlock ∧ v' ≠ .slice none 0 0
theorem runs_appendN {t e : TypeId} {s x : Operand} {i : TypeInfo} {z v : Value} {bytes base k m c sz : Nat} {xs news : List Value} {ad : Addr} (ht : P.underlying t = some (.slice e)) (hi : P.info? e = some i) (hz : i.zero = some z)
    (hsize : i.size = sz) (hby : i.bytes = bytes) (hzs : z.cells.size = sz) (hsz : 0 < sz) (hs : vals L s = some v) (hown : w.ownsRow base e sz v k xs) (hx : vals L x = some (.slice (some ad) m c)) (hl : news.length = m * sz) (hnews : ∀ j u, news[j]? = some u → w.cell? (ad.add j) = some u)
    (h1 : ∀ u ∈ news, u.oneCell' = true) (h63 : k + m ≤ maxLen) (hbytes : (k + m) * bytes ≤ 140737488355328) (hbase : base ≤ w.heap.size) (hm : 0 < m) :
    Runs P (.call { callee := .builtin .append, args := #[s, x], argTypes := #[t, t] }) ty L w (AppendedN w base e sz v (k + m) (xs ++ news)) := fun o a K Q ho _ hL hK => by
  refine wp_append_own w s x t ho base e i z sz bytes ht hi hz hsize hby hzs hsz v k xs (hL s (by simp [Op.operands, Call.operands]) v hs) hown ad m c news (hL x (by simp [Op.operands, Call.operands]) _ hx) hl hnews h1 h63 hbytes hbase ?_
  intro v' w' h2 h3 h4
  exact hK v' w' ⟨h2, h3, fun e => by have := (h4.1 e).2; omega⟩
end
/-- The value v is a slice of the sums hs. -/
def Hashes (w : World) (v : Value) (hs : List (List Nat)) : Prop :=
  ∃ (A : Option Addr) (c : Nat), v = .slice A hs.length c ∧ hs.length ≤ c ∧ c ≤ maxLen ∧ (∀ h ∈ hs, h.length = 32 ∧ Sha.Bytes h) ∧ (0 < hs.length → ∃ b o, A = some ⟨b, o, none⟩ ∧ b < w.heap.size ∧ w.rangeAt b o (U8 hs.flatten))
theorem Hashes.kept {w w' : World} {v : Value} {hs : List (List Nat)} (h : Hashes w v hs) (k : Below w.heap.size w w') : Hashes w' v hs := by
  obtain ⟨A, c, rfl, h1, h2, h3, h4⟩ := h
  refine ⟨A, c, rfl, h1, h2, h3, fun hp => ?_⟩
  obtain ⟨b, o, rfl, hb, hr⟩ := h4 hp
  exact ⟨b, o, rfl, Nat.lt_of_lt_of_le hb k.size, range_below hr k hb⟩
theorem flatten_get : ∀ (hs : List (List Nat)) (i : Nat), (∀ h ∈ hs, h.length = 32) → i < hs.length → (hs.flatten.drop (32 * i)).take 32 = hs.getD i []
  | [], i, _, h => by simp at h
  | x :: hs, 0, hl, _ => by
    have := hl x (by simp)
    simp [← this]
  | x :: hs, i + 1, hl, h => by
    have hx := hl x (by simp)
    have ih := flatten_get hs i (fun h hh => hl h (by simp [hh])) (by simpa using h)
    rw [List.flatten_cons, show 32 * (i + 1) = x.length + 32 * i by omega, List.drop_append, List.drop_eq_nil_of_le (by omega), show x.length + 32 * i - x.length = 32 * i by omega, List.nil_append, ih]
    simp
theorem flatten_len : ∀ (hs : List (List Nat)), (∀ h ∈ hs, h.length = 32) → hs.flatten.length = hs.length * 32
  | [], _ => rfl
  | x :: hs, hl => by
    rw [List.flatten_cons, List.length_append, hl x (by simp), flatten_len hs (fun h hh => hl h (by simp [hh])), List.length_cons]; omega
theorem range_sub {w : World} {b o : Nat} {cs : List Value} (h : w.rangeAt b o cs) (k n : Nat) : w.rangeAt b (o + k) ((cs.drop k).take n) := fun j v hv => by
  rw [List.getElem?_take] at hv
  split at hv
  · rw [List.getElem?_drop] at hv
    rw [show o + k + j = o + (k + j) by omega]
    exact h (k + j) v hv
  · cases hv
theorem infHashb : (Tryd.prog.info? 23).map (fun i => (i.zero, i.size, i.bytes)) = some (some (.agg (U8 (List.replicate 32 0)).toArray), 32, 32) := by kernel_rfl
theorem hashes_own {w : World} {base : Nat} {v : Value} {hs : List (List Nat)} (h : w.ownsRow base 23 32 v hs.length (U8 hs.flatten)) (hl : ∀ h ∈ hs, h.length = 32 ∧ Sha.Bytes h) : Hashes w v hs := by
  rcases h.2 with ⟨hv, hn⟩ | ⟨g, cap, cur, hv, hb, hg, hn, hm, _⟩
  · exact ⟨none, 0, by rw [hv, hn], by omega, by unfold maxLen; omega, hl, fun hp => by omega⟩
  · refine ⟨_, cap, hv, hn, hm, hl, fun _ => ⟨g, 0, rfl, (Array.getElem?_eq_some_iff.1 hg).1, fun j u hu => ?_⟩⟩
    have := h.cells (g := g) (by rw [hv]; rfl) j u hu
    rwa [add_zero_addr] at this
end Go.Proofs.YtooeahpkhocaeaaDoor
/- More laws of operations: fields, rows of structs, strings. No condition. -/
namespace Go.Proofs.YtooeahpkhocaeaaDoor
open Go.RowKit
set_option maxRecDepth 100000

section
variable {L : List (Nat × Value)} {w : World} {ty : TypeId}
theorem und60k : Tryd.prog.underlying 60 = some (.slice 3) := by kernel_rfl
theorem und3 : Tryd.prog.underlying 3 = some (.int .i64) := by kernel_rfl
theorem inf3 : (Tryd.prog.info? 3).map (fun i => (i.zero, i.size, i.bytes)) = some (some (.int .i64 0), 1, 8) := by kernel_rfl
theorem siz3 : (Tryd.prog.info? 3).map (·.size) = some 1 := by kernel_rfl
end
end Go.Proofs.YtooeahpkhocaeaaDoor
