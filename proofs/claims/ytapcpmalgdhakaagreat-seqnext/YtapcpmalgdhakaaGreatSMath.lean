/- Layer 7: programs, as mathematics. Conditions: none of our own. -/
import Derived.Test.YtapcpmalgdhakaaGreatGMath
namespace Go.Proofs.YtapcpmalgdhakaaGreat
set_option maxRecDepth 100000

/-- Which program a name is: 0 none, 1 max, 2 label, 3 sssp, 4 bfs, 5 degree, 6 rank, 7 walks. -/
def kindL (l : List UInt8) : Nat :=
  if l = [109, 97, 120] then 1 else if l = [108, 97, 98, 101, 108] then 2 else if l = [115, 115, 115, 112] then 3 else if l = [98, 102, 115] then 4
  else if l = [100, 101, 103, 114, 101, 101] then 5 else if l = [114, 97, 110, 107] then 6 else if l = [119, 97, 108, 107, 115] then 7 else 0
theorem kind_lt (l : List UInt8) : kindL l < 8 := by unfold kindL; repeat' split <;> first | omega | skip
theorem kind_cases (l : List UInt8) : kindL l = 0 ∨ kindL l = 1 ∨ kindL l = 2 ∨ kindL l = 3 ∨ kindL l = 4 ∨ kindL l = 5 ∨ kindL l = 6 ∨ kindL l = 7 := by have := kind_lt l; omega
theorem is1 (l : List UInt8) : (l == [109, 97, 120]) = (kindL l == 1) := by
  rw [Bool.eq_iff_iff, beq_iff_eq, beq_iff_eq]; unfold kindL
  constructor
  · rintro rfl; rfl
  · intro h; repeat' split at h <;> first | assumption | omega | skip
theorem is2 (l : List UInt8) : (l == [108, 97, 98, 101, 108]) = (kindL l == 2) := by
  rw [Bool.eq_iff_iff, beq_iff_eq, beq_iff_eq]; unfold kindL
  constructor
  · rintro rfl; rfl
  · intro h; repeat' split at h <;> first | assumption | omega | skip
theorem is3 (l : List UInt8) : (l == [115, 115, 115, 112]) = (kindL l == 3) := by
  rw [Bool.eq_iff_iff, beq_iff_eq, beq_iff_eq]; unfold kindL
  constructor
  · rintro rfl; rfl
  · intro h; repeat' split at h <;> first | assumption | omega | skip
theorem is4 (l : List UInt8) : (l == [98, 102, 115]) = (kindL l == 4) := by
  rw [Bool.eq_iff_iff, beq_iff_eq, beq_iff_eq]; unfold kindL
  constructor
  · rintro rfl; rfl
  · intro h; repeat' split at h <;> first | assumption | omega | skip
theorem is5 (l : List UInt8) : (l == [100, 101, 103, 114, 101, 101]) = (kindL l == 5) := by
  rw [Bool.eq_iff_iff, beq_iff_eq, beq_iff_eq]; unfold kindL
  constructor
  · rintro rfl; rfl
  · intro h; repeat' split at h <;> first | assumption | omega | skip
theorem is6 (l : List UInt8) : (l == [114, 97, 110, 107]) = (kindL l == 6) := by
  rw [Bool.eq_iff_iff, beq_iff_eq, beq_iff_eq]; unfold kindL
  constructor
  · rintro rfl; rfl
  · intro h; repeat' split at h <;> first | assumption | omega | skip
theorem is7 (l : List UInt8) : (l == [119, 97, 108, 107, 115]) = (kindL l == 7) := by
  rw [Bool.eq_iff_iff, beq_iff_eq, beq_iff_eq]; unfold kindL
  constructor
  · rintro rfl; rfl
  · intro h; repeat' split at h <;> first | assumption | omega | skip
/-- What is sent along the edges: by each edge's weight. -/
def sendTo (l : List E) (f : Int → Int) : List E := l.map fun e => (e.1, e.2.1, f e.2.2)
theorem sendTo_length (l : List E) (f : Int → Int) : (sendTo l f).length = l.length := by simp [sendTo]
theorem sendTo_snoc {l : List E} {i : Nat} {e : E} (h : l[i]? = some e) (f : Int → Int) : sendTo (l.take (i + 1)) f = sendTo (l.take i) f ++ [(e.1, e.2.1, f e.2.2)] := by
  rw [List.take_add_one, h, Option.toList_some, sendTo, List.map_append]; rfl
/-- A vertex's value and whether it goes on by itself, and what it sends; of max (gt) and label. -/
def bestL (fi ca better : Bool) (inn val : Int) (l : List E) : Int × List E := if fi then (val, sendTo l fun _ => val) else if ca && better then (inn, sendTo l fun _ => inn) else (val, [])
def nearL (fi so ca : Bool) (inn val : Int) (len : Int → Int) (l : List E) : Int × List E :=
  if fi then (val, if so then sendTo l len else []) else if ca && (decide (val < 0) || decide (inn < val)) then (inn, sendTo l fun x => inn + len x) else (val, [])
def degL (fi ca : Bool) (inn val : Int) (l : List E) : Int × List E := if fi then (val, sendTo l fun _ => 1) else if ca then (inn, []) else (val, [])
def walkL (fi ca : Bool) (inn val : Int) (l : List E) : Int × List E := if fi then (val, sendTo l fun _ => 1) else if ca then (val + inn, sendTo l fun _ => inn) else (val, [])
def rankV (fi : Bool) (inn val : Int) : Int := if fi then val else 9830 + inn * 85 / 100
def rankL (fi la : Bool) (inn val : Int) (l : List E) : Int × List E := (rankV fi inn val, if !la && decide (0 < l.length) then sendTo l fun _ => rankV fi inn val / (l.length : Int) else [])
def runL (k : Nat) (fi la so ca : Bool) (inn val : Int) (l : List E) : (Int × Bool) × List E :=
  if k = 1 then (((bestL fi ca (decide (inn > val)) inn val l).1, false), (bestL fi ca (decide (inn > val)) inn val l).2)
  else if k = 2 then (((bestL fi ca (decide (inn < val)) inn val l).1, false), (bestL fi ca (decide (inn < val)) inn val l).2)
  else if k = 3 then (((nearL fi so ca inn val (fun x => x) l).1, false), (nearL fi so ca inn val (fun x => x) l).2)
  else if k = 4 then (((nearL fi so ca inn val (fun _ => 1) l).1, false), (nearL fi so ca inn val (fun _ => 1) l).2)
  else if k = 5 then (((degL fi ca inn val l).1, false), (degL fi ca inn val l).2)
  else if k = 7 then (((walkL fi ca inn val l).1, false), (walkL fi ca inn val l).2)
  else if k = 6 then (((rankL fi la inn val l).1, !la), (rankL fi la inn val l).2)
  else ((val, false), [])
def great (x : Int) : Bool := decide (x > 1125899906842624) || decide (x < -1125899906842624)
theorem great_no {x : Int} (h : great x = false) : -1125899906842624 ≤ x ∧ x ≤ 1125899906842624 := by simp [great] at h; omega
/-- May a job be? -/
def jobB (n : Int) (es : List E) (k : Nat) (src steps : Int) : Bool := checkZ n es == 0 && k != 0 && decide (0 ≤ src) && decide (src < n) && decide (1 ≤ steps) && decide (steps ≤ 64)
theorem job_iff {n : Int} {es : List E} {k : Nat} {src steps : Int} : jobB n es k src steps = true ↔ checkZ n es = 0 ∧ k ≠ 0 ∧ 0 ≤ src ∧ src < n ∧ 1 ≤ steps ∧ steps ≤ 64 := by
  simp [jobB, and_assoc]
/-- A vertex: its number, its value, whether it goes on, whether something came, and what. -/
structure Vx where
  id : Int
  val : Int
  act : Bool
  has : Bool
  inn : Int
deriving DecidableEq
def noVx : Vx := ⟨0, 0, false, false, 0⟩
def outL (n : Int) (es : List E) (q : Int) : List E := (normL n.toNat es).filter fun e => e.1 == q
def mayB (n : Int) (es : List E) (k : Nat) (src steps at_ : Int) (x : Vx) : Bool := jobB n es k src steps && decide (0 ≤ x.id) && decide (x.id < n) && decide (0 ≤ at_) && decide (at_ < steps)
def turnL (n : Int) (es : List E) (k : Nat) (src steps at_ : Int) (x : Vx) : (Int × Bool) × List E :=
  runL k (at_ == 0) (at_ == steps - 1) (x.id == src) x.has (if x.has then x.inn else 0) x.val (outL n es x.id)
/-- A step: the vertex then, what it sends, the error. -/
def stepL (n : Int) (es : List E) (k : Nat) (src steps at_ : Int) (x : Vx) : Vx × List E × Int :=
  if mayB n es k src steps at_ x = false then (noVx, [], 70)
  else if great x.val || great x.inn then (noVx, [], 71)
  else if !x.act && !x.has then (x, [], 0)
  else
    let r := turnL n es k src steps at_ x
    if great r.1.1 || r.2.any (fun m => great m.2.2) then (noVx, [], 71) else (⟨x.id, r.1.1, r.1.2, false, 0⟩, r.2, 0)
/-- At first. -/
def firstV (k : Nat) (src v : Int) : Int :=
  if k = 1 then (37 * v + 11) % 64 else if k = 2 then v else if k = 3 ∨ k = 4 then (if v = src then 0 else -1) else if k = 6 then 65536 else if k = 7 then 1 else 0
def foldV (k : Nat) (a b : Int) : Int := if k = 1 then (if a ≥ b then a else b) else if k = 2 ∨ k = 3 ∨ k = 4 then (if a ≤ b then a else b) else a + b
def foldL (k : Nat) (a b : Int) : Int × Int := if k = 0 then (0, 70) else if great a || great b then (0, 71) else if great (foldV k a b) then (0, 71) else (foldV k a b, 0)
end Go.Proofs.YtapcpmalgdhakaaGreat
