/- Plain mathematics: numbers one behind the other, cut somewhere. No condition. -/
import Derived.Test.YtiifdbagmbikpaaBytes
namespace Wire
def enc (ns : List Nat) : List Nat := (ns.map num).flatten
def sz (ns : List Nat) (k : Nat) : Nat := (enc (ns.take k)).length
theorem enc_append (a b : List Nat) : enc (a ++ b) = enc a ++ enc b := by simp [enc]
theorem enc_one (n : Nat) : enc [n] = num n := by simp [enc]
theorem enc_bytes (ns : List Nat) : ∀ c ∈ enc ns, c < 256 := fun c hc => by
  obtain ⟨l, hl, hc⟩ := List.mem_flatten.1 hc
  obtain ⟨n, _, rfl⟩ := List.mem_map.1 hl
  exact num_bytes n c hc
theorem enc_step (ns : List Nat) (k : Nat) (h : k < ns.length) : enc (ns.take (k + 1)) = enc (ns.take k) ++ num (ns.getD k 0) := by
  rw [List.take_add_one, enc_append, List.getElem?_eq_getElem h, Option.toList_some, enc_one, List.getD_eq_getElem?_getD, List.getElem?_eq_getElem h]
  rfl
theorem sz_step (ns : List Nat) (k : Nat) (h : k < ns.length) : sz ns (k + 1) = sz ns k + (num (ns.getD k 0)).length := by
  unfold sz; rw [enc_step ns k h, List.length_append]
theorem sz_zero (ns : List Nat) : sz ns 0 = 0 := by simp [sz, enc]
theorem enc_le (ns : List Nat) (h : ∀ n ∈ ns, n < 18446744073709551616) : (enc ns).length ≤ 10 * ns.length := by
  induction ns with
  | nil => simp [enc]
  | cons a r ih =>
    have h1 := num_len10 a (h a (List.mem_cons_self ..))
    have h2 := ih (fun n hn => h n (List.mem_cons_of_mem _ hn))
    rw [show a :: r = [a] ++ r from rfl, enc_append, enc_one, List.length_append]
    simp; omega
theorem enc_drop (ns : List Nat) (k : Nat) (h : k < ns.length) : (enc ns).drop (sz ns k) = num (ns.getD k 0) ++ (enc ns).drop (sz ns (k + 1)) := by
  have e : enc ns = enc (ns.take (k + 1)) ++ enc (ns.drop (k + 1)) := by rw [← enc_append, List.take_append_drop]
  have e2 : (enc ns).drop (sz ns (k + 1)) = enc (ns.drop (k + 1)) := by rw [e]; exact List.drop_left
  rw [e2, e, enc_step ns k h, List.append_assoc]
  exact List.drop_left
/-- What is left behind k of them, of the first K bytes. -/
def rest (ns : List Nat) (K k : Nat) : List Nat := ((enc ns).take K).drop (sz ns k)
theorem rest_all (ns : List Nat) (K k : Nat) (h : k < ns.length) (hK : sz ns (k + 1) ≤ K) : rest ns K k = num (ns.getD k 0) ++ rest ns K (k + 1) := by
  have hs := sz_step ns k h
  unfold rest
  rw [List.drop_take, List.drop_take, enc_drop ns k h, List.take_append, List.take_of_length_le (by omega)]
  congr 2
  omega
theorem rest_cut (ns : List Nat) (K k : Nat) (h : k < ns.length) (hk : sz ns k ≤ K) (hK : K < sz ns (k + 1)) : rest ns K k = (num (ns.getD k 0)).take (K - sz ns k) ∧ K - sz ns k < (num (ns.getD k 0)).length := by
  have hs := sz_step ns k h
  refine ⟨?_, by omega⟩
  unfold rest
  rw [List.drop_take, enc_drop ns k h, List.take_append, show K - sz ns k - (num (ns.getD k 0)).length = 0 by omega]
  simp
theorem rest_bytes (ns : List Nat) (K k : Nat) : ∀ c ∈ rest ns K k, c < 256 := fun c hc => enc_bytes ns c (List.mem_of_mem_take (List.mem_of_mem_drop hc))
theorem rest_length (ns : List Nat) (K k : Nat) (hK : K ≤ (enc ns).length) : (rest ns K k).length = K - sz ns k := by
  unfold rest; rw [List.length_drop, List.length_take]; omega
/-- How many bytes the first ones have. -/
def szs (ns : List Nat) (k : Nat) : List Nat := (List.range (k + 1)).map (sz ns)
theorem szs_step (ns : List Nat) (k : Nat) : szs ns (k + 1) = szs ns k ++ [sz ns (k + 1)] := by
  unfold szs; rw [List.range_succ (n := k + 1)]; simp
theorem szs_get (ns : List Nat) (k i : Nat) (h : i ≤ k) : (szs ns k)[i]? = some (sz ns i) := by
  unfold szs
  rw [List.getElem?_map, List.getElem?_range (by omega)]; rfl
theorem szs_length (ns : List Nat) (k : Nat) : (szs ns k).length = k + 1 := by simp [szs]
end Wire
