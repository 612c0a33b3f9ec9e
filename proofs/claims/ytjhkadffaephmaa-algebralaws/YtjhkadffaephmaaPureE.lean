/-
  Plain mathematics: all cases of a law by one number: its digits are the routes.
-/
import Derived.Test.YtjhkadffaephmaaBroken
namespace Go.Proofs.Ytjhkadffaephmaa
open Go.RowKit

/-- The number that stands in place i, when the last (many less t) places are filled. -/
def digit (many s n t i : Nat) : Nat := if t ≤ i ∧ i < many then n / s ^ (many - 1 - i) % s else 0

def caseAt (l : Int) (many s n e : Nat) : Brk := ⟨l, digit many s n 0 0, digit many s n 0 1, digit many s n 0 2, e⟩

def enumTo (l : Int) (many s ed n e : Nat) : List Brk := ((List.range n).flatMap fun k => (List.range ed).map fun j => caseAt l many s k j) ++ (List.range e).map fun j => caseAt l many s n j

theorem enumTo_snoc (l : Int) (many s ed n e : Nat) : enumTo l many s ed n (e + 1) = enumTo l many s ed n e ++ [caseAt l many s n e] := by
  simp [enumTo, List.range_succ]
theorem enumTo_row (l : Int) (many s ed n : Nat) : enumTo l many s ed n ed = enumTo l many s ed (n + 1) 0 := by
  simp [enumTo, List.range_succ, List.flatMap_append]
theorem enumTo_0 (l : Int) (many s ed : Nat) : enumTo l many s ed 0 0 = [] := by simp [enumTo]

theorem enumTo_pre {l : Int} {many s ed n e N : Nat} (hn : n < N) (he : e ≤ ed) : enumTo l many s ed n e <+: enumTo l many s ed N 0 := by
  have h1 : enumTo l many s ed n e <+: enumTo l many s ed (n + 1) 0 := by
    rw [← enumTo_row]
    unfold enumTo
    refine (List.prefix_append_right_inj _).2 ?_
    have : List.range ed = List.range e ++ (List.range (ed - e)).map (e + ·) := by
      have := @List.range_add e (ed - e)
      rwa [show e + (ed - e) = ed by omega] at this
    rw [this, List.map_append]
    exact List.prefix_append _ _
  refine h1.trans ?_
  have h2 : ∀ k, enumTo l many s ed k 0 <+: enumTo l many s ed (k + 1) 0 := fun k => by
    rw [← enumTo_row]
    unfold enumTo
    simp
  exact pre_mono h2 hn

theorem range_mul {β : Type} (m k : Nat) (f : Nat → List β) : (List.range (m * k)).flatMap f = (List.range m).flatMap fun i => (List.range k).flatMap fun j => f (i * k + j) := by
  induction m with
  | zero => simp
  | succ m ih =>
    rw [Nat.succ_mul, List.range_add, List.flatMap_append, ih, List.range_succ, List.flatMap_append]
    simp [List.flatMap_map]

theorem flatMap_congr' {α β : Type} {l : List α} {f g : α → List β} (h : ∀ x ∈ l, f x = g x) : l.flatMap f = l.flatMap g := by
  rw [List.flatMap_def, List.flatMap_def, List.map_congr_left h]

theorem enum0 (l : Int) (s ed : Nat) : enumTo l 0 s ed 1 0 = casesA l 1 1 ed 1 := by
  simp [enumTo, casesA, casesB, casesC, casesE, caseAt, digit, List.range_succ]

theorem enum1 (l : Int) (s ed : Nat) : enumTo l 1 s ed s 0 = casesA l 1 1 ed s := by
  simp only [enumTo, casesA, casesB, casesC, casesE, List.range_zero, List.map_nil, List.append_nil]
  refine flatMap_congr' fun x hx => ?_
  have hx' : x < s := List.mem_range.1 hx
  simp [caseAt, digit, List.range_succ, Nat.mod_eq_of_lt hx']

theorem enum2 (l : Int) (s ed : Nat) : enumTo l 2 s ed (s * s) 0 = casesA l s 1 ed s := by
  simp only [enumTo, casesA, casesB, casesC, casesE, List.range_zero, List.map_nil, List.append_nil]
  rw [range_mul]
  refine flatMap_congr' fun x hx => flatMap_congr' fun y hy => ?_
  have hx' : x < s := List.mem_range.1 hx
  have hy' : y < s := List.mem_range.1 hy
  have h1 : (x * s + y) % s = y := by rw [Nat.mul_add_mod_self_right]; exact Nat.mod_eq_of_lt hy'
  have h2 : (x * s + y) / s = x := by rw [Nat.mul_comm, Nat.mul_add_div (by omega), Nat.div_eq_of_lt hy', Nat.add_zero]
  simp [caseAt, digit, List.range_succ, h1, h2, Nat.mod_eq_of_lt hx']

theorem enum3 (l : Int) (s ed : Nat) : enumTo l 3 s ed (s * s * s) 0 = casesA l s s ed s := by
  simp only [enumTo, casesA, casesB, casesC, casesE, List.range_zero, List.map_nil, List.append_nil]
  rw [range_mul, range_mul]
  refine flatMap_congr' fun x hx => flatMap_congr' fun y hy => flatMap_congr' fun z hz => ?_
  have hx' : x < s := List.mem_range.1 hx
  have hy' : y < s := List.mem_range.1 hy
  have hz' : z < s := List.mem_range.1 hz
  have h1 : ((x * s + y) * s + z) % s = z := by rw [Nat.mul_add_mod_self_right]; exact Nat.mod_eq_of_lt hz'
  have h2 : ((x * s + y) * s + z) / s = x * s + y := by rw [Nat.mul_comm, Nat.mul_add_div (by omega), Nat.div_eq_of_lt hz', Nat.add_zero]
  have h3 : (x * s + y) % s = y := by rw [Nat.mul_add_mod_self_right]; exact Nat.mod_eq_of_lt hy'
  have h4 : (x * s + y) / s = x := by rw [Nat.mul_comm, Nat.mul_add_div (by omega), Nat.div_eq_of_lt hy', Nat.add_zero]
  have h5 : ((x * s + y) * s + z) / s ^ 2 = x := by rw [Nat.pow_two, ← Nat.div_div_eq_div_mul, h2, h4]
  simp [caseAt, digit, h1, h2, h3, h5, Nat.mod_eq_of_lt hx']

/-- By one number, all cases of a law come, in their order. -/
theorem enum_eq {a : Alg} {l : Int} {s many ed : Nat} (hs : a.size = s) (hm : routesOf l = many) (he : (if edgeOf l then a.E.len else 1) = ed) : enumTo l many s ed (s ^ many) 0 = a.casesOf l := by
  have hE : (spanE a l).toNat = ed := by
    unfold spanE; rw [← he]; cases edgeOf l <;> simp
  unfold Alg.casesOf spanA spanB spanC
  rw [hE, hs, hm]
  have hc : many = 0 ∨ many = 1 ∨ many = 2 ∨ many = 3 := by have := routes_cases l; omega
  rcases hc with rfl | rfl | rfl | rfl
  · exact enum0 l s ed
  · simpa using enum1 l s ed
  · rw [show s ^ 2 = s * s from Nat.pow_two s]
    simpa using enum2 l s ed
  · rw [show s ^ 3 = s * s * s by rw [Nat.pow_succ, Nat.pow_two]]
    simpa using enum3 l s ed

end Go.Proofs.Ytjhkadffaephmaa
