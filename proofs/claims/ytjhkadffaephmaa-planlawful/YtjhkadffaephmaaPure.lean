/-
  Plain mathematics on tables of routes: nothing of the program, nothing of memory.
-/
namespace Go.Proofs.Ytjhkadffaephmaa

/-- A table of numbers by its indices: so many rows, each of its own length. -/
structure Tab where
  len : Nat
  L : Nat → Nat
  Z : Nat → Nat → Int

/-- An algebra by its numbers. -/
structure Alg where
  size : Int
  B : Tab
  E : Tab

/-- What is told to be broken. -/
structure Brk where
  law : Int
  a : Int
  b : Int
  c : Int
  e : Int

/-- Are two the same? -/
def Brk.same (x y : Brk) : Bool := x.law == y.law && x.a == y.a && x.b == y.b && x.c == y.c && x.e == y.e

theorem Brk.same_iff {x y : Brk} : x.same y = true ↔ x = y := by
  obtain ⟨x1, x2, x3, x4, x5⟩ := x
  obtain ⟨y1, y2, y3, y4, y5⟩ := y
  simp [Brk.same, and_assoc]

def Tab.wide (t : Tab) (s : Int) : Bool := (List.range t.len).all fun r => (t.L r : Int) == s
def Tab.rowOk (t : Tab) (s : Int) (r : Nat) : Bool := (List.range (t.L r)).all fun c => decide (0 ≤ t.Z r c) && decide (t.Z r c < s)
def Tab.routes (t : Tab) (s : Int) : Bool := (List.range t.len).all fun r => t.rowOk s r

def Alg.formOk (a : Alg) : Bool := ((a.B.len : Int) == a.size) && a.B.wide a.size && a.E.wide a.size
def Alg.routesOk (a : Alg) : Bool := a.B.routes a.size && a.E.routes a.size
def Alg.check (a : Alg) : Int :=
  if a.size < 2 ∨ 24 < a.size then 3 else if 8 < a.E.len then 2 else if a.formOk = false then 1 else if a.routesOk = false then 5 else 0

theorem Tab.wide_iff (t : Tab) (s : Int) : t.wide s = true ↔ ∀ r, r < t.len → (t.L r : Int) = s := by
  simp [Tab.wide]

theorem Tab.wide_false {t : Tab} {s : Int} {r : Nat} (h : r < t.len) (hn : (t.L r : Int) ≠ s) : t.wide s = false := by
  rw [Bool.eq_false_iff]; intro hw; exact hn ((t.wide_iff s).1 hw r h)

theorem Tab.rowOk_iff (t : Tab) (s : Int) (r : Nat) : t.rowOk s r = true ↔ ∀ c, c < t.L r → 0 ≤ t.Z r c ∧ t.Z r c < s := by
  simp [Tab.rowOk]

theorem Tab.routes_iff (t : Tab) (s : Int) : t.routes s = true ↔ ∀ r, r < t.len → ∀ c, c < t.L r → 0 ≤ t.Z r c ∧ t.Z r c < s := by
  simp only [Tab.routes, List.all_eq_true, List.mem_range, Tab.rowOk_iff]

theorem Tab.routes_false {t : Tab} {s : Int} {r c : Nat} (h : r < t.len) (hc : c < t.L r) (hn : t.Z r c < 0 ∨ s ≤ t.Z r c) : t.routes s = false := by
  rw [Bool.eq_false_iff]; intro hw; have := (t.routes_iff s).1 hw r h c hc; omega

end Go.Proofs.Ytjhkadffaephmaa
