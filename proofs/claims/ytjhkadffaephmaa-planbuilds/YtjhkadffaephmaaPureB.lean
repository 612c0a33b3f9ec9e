/-
  Plain mathematics: algebras that pass Check; what holds of them; the cases of a law, in order.
-/
import Derived.Test.YtjhkadffaephmaaPure
namespace Go.Proofs.Ytjhkadffaephmaa

/-- What stands in a table. -/
def Tab.get (t : Tab) (r s : Int) : Int := t.Z r.toNat s.toNat

/-- An algebra that passes Check. -/
structure Alg.Good (a : Alg) : Prop where
  lo : 2 ≤ a.size
  hi : a.size ≤ 24
  el : a.E.len ≤ 8
  bl : (a.B.len : Int) = a.size
  bw : ∀ r, r < a.B.len → (a.B.L r : Int) = a.size
  ew : ∀ r, r < a.E.len → (a.E.L r : Int) = a.size
  bz : ∀ r, r < a.B.len → ∀ c, c < a.B.L r → 0 ≤ a.B.Z r c ∧ a.B.Z r c < a.size
  ez : ∀ r, r < a.E.len → ∀ c, c < a.E.L r → 0 ≤ a.E.Z r c ∧ a.E.Z r c < a.size

theorem Alg.good_of_check {a : Alg} (h : a.check = 0) : a.Good := by
  unfold Alg.check at h
  split at h
  · cases h
  split at h
  · cases h
  split at h
  · cases h
  split at h
  · cases h
  next h1 h2 h3 h4 =>
    have h3' : a.formOk = true := by cases e : a.formOk <;> simp_all
    have h4' : a.routesOk = true := by cases e : a.routesOk <;> simp_all
    simp only [Alg.formOk, Bool.and_eq_true, beq_iff_eq, Tab.wide_iff] at h3'
    simp only [Alg.routesOk, Bool.and_eq_true, Tab.routes_iff] at h4'
    exact ⟨by omega, by omega, by omega, h3'.1.1, h3'.1.2, h3'.2, h4'.1, h4'.2⟩

theorem Alg.Good.check {a : Alg} (g : a.Good) : a.check = 0 := by
  have h1 : a.formOk = true := by
    simp only [Alg.formOk, Bool.and_eq_true, beq_iff_eq, Tab.wide_iff]; exact ⟨⟨g.bl, g.bw⟩, g.ew⟩
  have h2 : a.routesOk = true := by
    simp only [Alg.routesOk, Bool.and_eq_true, Tab.routes_iff]; exact ⟨g.bz, g.ez⟩
  have := g.lo; have := g.hi; have := g.el
  unfold Alg.check
  rw [if_neg (by omega), if_neg (by omega), h1, h2]; rfl

theorem Alg.Good.best {a : Alg} (g : a.Good) {r s : Int} (h0 : 0 ≤ r) (h1 : r < a.size) (h2 : 0 ≤ s) (h3 : s < a.size) : 0 ≤ a.B.get r s ∧ a.B.get r s < a.size := by
  have := g.bl
  have hr : r.toNat < a.B.len := by omega
  have := g.bw _ hr
  exact g.bz _ hr _ (by omega)

theorem Alg.Good.edge {a : Alg} (g : a.Good) {e s : Int} (h0 : 0 ≤ e) (h1 : e < a.E.len) (h2 : 0 ≤ s) (h3 : s < a.size) : 0 ≤ a.E.get e s ∧ a.E.get e s < a.size := by
  have hr : e.toNat < a.E.len := by omega
  have := g.ew _ hr
  exact g.ez _ hr _ (by omega)

/-- Does a law hold for what it names? -/
def Alg.holds (a : Alg) (x : Brk) : Bool :=
  if x.law = 1 then a.B.get x.a x.b == a.B.get x.b x.a
  else if x.law = 2 then a.B.get x.a (a.B.get x.b x.c) == a.B.get (a.B.get x.a x.b) x.c
  else if x.law = 3 then a.B.get x.a x.b == x.a || a.B.get x.a x.b == x.b
  else if x.law = 4 then a.B.get 0 x.a == 0
  else if x.law = 5 then a.B.get (a.size - 1) x.a == x.a
  else if x.law = 6 then a.E.get x.e (a.size - 1) == a.size - 1
  else if x.law = 7 then a.B.get x.a (a.E.get x.e x.a) == x.a
  else if x.law = 8 then x.a == a.size - 1 || (a.B.get x.a (a.E.get x.e x.a) == x.a && a.E.get x.e x.a != x.a)
  else a.E.get x.e (a.B.get x.a x.b) == a.B.get (a.E.get x.e x.a) (a.E.get x.e x.b)

/-- How many routes a law names. -/
def routesOf (l : Int) : Int := if l = 1 ∨ l = 3 ∨ l = 9 then 2 else if l = 2 then 3 else if l = 6 then 0 else 1
/-- Does it name an edge? -/
def edgeOf (l : Int) : Bool := decide (6 ≤ l)

/-- How many numbers may stand in each place. -/
def spanA (a : Alg) (l : Int) : Int := if 0 < routesOf l then a.size else 1
def spanB (a : Alg) (l : Int) : Int := if 1 < routesOf l then a.size else 1
def spanC (a : Alg) (l : Int) : Int := if 2 < routesOf l then a.size else 1
def spanE (a : Alg) (l : Int) : Int := if edgeOf l then a.E.len else 1

/-- What is told lies in the law's span. -/
structure Alg.Fits (a : Alg) (x : Brk) : Prop where
  l0 : 1 ≤ x.law
  l1 : x.law ≤ 9
  a0 : 0 ≤ x.a
  a1 : x.a < spanA a x.law
  b0 : 0 ≤ x.b
  b1 : x.b < spanB a x.law
  c0 : 0 ≤ x.c
  c1 : x.c < spanC a x.law
  e0 : 0 ≤ x.e
  e1 : x.e < spanE a x.law

theorem Alg.Fits.a_lt {a : Alg} {x : Brk} (h : a.Fits x) (g : a.Good) : x.a < a.size := by
  have h1 := h.a1; have h2 := g.lo; unfold spanA at h1; split at h1 <;> omega
theorem Alg.Fits.b_lt {a : Alg} {x : Brk} (h : a.Fits x) (g : a.Good) : x.b < a.size := by
  have h1 := h.b1; have h2 := g.lo; unfold spanB at h1; split at h1 <;> omega
theorem Alg.Fits.c_lt {a : Alg} {x : Brk} (h : a.Fits x) (g : a.Good) : x.c < a.size := by
  have h1 := h.c1; have h2 := g.lo; unfold spanC at h1; split at h1 <;> omega
theorem Alg.Fits.e_lt {a : Alg} {x : Brk} (h : a.Fits x) (h6 : 6 ≤ x.law) : x.e < a.E.len := by
  have := h.e1; unfold spanE edgeOf at this; simpa [h6] using this

end Go.Proofs.Ytjhkadffaephmaa
