/-
  Our own texts, bundled: a claim holds few files.
-/
import Derived.Test.YtjhkadffaephmabGreatRows
import Derived.WalkKit
import Derived.WalkSpells
import Derived.WalkLawsBesides
import Derived.Deep.QuietTactic
import Derived.BigQuiet
import Derived.Maps.OwnSet
import Derived.RangeFuncNested
import Derived.RangeFuncBound
import Derived.RangeFuncCalls
import Derived.RangeFuncLeaves
import Derived.Shelf.Abstract
import Derived.Shelf.RegionOpen
import Derived.OwnWalkIn
import Derived.TacticsInMore
import Derived.LoopNIn
import Derived.LoopIn
/-
  Plain mathematics on tables of routes: nothing of the program, nothing of memory.
-/
namespace Go.Proofs.YtjhkadffaephmabGreat

/-- A table of numbers by its indices: so many rows, each of its own length. -/
structure Tab where
  len : Nat
  L : Nat → Nat
  Z : Nat → Nat → Int

/-- An algebra by its numbers. -/
structure Alg where
  size : Int
  B : Tab
  E : Tab

/-- What is told to be broken. -/
structure Brk where
  law : Int
  a : Int
  b : Int
  c : Int
  e : Int

/-- Are two the same? -/
def Brk.same (x y : Brk) : Bool := x.law == y.law && x.a == y.a && x.b == y.b && x.c == y.c && x.e == y.e

theorem Brk.same_iff {x y : Brk} : x.same y = true ↔ x = y := by
  obtain ⟨x1, x2, x3, x4, x5⟩ := x
  obtain ⟨y1, y2, y3, y4, y5⟩ := y
  simp [Brk.same, and_assoc]

def Tab.wide (t : Tab) (s : Int) : Bool := (List.range t.len).all fun r => (t.L r : Int) == s
def Tab.rowOk (t : Tab) (s : Int) (r : Nat) : Bool := (List.range (t.L r)).all fun c => decide (0 ≤ t.Z r c) && decide (t.Z r c < s)
def Tab.routes (t : Tab) (s : Int) : Bool := (List.range t.len).all fun r => t.rowOk s r

def Alg.formOk (a : Alg) : Bool := ((a.B.len : Int) == a.size) && a.B.wide a.size && a.E.wide a.size
def Alg.routesOk (a : Alg) : Bool := a.B.routes a.size && a.E.routes a.size
def Alg.check (a : Alg) : Int :=
  if a.size < 2 ∨ 24 < a.size then 3 else if 8 < a.E.len then 2 else if a.formOk = false then 1 else if a.routesOk = false then 5 else 0

theorem Tab.wide_iff (t : Tab) (s : Int) : t.wide s = true ↔ ∀ r, r < t.len → (t.L r : Int) = s := by
  simp [Tab.wide]

theorem Tab.wide_false {t : Tab} {s : Int} {r : Nat} (h : r < t.len) (hn : (t.L r : Int) ≠ s) : t.wide s = false := by
  rw [Bool.eq_false_iff]; intro hw; exact hn ((t.wide_iff s).1 hw r h)

theorem Tab.rowOk_iff (t : Tab) (s : Int) (r : Nat) : t.rowOk s r = true ↔ ∀ c, c < t.L r → 0 ≤ t.Z r c ∧ t.Z r c < s := by
  simp [Tab.rowOk]

theorem Tab.routes_iff (t : Tab) (s : Int) : t.routes s = true ↔ ∀ r, r < t.len → ∀ c, c < t.L r → 0 ≤ t.Z r c ∧ t.Z r c < s := by
  simp only [Tab.routes, List.all_eq_true, List.mem_range, Tab.rowOk_iff]

theorem Tab.routes_false {t : Tab} {s : Int} {r c : Nat} (h : r < t.len) (hc : c < t.L r) (hn : t.Z r c < 0 ∨ s ≤ t.Z r c) : t.routes s = false := by
  rw [Bool.eq_false_iff]; intro hw; have := (t.routes_iff s).1 hw r h c hc; omega

end Go.Proofs.YtjhkadffaephmabGreat

/-
  Plain mathematics: algebras that pass Check; what holds of them; the cases of a law, in order.
-/
namespace Go.Proofs.YtjhkadffaephmabGreat

/-- What stands in a table. -/
def Tab.get (t : Tab) (r s : Int) : Int := t.Z r.toNat s.toNat

/-- An algebra that passes Check. -/
structure Alg.Good (a : Alg) : Prop where
  lo : 2 ≤ a.size
  hi : a.size ≤ 24
  el : a.E.len ≤ 8
  bl : (a.B.len : Int) = a.size
  bw : ∀ r, r < a.B.len → (a.B.L r : Int) = a.size
  ew : ∀ r, r < a.E.len → (a.E.L r : Int) = a.size
  bz : ∀ r, r < a.B.len → ∀ c, c < a.B.L r → 0 ≤ a.B.Z r c ∧ a.B.Z r c < a.size
  ez : ∀ r, r < a.E.len → ∀ c, c < a.E.L r → 0 ≤ a.E.Z r c ∧ a.E.Z r c < a.size

theorem Alg.good_of_check {a : Alg} (h : a.check = 0) : a.Good := by
  unfold Alg.check at h
  split at h
  · cases h
  split at h
  · cases h
  split at h
  · cases h
  split at h
  · cases h
  next h1 h2 h3 h4 =>
    have h3' : a.formOk = true := by cases e : a.formOk <;> simp_all
    have h4' : a.routesOk = true := by cases e : a.routesOk <;> simp_all
    simp only [Alg.formOk, Bool.and_eq_true, beq_iff_eq, Tab.wide_iff] at h3'
    simp only [Alg.routesOk, Bool.and_eq_true, Tab.routes_iff] at h4'
    exact ⟨by omega, by omega, by omega, h3'.1.1, h3'.1.2, h3'.2, h4'.1, h4'.2⟩

theorem Alg.Good.check {a : Alg} (g : a.Good) : a.check = 0 := by
  have h1 : a.formOk = true := by
    simp only [Alg.formOk, Bool.and_eq_true, beq_iff_eq, Tab.wide_iff]; exact ⟨⟨g.bl, g.bw⟩, g.ew⟩
  have h2 : a.routesOk = true := by
    simp only [Alg.routesOk, Bool.and_eq_true, Tab.routes_iff]; exact ⟨g.bz, g.ez⟩
  have := g.lo; have := g.hi; have := g.el
  unfold Alg.check
  rw [if_neg (by omega), if_neg (by omega), h1, h2]; rfl

theorem Alg.Good.best {a : Alg} (g : a.Good) {r s : Int} (h0 : 0 ≤ r) (h1 : r < a.size) (h2 : 0 ≤ s) (h3 : s < a.size) : 0 ≤ a.B.get r s ∧ a.B.get r s < a.size := by
  have := g.bl
  have hr : r.toNat < a.B.len := by omega
  have := g.bw _ hr
  exact g.bz _ hr _ (by omega)

theorem Alg.Good.edge {a : Alg} (g : a.Good) {e s : Int} (h0 : 0 ≤ e) (h1 : e < a.E.len) (h2 : 0 ≤ s) (h3 : s < a.size) : 0 ≤ a.E.get e s ∧ a.E.get e s < a.size := by
  have hr : e.toNat < a.E.len := by omega
  have := g.ew _ hr
  exact g.ez _ hr _ (by omega)

/-- Does a law hold for what it names? -/
def Alg.holds (a : Alg) (x : Brk) : Bool :=
  if x.law = 1 then a.B.get x.a x.b == a.B.get x.b x.a
  else if x.law = 2 then a.B.get x.a (a.B.get x.b x.c) == a.B.get (a.B.get x.a x.b) x.c
  else if x.law = 3 then a.B.get x.a x.b == x.a || a.B.get x.a x.b == x.b
  else if x.law = 4 then a.B.get 0 x.a == 0
  else if x.law = 5 then a.B.get (a.size - 1) x.a == x.a
  else if x.law = 6 then a.E.get x.e (a.size - 1) == a.size - 1
  else if x.law = 7 then a.B.get x.a (a.E.get x.e x.a) == x.a
  else if x.law = 8 then x.a == a.size - 1 || (a.B.get x.a (a.E.get x.e x.a) == x.a && a.E.get x.e x.a != x.a)
  else a.E.get x.e (a.B.get x.a x.b) == a.B.get (a.E.get x.e x.a) (a.E.get x.e x.b)

/-- How many routes a law names. -/
def routesOf (l : Int) : Int := if l = 1 ∨ l = 3 ∨ l = 9 then 2 else if l = 2 then 3 else if l = 6 then 0 else 1
/-- Does it name an edge? -/
def edgeOf (l : Int) : Bool := decide (6 ≤ l)

/-- How many numbers may stand in each place. -/
def spanA (a : Alg) (l : Int) : Int := if 0 < routesOf l then a.size else 1
def spanB (a : Alg) (l : Int) : Int := if 1 < routesOf l then a.size else 1
def spanC (a : Alg) (l : Int) : Int := if 2 < routesOf l then a.size else 1
def spanE (a : Alg) (l : Int) : Int := if edgeOf l then a.E.len else 1

/-- What is told lies in the law's span. -/
structure Alg.Fits (a : Alg) (x : Brk) : Prop where
  l0 : 1 ≤ x.law
  l1 : x.law ≤ 9
  a0 : 0 ≤ x.a
  a1 : x.a < spanA a x.law
  b0 : 0 ≤ x.b
  b1 : x.b < spanB a x.law
  c0 : 0 ≤ x.c
  c1 : x.c < spanC a x.law
  e0 : 0 ≤ x.e
  e1 : x.e < spanE a x.law

theorem Alg.Fits.a_lt {a : Alg} {x : Brk} (h : a.Fits x) (g : a.Good) : x.a < a.size := by
  have h1 := h.a1; have h2 := g.lo; unfold spanA at h1; split at h1 <;> omega
theorem Alg.Fits.b_lt {a : Alg} {x : Brk} (h : a.Fits x) (g : a.Good) : x.b < a.size := by
  have h1 := h.b1; have h2 := g.lo; unfold spanB at h1; split at h1 <;> omega
theorem Alg.Fits.c_lt {a : Alg} {x : Brk} (h : a.Fits x) (g : a.Good) : x.c < a.size := by
  have h1 := h.c1; have h2 := g.lo; unfold spanC at h1; split at h1 <;> omega
theorem Alg.Fits.e_lt {a : Alg} {x : Brk} (h : a.Fits x) (h6 : 6 ≤ x.law) : x.e < a.E.len := by
  have := h.e1; unfold spanE edgeOf at this; simpa [h6] using this

end Go.Proofs.YtjhkadffaephmabGreat

/-
  Plain mathematics: the cases of a law, in the order in which they are told.
-/
namespace Go.Proofs.YtjhkadffaephmabGreat

def casesE (l : Int) (x y z e : Nat) : List Brk := (List.range e).map fun (k : Nat) => ⟨l, x, y, z, k⟩
def casesC (l : Int) (se : Nat) (x y z : Nat) : List Brk := (List.range z).flatMap fun k => casesE l x y k se
def casesB (l : Int) (sc se : Nat) (x y : Nat) : List Brk := (List.range y).flatMap fun k => casesC l se x k sc
def casesA (l : Int) (sb sc se : Nat) (x : Nat) : List Brk := (List.range x).flatMap fun k => casesB l sc se k sb

theorem casesE_succ (l : Int) (x y z e : Nat) : casesE l x y z (e + 1) = casesE l x y z e ++ [⟨l, x, y, z, e⟩] := by
  simp [casesE, List.range_succ]
theorem casesC_succ (l : Int) (se x y z : Nat) : casesC l se x y (z + 1) = casesC l se x y z ++ casesE l x y z se := by
  simp [casesC, List.range_succ, List.flatMap_append]
theorem casesB_succ (l : Int) (sc se x y : Nat) : casesB l sc se x (y + 1) = casesB l sc se x y ++ casesC l se x y sc := by
  simp [casesB, List.range_succ, List.flatMap_append]
theorem casesA_succ (l : Int) (sb sc se x : Nat) : casesA l sb sc se (x + 1) = casesA l sb sc se x ++ casesB l sc se x sb := by
  simp [casesA, List.range_succ, List.flatMap_append]

theorem pre_mono {f : Nat → List Brk} (h : ∀ k, f k <+: f (k + 1)) : ∀ {a b : Nat}, a ≤ b → f a <+: f b := by
  intro a b hab
  induction b with
  | zero => obtain rfl : a = 0 := by omega
            exact List.prefix_refl _
  | succ b ih =>
    by_cases e : a = b + 1
    · subst e; exact List.prefix_refl _
    · exact (ih (by omega)).trans (h b)

theorem casesE_pre (l : Int) (x y z : Nat) {a b : Nat} (h : a ≤ b) : casesE l x y z a <+: casesE l x y z b :=
  pre_mono (fun k => by rw [casesE_succ]; exact List.prefix_append _ _) h
theorem casesC_pre (l : Int) (se x y : Nat) {a b : Nat} (h : a ≤ b) : casesC l se x y a <+: casesC l se x y b :=
  pre_mono (fun k => by rw [casesC_succ]; exact List.prefix_append _ _) h
theorem casesB_pre (l : Int) (sc se x : Nat) {a b : Nat} (h : a ≤ b) : casesB l sc se x a <+: casesB l sc se x b :=
  pre_mono (fun k => by rw [casesB_succ]; exact List.prefix_append _ _) h
theorem casesA_pre (l : Int) (sb sc se : Nat) {a b : Nat} (h : a ≤ b) : casesA l sb sc se a <+: casesA l sb sc se b :=
  pre_mono (fun k => by rw [casesA_succ]; exact List.prefix_append _ _) h

/-- What has come when so many rounds of each loop are over. -/
def casesTo (l : Int) (sb sc se x y z e : Nat) : List Brk := casesA l sb sc se x ++ (casesB l sc se x y ++ (casesC l se x y z ++ casesE l x y z e))

theorem casesTo_snoc (l : Int) (sb sc se x y z e : Nat) : casesTo l sb sc se x y z (e + 1) = casesTo l sb sc se x y z e ++ [⟨l, x, y, z, e⟩] := by
  simp [casesTo, casesE_succ]

theorem casesTo_e (l : Int) (sb sc se x y z : Nat) : casesTo l sb sc se x y z se = casesTo l sb sc se x y (z + 1) 0 := by
  simp [casesTo, casesC_succ, casesE]
theorem casesTo_c (l : Int) (sb sc se x y : Nat) : casesTo l sb sc se x y sc 0 = casesTo l sb sc se x (y + 1) 0 0 := by
  simp [casesTo, casesB_succ, casesE, casesC]
theorem casesTo_b (l : Int) (sb sc se x : Nat) : casesTo l sb sc se x sb 0 0 = casesTo l sb sc se (x + 1) 0 0 0 := by
  simp [casesTo, casesA_succ, casesE, casesC, casesB]
theorem casesTo_0 (l : Int) (sb sc se : Nat) : casesTo l sb sc se 0 0 0 0 = [] := by
  simp [casesTo, casesA, casesE, casesC, casesB]
theorem casesTo_a (l : Int) (sb sc se x : Nat) : casesTo l sb sc se x 0 0 0 = casesA l sb sc se x := by
  simp [casesTo, casesE, casesC, casesB]

theorem casesTo_pre (l : Int) {sa sb sc se x y z e : Nat} (hx : x < sa) (hy : y < sb) (hz : z < sc) (he : e ≤ se) : casesTo l sb sc se x y z e <+: casesA l sb sc se sa := by
  refine List.IsPrefix.trans ?_ (casesA_pre l sb sc se (show x + 1 ≤ sa from hx))
  rw [casesA_succ]
  unfold casesTo
  refine (List.prefix_append_right_inj _).2 ?_
  refine List.IsPrefix.trans ?_ (casesB_pre l sc se x (show y + 1 ≤ sb from hy))
  rw [casesB_succ]
  refine (List.prefix_append_right_inj _).2 ?_
  refine List.IsPrefix.trans ?_ (casesC_pre l se x y (show z + 1 ≤ sc from hz))
  rw [casesC_succ]
  exact (List.prefix_append_right_inj _).2 (casesE_pre l x y z he)

theorem casesTo_mem (l : Int) {sa sb sc se x y z e : Nat} (hx : x < sa) (hy : y < sb) (hz : z < sc) (he : e < se) : (⟨l, x, y, z, e⟩ : Brk) ∈ casesA l sb sc se sa := by
  have h := casesTo_pre l hx hy hz (show e + 1 ≤ se from he)
  rw [casesTo_snoc] at h
  exact h.subset (by simp)

theorem casesTo_len (l : Int) {sa sb sc se x y z e : Nat} (hx : x < sa) (hy : y < sb) (hz : z < sc) (he : e < se) : (casesTo l sb sc se x y z e).length < (casesA l sb sc se sa).length := by
  have h := (casesTo_pre l hx hy hz (show e + 1 ≤ se from he)).length_le
  rw [casesTo_snoc] at h
  simp at h
  omega

theorem mem_casesA {l : Int} {sa sb sc se : Nat} {b : Brk} (h : b ∈ casesA l sb sc se sa) : b.law = l ∧ (0 ≤ b.a ∧ b.a < sa) ∧ (0 ≤ b.b ∧ b.b < sb) ∧ (0 ≤ b.c ∧ b.c < sc) ∧ (0 ≤ b.e ∧ b.e < se) := by
  simp only [casesA, casesB, casesC, casesE, List.mem_flatMap, List.mem_map, List.mem_range] at h
  obtain ⟨x, hx, y, hy, z, hz, e, he, rfl⟩ := h
  exact ⟨rfl, by simp only; omega, by simp only; omega, by simp only; omega, by simp only; omega⟩

end Go.Proofs.YtjhkadffaephmabGreat

/-
  How tables of routes lie in memory, and the small functions that only reckon or only read.
-/
namespace Go.Proofs.YtjhkadffaephmabGreat
open Go.RowKit

theorem hide {p : Prop} (h : p) : Hid p := h

/-- A table in memory: the slice of slices, and where each row's numbers lie. -/
structure Mat where
  ga : Option Addr
  gb : Nat
  go : Nat
  cap : Nat
  A : Nat → Option Addr
  C : Nat → Nat
  RB : Nat → Nat
  RO : Nat → Nat
  t : Tab

def Mat.val (m : Mat) : Value := .slice m.ga m.t.len m.cap

/-- It lies in the blocks below n of the world. -/
structure Mat.In (m : Mat) (n : Nat) (w : World) : Prop where
  ga : 0 < m.t.len → m.ga = some ⟨m.gb, m.go, none⟩
  gb : 0 < m.t.len → m.gb < n
  row : ∀ r, r < m.t.len → w.cell? ⟨m.gb, m.go + r, none⟩ = some (.slice (m.A r) (m.t.L r) (m.C r))
  addr : ∀ r, r < m.t.len → 0 < m.t.L r → m.A r = some ⟨m.RB r, m.RO r, none⟩ ∧ m.RB r < n
  cell : ∀ r, r < m.t.len → ∀ c, c < m.t.L r → w.cell? ⟨m.RB r, m.RO r + c, none⟩ = some (.int .i64 (m.t.Z r c))
  len : m.t.len ≤ maxLen
  lens : ∀ r, r < m.t.len → m.t.L r ≤ maxLen

theorem Mat.In.below {m : Mat} {n k : Nat} {w w' : World} (h : m.In n w) (hb : Below k w w') (hk : n ≤ k) : m.In n w' where
  ga := h.ga
  gb := h.gb
  row := fun r hr => by rw [hb.cell (p := ⟨m.gb, m.go + r, none⟩) (Nat.lt_of_lt_of_le (h.gb (by omega)) hk)]; exact h.row r hr
  addr := h.addr
  cell := fun r hr c hc => by rw [hb.cell (p := ⟨m.RB r, m.RO r + c, none⟩) (Nat.lt_of_lt_of_le (h.addr r hr (by omega)).2 hk)]; exact h.cell r hr c hc
  len := h.len
  lens := h.lens

theorem Mat.In.mono {m : Mat} {n k : Nat} {w : World} (h : m.In n w) (hk : n ≤ k) : m.In k w where
  ga := h.ga
  gb := fun h0 => Nat.lt_of_lt_of_le (h.gb h0) hk
  row := h.row
  addr := fun r hr h0 => ⟨(h.addr r hr h0).1, Nat.lt_of_lt_of_le (h.addr r hr h0).2 hk⟩
  cell := h.cell
  len := h.len
  lens := h.lens

set_option maxHeartbeats 400000 in
theorem between_any (n l m : Int) (w : World) :
    Calls Tryz.prog 24 #[.int .i64 n, .int .i64 l, .int .i64 m] w fun e w' => e = .returned (.bool (decide (l ≤ n) && decide (n ≤ m))) ∧ w' = w := by
  by_cases h : l ≤ n
  · go_enter Tryz.func24, Tryz.ntmps24
    go_wp2
    go_ret
    exact ⟨by simp [h], rfl⟩
  · go_enter Tryz.func24, Tryz.ntmps24
    go_wp2
    go_ret
    exact ⟨by simp; omega, rfl⟩

set_option maxHeartbeats 1000000 in
theorem allWide_any (m : Mat) (s : Int) (n : Nat) (w : World) (h : m.In n w) :
    Calls Tryz.prog 101 #[m.val, .int .i64 s] w fun e w' => e = .returned (.bool (m.t.wide s)) ∧ w' = w := by
  have hlen := h.len
  unfold maxLen at hlen
  unfold Mat.val
  go_enter Tryz.func101, Tryz.ntmps101
  go_wp2
  go_loop [6, 9] (fun _ i => ∃ k : Nat, k ≤ m.t.len ∧ i = .int .i64 k ∧ ∀ r, r < k → (m.t.L r : Int) = s) (fun _ i => m.t.len - (intOf i).toNat)
  case atStart => exact ⟨0, Nat.zero_le _, rfl, fun r hr => absurd hr (Nat.not_lt_zero _)⟩
  case round =>
    obtain ⟨k, hk, rfl, hall⟩ := hrel
    by_cases hlt : k < m.t.len
    · have hga := h.ga (by omega)
      have hrow := h.row k hlt
      have hlens := h.lens k hlt
      unfold maxLen at hlens
      by_cases he : (m.t.L k : Int) = s
      · have he' : ((m.t.L k : Int) != s) = false := by simp [he]
        have Hall := hide hall
        have He := hide he
        clear hall he
        go_wp2
        go_round
        case rel => exact ⟨k + 1, by omega, by go_num, fun r hr => by
          by_cases e : r = k
          · subst e; exact He.out
          · exact Hall.out r (by omega)⟩
        case measure => simp [intOf]; omega
      · have he' : ((m.t.L k : Int) != s) = true := by simp [he]
        have hw := Tab.wide_false hlt he
        have Hw := hide hw
        clear hall he hw
        go_wp2
        go_ret
        exact ⟨by rw [Hw.out]; rfl, rfl⟩
    · have hw : m.t.wide s = true := (m.t.wide_iff s).2 (fun r hr => hall r (by omega))
      have Hw := hide hw
      clear hall hw
      go_wp2
      go_ret
      exact ⟨by rw [Hw.out]; rfl, rfl⟩

set_option maxHeartbeats 1000000 in
theorem allRoutes_any (m : Mat) (s : Int) (n : Nat) (w : World) (h : m.In n w) :
    Calls Tryz.prog 102 #[m.val, .int .i64 s] w fun e w' => e = .returned (.bool (m.t.routes s)) ∧ w' = w := by
  have hlen := h.len
  unfold maxLen at hlen
  unfold Mat.val
  go_enter Tryz.func102, Tryz.ntmps102
  go_wp2
  go_loop [6, 8, 11] (fun _ _ i => ∃ k : Nat, k ≤ m.t.len ∧ i = .int .i64 k ∧ Hid (∀ r, r < k → ∀ c, c < m.t.L r → 0 ≤ m.t.Z r c ∧ m.t.Z r c < s)) (fun _ _ i => m.t.len - (intOf i).toNat)
  case atStart => exact ⟨0, Nat.zero_le _, rfl, hide fun r hr => absurd hr (Nat.not_lt_zero _)⟩
  case round =>
    obtain ⟨k, hk, rfl, Hall⟩ := hrel
    by_cases hlt : k < m.t.len
    · have hga := h.ga (by omega)
      have hrow := h.row k hlt
      have hlens := h.lens k hlt
      unfold maxLen at hlens
      go_wp2
      go_loop [8, 17] (fun _ j => ∃ c : Nat, c ≤ m.t.L k ∧ j = .int .i64 c ∧ Hid (∀ c', c' < c → 0 ≤ m.t.Z k c' ∧ m.t.Z k c' < s)) (fun _ j => m.t.L k - (intOf j).toNat)
      case atStart => exact ⟨0, Nat.zero_le _, rfl, hide fun r hr => absurd hr (Nat.not_lt_zero _)⟩
      case round =>
        obtain ⟨c, hc, rfl, Hrow⟩ := hrel
        by_cases hcl : c < m.t.L k
        · have hA := (h.addr k hlt (by omega)).1
          have hcell := h.cell k hlt c hcl
          by_cases hneg : m.t.Z k c < 0
          · have hw := hide (Tab.routes_false (s := s) hlt hcl (Or.inl hneg))
            go_wp2
            go_ret
            exact ⟨by rw [hw.out]; rfl, rfl⟩
          · by_cases hbig : s ≤ m.t.Z k c
            · have hw := hide (Tab.routes_false (s := s) hlt hcl (Or.inr hbig))
              go_wp2
              go_ret
              exact ⟨by rw [hw.out]; rfl, rfl⟩
            · have h1 : 0 ≤ m.t.Z k c := by omega
              have h2 : m.t.Z k c < s := by omega
              go_wp2
              go_round
              case rel => exact ⟨c + 1, by omega, by go_num, hide fun c' hc' => by
                by_cases e : c' = c
                · subst e; exact ⟨h1, h2⟩
                · exact Hrow.out c' (by omega)⟩
              case measure => simp [intOf]; omega
        · go_wp2
          go_round
          case rel =>
            have hfin : ∀ r, r < k + 1 → ∀ c, c < m.t.L r → 0 ≤ m.t.Z r c ∧ m.t.Z r c < s := fun r hr => by
              by_cases e : r = k
              · subst e; exact fun c' hc' => Hrow.out c' (by omega)
              · exact Hall.out r (by omega)
            exact ⟨_, _, _, _, ⟨k + 1, by omega, by go_num, hide hfin⟩, rfl, rfl, rfl, rfl⟩
          case measure => simp [intOf]; omega
    · have hw : Hid (m.t.routes s = true) := hide ((m.t.routes_iff s).2 (fun r hr => Hall.out r (by omega)))
      go_wp2
      go_ret
      exact ⟨by rw [hw.out]; rfl, rfl⟩

end Go.Proofs.YtjhkadffaephmabGreat

/-
  algebra.Check: what it answers, at every algebra.
-/
namespace Go.Proofs.YtjhkadffaephmabGreat
open Go.RowKit

/-- An algebra in memory. -/
structure AlgM where
  size : Int
  B : Mat
  E : Mat

def AlgM.val (a : AlgM) : Value := .agg #[.int .i64 a.size, a.B.val, a.E.val]
def AlgM.alg (a : AlgM) : Alg := ⟨a.size, a.B.t, a.E.t⟩

structure AlgM.In (a : AlgM) (n : Nat) (w : World) : Prop where
  B : a.B.In n w
  E : a.E.In n w

theorem AlgM.In.below {a : AlgM} {n k : Nat} {w w' : World} (h : a.In n w) (hb : Below k w w') (hk : n ≤ k) : a.In n w' := ⟨h.B.below hb hk, h.E.below hb hk⟩
theorem AlgM.In.mono {a : AlgM} {n k : Nat} {w : World} (h : a.In n w) (hk : n ≤ k) : a.In k w := ⟨h.B.mono hk, h.E.mono hk⟩

set_option maxHeartbeats 1000000 in
theorem check_any (a : AlgM) (n : Nat) (w : World) (h : a.In n w) (hn : n ≤ w.heap.size) :
    Calls Tryz.prog 94 #[a.val] w fun e w' => e = .returned (.int .i64 a.alg.check) ∧ Below w.heap.size w w' := by
  have hb0 : ∀ o, Below w.heap.size w (w.alloc o) := fun o => (Below.refl _ _).alloc (Nat.le_refl _) _
  have hB : ∀ o, a.B.In n (w.alloc o) := fun o => h.B.below (hb0 o) hn
  have hE : ∀ o, a.E.In n (w.alloc o) := fun o => h.E.below (hb0 o) hn
  have hEl := h.E.len
  have hBl := h.B.len
  unfold maxLen at hEl hBl
  obtain ⟨size, B, E⟩ := a
  simp only [AlgM.val, AlgM.alg] at *
  by_cases h1 : size < 2
  · have hfin := hide (show Alg.check ⟨size, B.t, E.t⟩ = 3 by simp [Alg.check, h1])
    simp only [Mat.val]
    go_enter Tryz.func94, Tryz.ntmps94
    go_wp2
    go_ret
    exact ⟨by rw [hfin.out]; rfl, hb0 _⟩
  by_cases h2 : 24 < size
  · have hfin := hide (show Alg.check ⟨size, B.t, E.t⟩ = 3 by simp [Alg.check, h2])
    simp only [Mat.val]
    go_enter Tryz.func94, Tryz.ntmps94
    go_wp2
    go_ret
    exact ⟨by rw [hfin.out]; rfl, hb0 _⟩
  by_cases h3 : 8 < E.t.len
  · have hfin := hide (show Alg.check ⟨size, B.t, E.t⟩ = 2 by simp [Alg.check, h1, h2, h3])
    have h3' : (8 : Int) < (E.t.len : Int) := by omega
    simp only [Mat.val]
    go_enter Tryz.func94, Tryz.ntmps94
    go_wp2
    go_ret
    exact ⟨by rw [hfin.out]; rfl, hb0 _⟩
  have h3' : (E.t.len : Int) ≤ 8 := by omega
  have hck : Alg.check ⟨size, B.t, E.t⟩ = if (((B.t.len : Int) == size) && B.t.wide size && E.t.wide size) = false then 1 else if (B.t.routes size && E.t.routes size) = false then 5 else 0 := by
    simp [Alg.check, Alg.formOk, Alg.routesOk, h1, h2, h3]
  have Hck := hide hck
  clear hck
  by_cases h4 : (B.t.len : Int) = size
  · have h4' : ((B.t.len : Int) != size) = false := by simp [h4]
    have H4 := hide h4
    clear h4
    simp only [Mat.val]
    go_enter Tryz.func94, Tryz.ntmps94
    go_wp2_with fail
    go_at_call 101
    refine (allWide_any B size n _ (hB _)).mono ?_
    rintro e w' ⟨rfl, rfl⟩
    cases hw1 : B.t.wide size
    · have hfin := hide (show Alg.check ⟨size, B.t, E.t⟩ = 1 by rw [Hck.out]; simp [hw1])
      go_wp2
      go_ret
      exact ⟨by rw [hfin.out]; rfl, hb0 _⟩
    go_wp2_with fail
    go_at_call 101
    refine (allWide_any E size n _ (hE _)).mono ?_
    rintro e w' ⟨rfl, rfl⟩
    cases hw2 : E.t.wide size
    · have hfin := hide (show Alg.check ⟨size, B.t, E.t⟩ = 1 by rw [Hck.out]; simp [hw2])
      go_wp2
      go_ret
      exact ⟨by rw [hfin.out]; rfl, hb0 _⟩
    go_wp2_with fail
    go_at_call 102
    refine (allRoutes_any B size n _ (hB _)).mono ?_
    rintro e w' ⟨rfl, rfl⟩
    cases hw3 : B.t.routes size
    · have hfin := hide (show Alg.check ⟨size, B.t, E.t⟩ = 5 by rw [Hck.out]; simp [hw1, hw2, hw3, H4.out])
      go_wp2
      go_ret
      exact ⟨by rw [hfin.out]; rfl, hb0 _⟩
    go_wp2_with fail
    go_at_call 102
    refine (allRoutes_any E size n _ (hE _)).mono ?_
    rintro e w' ⟨rfl, rfl⟩
    cases hw4 : E.t.routes size
    · have hfin := hide (show Alg.check ⟨size, B.t, E.t⟩ = 5 by rw [Hck.out]; simp [hw1, hw2, hw4, H4.out])
      go_wp2
      go_ret
      exact ⟨by rw [hfin.out]; rfl, hb0 _⟩
    have hfin := hide (show Alg.check ⟨size, B.t, E.t⟩ = 0 by rw [Hck.out]; simp [hw1, hw2, hw3, hw4, H4.out])
    go_wp2
    go_ret
    exact ⟨by rw [hfin.out]; rfl, hb0 _⟩
  · have hfin := hide (show Alg.check ⟨size, B.t, E.t⟩ = 1 by rw [Hck.out]; simp [h4])
    have h4' : ((B.t.len : Int) != size) = true := by simp [h4]
    clear Hck
    simp only [Mat.val]
    go_enter Tryz.func94, Tryz.ntmps94
    go_wp2
    go_ret
    exact ⟨by rw [hfin.out]; rfl, hb0 _⟩

end Go.Proofs.YtjhkadffaephmabGreat

/-
  algebra.holds and its two function literals.
-/
namespace Go.Proofs.YtjhkadffaephmabGreat
open Go.RowKit

def Brk.val (x : Brk) : Value := .agg #[.int .i64 x.law, .int .i64 x.a, .int .i64 x.b, .int .i64 x.c, .int .i64 x.e]

set_option maxHeartbeats 400000 in
theorem best_any (a : AlgM) (g : a.alg.Good) (bA : Nat) (r s : Int) (n : Nat) (w : World) (h : a.In n w) (hc : w.cell? ⟨bA, 1, none⟩ = some a.B.val)
    (h0 : 0 ≤ r) (h1 : r < a.size) (h2 : 0 ≤ s) (h3 : s < a.size) :
    Calls Tryz.prog 108 #[.int .i64 r, .int .i64 s, .pointer (some ⟨bA, 0, none⟩)] w fun e w' => e = .returned (.int .i64 (a.alg.B.get r s)) ∧ w' = w := by
  obtain ⟨r, rfl⟩ := Int.eq_ofNat_of_zero_le h0
  obtain ⟨s, rfl⟩ := Int.eq_ofNat_of_zero_le h2
  have hbl : (a.B.t.len : Int) = a.size := g.bl
  have hlt : r < a.B.t.len := by omega
  have hL : (a.B.t.L r : Int) = a.size := g.bw r hlt
  have hga := h.B.ga (by omega)
  have hrow := h.B.row r hlt
  have hA := (h.B.addr r hlt (by omega)).1
  have hcell := h.B.cell r hlt s (by omega)
  have hr' : (r : Int) < (a.B.t.len : Int) := by omega
  have hs' : (s : Int) < (a.B.t.L r : Int) := by omega
  rw [hA] at hrow
  rw [Mat.val, hga] at hc
  have Hres := hide (show a.alg.B.get (r : Int) (s : Int) = a.B.t.Z r s from rfl)
  clear hbl hL hga hA g h
  go_enter Tryz.func108, Tryz.ntmps108
  go_wp2
  go_ret
  exact ⟨by rw [Hres.out]; rfl, rfl⟩

set_option maxHeartbeats 400000 in
theorem edge_any (a : AlgM) (g : a.alg.Good) (bA bX : Nat) (x s : Int) (n : Nat) (w : World) (h : a.In n w) (hc : w.cell? ⟨bA, 2, none⟩ = some a.E.val) (hx : w.cell? ⟨bX, 4, none⟩ = some (.int .i64 x))
    (h0 : 0 ≤ x) (h1 : x < a.E.t.len) (h2 : 0 ≤ s) (h3 : s < a.size) :
    Calls Tryz.prog 109 #[.int .i64 s, .pointer (some ⟨bA, 0, none⟩), .pointer (some ⟨bX, 0, none⟩)] w fun e w' => e = .returned (.int .i64 (a.alg.E.get x s)) ∧ w' = w := by
  obtain ⟨r, rfl⟩ := Int.eq_ofNat_of_zero_le h0
  obtain ⟨s, rfl⟩ := Int.eq_ofNat_of_zero_le h2
  have hlt : r < a.E.t.len := by omega
  have hL : (a.E.t.L r : Int) = a.size := g.ew r hlt
  have hga := h.E.ga (by omega)
  have hrow := h.E.row r hlt
  have hA := (h.E.addr r hlt (by omega)).1
  have hcell := h.E.cell r hlt s (by omega)
  have hs' : (s : Int) < (a.E.t.L r : Int) := by omega
  rw [hA] at hrow
  rw [Mat.val, hga] at hc
  have Hres := hide (show a.alg.E.get (r : Int) (s : Int) = a.E.t.Z r s from rfl)
  clear hL hga hA g h
  go_enter Tryz.func109, Tryz.ntmps109
  go_wp2
  go_ret
  exact ⟨by rw [Hres.out]; rfl, rfl⟩

theorem frame_below (w : World) (o1 o2 : Obj) (k : Nat) : Below w.heap.size w (((w.alloc o1).alloc o2).drewN k) :=
  below_drewN (((Below.refl _ _).alloc (Nat.le_refl _) _).alloc (by simp) _) k

theorem frame_in {a : AlgM} {n : Nat} {w : World} (h : a.In n w) (hn : n ≤ w.heap.size) (o1 o2 : Obj) (k : Nat) : a.In n (((w.alloc o1).alloc o2).drewN k) :=
  h.below (frame_below w o1 o2 k) hn

theorem frame_cell1 (w : World) (v0 v1 v2 : Value) (t : TypeId) (o2 : Obj) (k : Nat) :
    (((w.alloc (.cells #[v0, v1, v2] t)).alloc o2).drewN k).cell? ⟨w.heap.size, 1, none⟩ = some v1 := by
  go_simp
theorem frame_cell2 (w : World) (v0 v1 v2 : Value) (t : TypeId) (o2 : Obj) (k : Nat) :
    (((w.alloc (.cells #[v0, v1, v2] t)).alloc o2).drewN k).cell? ⟨w.heap.size, 2, none⟩ = some v2 := by
  go_simp
theorem frame_edge (w : World) (v0 v1 v2 v3 v4 : Value) (t : TypeId) (o1 : Obj) (k : Nat) :
    (((w.alloc o1).alloc (.cells #[v0, v1, v2, v3, v4] t)).drewN k).cell? ⟨w.heap.size + 1, 4, none⟩ = some v4 := by
  go_simp

set_option maxHeartbeats 1000000 in
theorem holds_1 (a : AlgM) (g : a.alg.Good) (x : Brk) (f : a.alg.Fits x) (n : Nat) (w : World) (h : a.In n w) (hn : n ≤ w.heap.size) (hl : x.law = 1) :
    Calls Tryz.prog 105 #[a.val, x.val] w fun e w' => e = .returned (.bool (a.alg.holds x)) ∧ Below w.heap.size w w' := by
  have s0 := g.lo
  have s1 := g.hi
  have a0 := f.a0
  have a1 := f.a_lt g
  have b0 := f.b0
  have b1 := f.b_lt g
  have Hfin := hide (show a.alg.holds x = (a.alg.B.get x.a x.b == a.alg.B.get x.b x.a) by simp [Alg.holds, hl])
  obtain ⟨l, xa, xb, xc, xe⟩ := x
  simp only at hl a0 a1 b0 b1 Hfin
  subst hl
  simp only [AlgM.val, Brk.val]
  go_enter Tryz.func105, Tryz.ntmps105
  go_wp2
  go_quiet ((go_at_call 108; exact Calls.quiet_of_same (best_any a g w.heap.size _ _ n _ (frame_in h hn _ _ _) (frame_cell1 _ _ _ _ _ _ _) (by first | omega | assumption) (by first | omega | assumption) (by first | omega | assumption) (by first | omega | assumption))))
  go_wp2
  go_ret
  exact ⟨by rw [Hfin.out]; rfl, frame_below w _ _ _⟩

end Go.Proofs.YtjhkadffaephmabGreat

/-
  algebra.namedByLaws: the map of what each law names; the look-ups in it.
-/
namespace Go.Proofs.YtjhkadffaephmabGreat
open Go.RowKit

/-- What an element of the map reads as. -/
def pairD (r e : Int) : DataW Unit := .agg [.lit (.int .i64 r), .lit (.int .i64 e)]

def pairElem : Value → Option (DataW Unit × List MemPlace)
  | .agg cs => match cs.toList with
    | [.int .i64 r, .int .i64 e] => some (pairD r e, [])
    | _ => none
  | _ => none

theorem pairElem_mk (r e : Int) : pairElem (.agg #[.int .i64 r, .int .i64 e]) = some (pairD r e, []) := rfl

theorem pairElem_inv {v : Value} {r e : Int} {ps : List MemPlace} (h : pairElem v = some (pairD r e, ps)) : v = .agg #[.int .i64 r, .int .i64 e] := by
  unfold pairElem at h
  split at h
  · next cs =>
    split at h
    · next r' e' hcs =>
      simp only [pairD, Option.some.injEq, Prod.mk.injEq, DataW.agg.injEq, List.cons.injEq, DataW.lit.injEq, Lit.int.injEq, true_and, and_true] at h
      obtain ⟨⟨rfl, rfl⟩, _⟩ := h
      rw [← Array.toArray_toList (xs := cs), hcs]
    · cases h
  · cases h

/-- The map as it reads. -/
def namesD : DataW Unit :=
  (((((((((DataW.map []).put (.int .i64 1) (pairD 2 0)).put (.int .i64 2) (pairD 3 0)).put (.int .i64 3) (pairD 2 0)).put (.int .i64 4) (pairD 1 0)).put (.int .i64 5) (pairD 1 0)).put (.int .i64 6) (pairD 0 1)).put (.int .i64 7) (pairD 1 1)).put (.int .i64 8) (pairD 1 1)).put (.int .i64 9) (pairD 2 1)

def edgesOf (l : Int) : Int := if 6 ≤ l then 1 else 0

theorem namesD_at (l : Int) (h0 : 1 ≤ l) (h1 : l ≤ 9) : namesD.atKey (.int .i64 l) (pairD 0 0) = pairD (routesOf l) (edgesOf l) := by
  have hc : l = 1 ∨ l = 2 ∨ l = 3 ∨ l = 4 ∨ l = 5 ∨ l = 6 ∨ l = 7 ∨ l = 8 ∨ l = 9 := by omega
  rcases hc with rfl | rfl | rfl | rfl | rfl | rfl | rfl | rfl | rfl <;> rfl

theorem law3 : Maps.Keyed Tryz.prog 3 := Maps.int_keyed Tryz.underlying3
theorem zeroE (w : World) : (zeroValue 140).run Tryz.prog w = .ok (.agg #[.int .i64 0, .int .i64 0]) w := by kernel_rfl

/-- The map that namedByLaws makes lies in block b. -/
def World.namesAt (w : World) (b : Nat) : Prop := w.ownsMap Tryz.prog 3 pairElem b 9 namesD

theorem wpList_insert_own {P : Program} (w : World) {ops : Array Oper} {rest : List Oper} {o : Oper} {a : Act} {Q : Exit → Act → World → Prop}
    (hg : o.guard = none) (m x v : Operand) (t : TypeId) (hop : o.op = Op.insert t m x v)
    (k e : TypeId) (K : Maps.Keyed P k) (ht : P.underlying t = some (.map k e)) (b n : Nat) (D : DataW Unit)
    (hm : a.eval m = .map (some b)) (hown : w.ownsMap P k pairElem b n D) (hn : n < maxLen) (key val : Value) (kl : Lit) (hx : a.eval x = key) (hv : a.eval v = val) (hkey : keyOf P k key = some kl)
    (d : DataW Unit) (hval : pairElem val = some (d, []))
    (hK : ∀ w', w'.ownsMap P k pairElem b (n + 1) (D.put kl d) → w.grownBy w' (some b) → wpList P ops Q rest (a.put o.dst undef) w') :
    wpList P ops Q (o :: rest) a w := by
  refine wpList_plain hg fun K' hK' => ?_
  obtain ⟨w', hrun, r1, r2⟩ := hown.update K ht hn hkey hval
  unfold Oper.wp
  simp [execOp, hop, hm, hx, hv, hrun, Result.andThen]
  exact hK' _ _ (hK w' r1 r2)

theorem keyInt {l : Int} (h : (Lit.int .i64 l).wf = true) : keyOf Tryz.prog 3 (.int .i64 l) = some (.int .i64 l) := Maps.keyOf_int_mk Tryz.underlying3 h

set_option maxRecDepth 100000 in
set_option maxHeartbeats 1000000 in
theorem names_any (w : World) :
    Calls Tryz.prog 95 #[] w fun e w' => e = .returned (.map (some w.heap.size)) ∧ World.namesAt w' w.heap.size ∧ Below w.heap.size w w' := by
  have hmm := @run_makeMap Tryz.prog
  have o0 := World.ownsMap_made w Tryz.prog 3 pairElem
  have hbig : 9 < maxLen := by unfold maxLen; omega
  have k1 := keyInt (l := 1) (by decide)
  have k2 := keyInt (l := 2) (by decide)
  have k3 := keyInt (l := 3) (by decide)
  have k4 := keyInt (l := 4) (by decide)
  have k5 := keyInt (l := 5) (by decide)
  have k6 := keyInt (l := 6) (by decide)
  have k7 := keyInt (l := 7) (by decide)
  have k8 := keyInt (l := 8) (by decide)
  have k9 := keyInt (l := 9) (by decide)
  go_enter Tryz.func95, Tryz.ntmps95
  go_wp2_with (first
    | (refine wpList_insert_own _ rfl _ _ _ 136 rfl 3 140 law3 Tryz.underlying136 w.heap.size 8 _ rfl o8 (by omega) _ _ _ rfl rfl k9 _ (pairElem_mk _ _) ?_; intro w9 o9 g9)
    | (refine wpList_insert_own _ rfl _ _ _ 136 rfl 3 140 law3 Tryz.underlying136 w.heap.size 7 _ rfl o7 (by omega) _ _ _ rfl rfl k8 _ (pairElem_mk _ _) ?_; intro w8 o8 g8)
    | (refine wpList_insert_own _ rfl _ _ _ 136 rfl 3 140 law3 Tryz.underlying136 w.heap.size 6 _ rfl o6 (by omega) _ _ _ rfl rfl k7 _ (pairElem_mk _ _) ?_; intro w7 o7 g7)
    | (refine wpList_insert_own _ rfl _ _ _ 136 rfl 3 140 law3 Tryz.underlying136 w.heap.size 5 _ rfl o5 (by omega) _ _ _ rfl rfl k6 _ (pairElem_mk _ _) ?_; intro w6 o6 g6)
    | (refine wpList_insert_own _ rfl _ _ _ 136 rfl 3 140 law3 Tryz.underlying136 w.heap.size 4 _ rfl o4 (by omega) _ _ _ rfl rfl k5 _ (pairElem_mk _ _) ?_; intro w5 o5 g5)
    | (refine wpList_insert_own _ rfl _ _ _ 136 rfl 3 140 law3 Tryz.underlying136 w.heap.size 3 _ rfl o3 (by omega) _ _ _ rfl rfl k4 _ (pairElem_mk _ _) ?_; intro w4 o4 g4)
    | (refine wpList_insert_own _ rfl _ _ _ 136 rfl 3 140 law3 Tryz.underlying136 w.heap.size 2 _ rfl o2 (by omega) _ _ _ rfl rfl k3 _ (pairElem_mk _ _) ?_; intro w3 o3 g3)
    | (refine wpList_insert_own _ rfl _ _ _ 136 rfl 3 140 law3 Tryz.underlying136 w.heap.size 1 _ rfl o1 (by omega) _ _ _ rfl rfl k2 _ (pairElem_mk _ _) ?_; intro w2 o2 g2)
    | (refine wpList_insert_own _ rfl _ _ _ 136 rfl 3 140 law3 Tryz.underlying136 w.heap.size 0 _ rfl o0 (by omega) _ _ _ rfl rfl k1 _ (pairElem_mk _ _) ?_; intro w1 o1 g1))
  go_ret
  have b0 : Below w.heap.size w (w.alloc (.map #[] 0)) := (Below.refl _ _).alloc (Nat.le_refl _) _
  have st : ∀ {W W' : World}, Below w.heap.size w W → W.grownBy W' (some w.heap.size) → Below w.heap.size w W' := fun hb hg => hb.grown hg hb.size (fun j hj => by cases hj; exact Nat.le_refl _)
  exact ⟨rfl, o9, st (st (st (st (st (st (st (st (st b0 g1) g2) g3) g4) g5) g6) g7) g8) g9⟩

end Go.Proofs.YtjhkadffaephmabGreat

/-
  algebra.spanOf, span.has.
-/
namespace Go.Proofs.YtjhkadffaephmabGreat
open Go.RowKit

def spanVal (x y z e : Int) : Value := .agg #[.int .i64 x, .int .i64 y, .int .i64 z, .int .i64 e]

set_option maxHeartbeats 1000000 in
theorem span_any (a : AlgM) (r e : Int) (w : World) (hr : r = 0 ∨ r = 1 ∨ r = 2 ∨ r = 3) (he : e = 0 ∨ e = 1) (hE : a.E.t.len ≤ maxLen) :
    Calls Tryz.prog 104 #[a.val, .agg #[.int .i64 r, .int .i64 e]] w fun en w' =>
      en = .returned (spanVal (if 0 < r then a.size else 1) (if 1 < r then a.size else 1) (if 2 < r then a.size else 1) (if 0 < e then a.E.t.len else 1)) ∧ Below w.heap.size w w' := by
  unfold maxLen at hE
  obtain ⟨size, B, E⟩ := a
  simp only [AlgM.val, Mat.val, spanVal]
  rcases hr with rfl | rfl | rfl | rfl <;> rcases he with rfl | rfl
  all_goals
    go_enter Tryz.func104, Tryz.ntmps104
    go_wp2
    refine bodyPost_ret (v := .agg #[_, _, _, _]) (by simp [results, Tryz.results104, go_sem]; exact ⟨rfl, rfl, rfl, rfl⟩) rfl ⟨by simp, ?_⟩
    exact ((((Below.refl _ _).alloc (Nat.le_refl _) _).alloc (by simp) _).alloc (by simp; omega) _).alloc (by simp; omega) _

end Go.Proofs.YtjhkadffaephmabGreat

/-
  algebra.cases: the iterator over all that a law names.
-/
namespace Go.Proofs.YtjhkadffaephmabGreat
open Go.RowKit Go.Shelf
attribute [local go_sem] Oper.semAt_some

set_option maxRecDepth 100000 in
set_option maxHeartbeats 2000000 in
theorem cases1_in (F : Fence) (n : Nat) (h64 : F.fn 107) (hro : F.round = none) (_hn : 1 ≤ n) (lr bS bL n₀ : Nat) (l : Int) (sa sb sc se : Nat)
    (hmax : sa ≤ 100 ∧ sb ≤ 100 ∧ sc ≤ 100 ∧ se ≤ 100)
    (J Jx : List { b : Brk // b ∈ casesA l sb sc se sa } → World → Prop)
    (hY : ∀ pre x W, J pre W → pre.length < (casesA l sb sc se sa).length → YieldAt F (n - 1) Tryz.prog lr #[x.1.val] W fun e W' =>
      (e = .returned (.bool true) ∧ J (pre ++ [x]) W' ∧ Below n₀ W W') ∨ (e = .returned (.bool false) ∧ Jx (pre ++ [x]) W'))
    (W : World) (hbS : bS < n₀) (hbL : bL < n₀) (hL : W.cell? ⟨bL, 0, none⟩ = some (.int .i64 l))
    (c0 : W.cell? ⟨bS, 0, none⟩ = some (.int .i64 sa)) (c1 : W.cell? ⟨bS, 1, none⟩ = some (.int .i64 sb)) (c2 : W.cell? ⟨bS, 2, none⟩ = some (.int .i64 sc)) (c3 : W.cell? ⟨bS, 3, none⟩ = some (.int .i64 se))
    (h0 : J [] W) :
    CallsIn F n Tryz.prog 107 #[.func (.yield lr) #[] #[], .pointer (some ⟨bS, 0, none⟩), .pointer (some ⟨bL, 0, none⟩)] W fun e W' => (∃ v, e = .returned v) ∧
      ((∃ ys, ys.map (·.1) = casesA l sb sc se sa ∧ J ys W') ∨ (∃ pre, pre.map (·.1) <+: casesA l sb sc se sa ∧ Jx pre W')) := by
  obtain ⟨m0, m1, m2, m3⟩ := hmax
  have HY := hide hY
  clear hY
  refine callsIn_of_wp Tryz.func107 rfl h64 ?_ hro
  simp only [Tryz.ntmps107, List.size_toArray, List.length_cons, List.length_nil, Nat.reduceAdd, Nat.reduceSub, Array.replicate_succ, Array.replicate_zero, List.push_toArray, List.append_toArray, List.nil_append, List.cons_append]
  gi_wp2
  gi_loopw [10] (fun c wr => ∃ (x : Nat) (pre : List { b : Brk // b ∈ casesA l sb sc se sa }), x ≤ sa ∧ c = .int .i64 x ∧ Hid (pre.map (·.1) = casesTo l sb sc se x 0 0 0) ∧ Hid (Below n₀ W wr) ∧ J pre wr)
    (fun c _ => sa - (intOf c).toNat)
  case atStart => exact ⟨0, [], Nat.zero_le _, rfl, hide (by rw [casesTo_0]; rfl), hide (Below.refl _ _), h0⟩
  case round =>
    obtain ⟨x, pre, hx, rfl, Hp, HB, hJ⟩ := hrel
    by_cases hxs : x < sa
    · have d1 : wr.cell? ⟨bS, 1, none⟩ = some (.int .i64 sb) := (HB.out.cell (p := ⟨bS, 1, none⟩) hbS).trans c1
      gi_wp2
      gi_loopw [15] (fun c wr => ∃ (y : Nat) (pre : List { b : Brk // b ∈ casesA l sb sc se sa }), y ≤ sb ∧ c = .int .i64 y ∧ Hid (pre.map (·.1) = casesTo l sb sc se x y 0 0) ∧ Hid (Below n₀ W wr) ∧ J pre wr)
        (fun c _ => sb - (intOf c).toNat)
      case atStart => exact ⟨0, pre, Nat.zero_le _, rfl, Hp, HB, hJ⟩
      case round =>
        clear d1 hJ HB Hp pre
        obtain ⟨y, pre, hy, rfl, Hp, HB, hJ⟩ := hrel
        by_cases hys : y < sb
        · have d2 : wr.cell? ⟨bS, 2, none⟩ = some (.int .i64 sc) := (HB.out.cell (p := ⟨bS, 2, none⟩) hbS).trans c2
          gi_wp2
          gi_loopw [20] (fun c wr => ∃ (z : Nat) (pre : List { b : Brk // b ∈ casesA l sb sc se sa }), z ≤ sc ∧ c = .int .i64 z ∧ Hid (pre.map (·.1) = casesTo l sb sc se x y z 0) ∧ Hid (Below n₀ W wr) ∧ J pre wr)
            (fun c _ => sc - (intOf c).toNat)
          case atStart => exact ⟨0, pre, Nat.zero_le _, rfl, Hp, HB, hJ⟩
          case round =>
            clear d2 hJ HB Hp pre
            obtain ⟨z, pre, hz, rfl, Hp, HB, hJ⟩ := hrel
            by_cases hzs : z < sc
            · have d3 : wr.cell? ⟨bS, 3, none⟩ = some (.int .i64 se) := (HB.out.cell (p := ⟨bS, 3, none⟩) hbS).trans c3
              gi_wp2
              gi_loopw [25] (fun c wr => ∃ (e : Nat) (pre : List { b : Brk // b ∈ casesA l sb sc se sa }), e ≤ se ∧ c = .int .i64 e ∧ Hid (pre.map (·.1) = casesTo l sb sc se x y z e) ∧ Hid (Below n₀ W wr) ∧ J pre wr)
                (fun c _ => se - (intOf c).toNat)
              case atStart => exact ⟨0, pre, Nat.zero_le _, rfl, Hp, HB, hJ⟩
              case round =>
                clear d3 hJ HB Hp pre
                obtain ⟨e, pre, he, rfl, Hp, HB, hJ⟩ := hrel
                by_cases hes : e < se
                · have d4 : wr.cell? ⟨bL, 0, none⟩ = some (.int .i64 l) := (HB.out.cell (p := ⟨bL, 0, none⟩) hbL).trans hL
                  have hlen : pre.length < (casesA l sb sc se sa).length := by
                    have := casesTo_len l hxs hys hzs hes
                    rw [← Hp.out, List.length_map] at this
                    exact this
                  obtain ⟨fn, tmps, assign, body, hy0, hR⟩ := HY.out pre ⟨⟨l, x, y, z, e⟩, casesTo_mem l hxs hys hzs hes⟩ wr hJ hlen
                  dsimp only [Brk.val] at hy0
                  have HR := hide hR
                  clear hR hlen
                  gi_wp2
                  refine HR.out.mono ?_
                  rintro en W3 (⟨rfl, hJ3, hk3⟩ | ⟨rfl, hJx3⟩)
                  · have HB3 := hide (HB.out.trans hk3)
                    clear hk3 HR hy0 d4
                    gi_wp2
                    go_roundw
                    case rel => exact ⟨e + 1, _, by omega, by go_num, hide (by rw [casesTo_snoc, ← Hp.out]; simp), HB3, hJ3⟩
                    case measure => simp [intOf]; omega
                  · clear HR hy0 d4
                    gi_wp2
                    refine bodyPost_ret (results_none rfl _ _ _) rfl ?_
                    refine ⟨⟨_, rfl⟩, .inr ⟨_, ?_, hJx3⟩⟩
                    have hpr := casesTo_pre l hxs hys hzs (show e + 1 ≤ se from hes)
                    rw [casesTo_snoc, ← Hp.out] at hpr
                    simpa using hpr
                · obtain rfl : e = se := by omega
                  have Hp' := hide (Hp.out.trans (casesTo_e l sb sc e x y z))
                  gi_wp2
                  go_roundw
                  case rel => exact ⟨z + 1, pre, by omega, by go_num, Hp', HB, hJ⟩
                  case measure => simp [intOf]; omega
            · obtain rfl : z = sc := by omega
              have Hp' := hide (Hp.out.trans (casesTo_c l sb z se x y))
              gi_wp2
              go_roundw
              case rel => exact ⟨y + 1, pre, by omega, by go_num, Hp', HB, hJ⟩
              case measure => simp [intOf]; omega
        · obtain rfl : y = sb := by omega
          have Hp' := hide (Hp.out.trans (casesTo_b l y sc se x))
          gi_wp2
          go_roundw
          case rel => exact ⟨x + 1, pre, by omega, by go_num, Hp', HB, hJ⟩
          case measure => simp [intOf]; omega
    · obtain rfl : x = sa := by omega
      have Hp' := hide (Hp.out.trans (casesTo_a l sb sc se x))
      gi_wp2
      go_end0
      exact ⟨⟨_, rfl⟩, .inl ⟨pre, Hp'.out, hJ⟩⟩

end Go.Proofs.YtjhkadffaephmabGreat
