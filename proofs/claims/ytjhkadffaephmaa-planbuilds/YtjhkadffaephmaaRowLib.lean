/-
  Tables that were made by append: each row in a block of its own.
-/
import Derived.Test.YtjhkadffaephmaaBuildA
import Derived.Deep.AppendLies
import Derived.Lib.SmallJoins
import Derived.Laws.OwnMore
import Derived.Maps.Range
namespace Go.Proofs.Ytjhkadffaephmaa
set_option maxRecDepth 100000
open Go.RowKit

theorem below_grown {w w' : World} (h : Below w.heap.size w w') : w.grownBy w' none := ⟨h.os, h.tape, h.output, h.size, fun i hi _ => h.block i hi⟩
theorem owns_below {w w' : World} {base : Nat} {e : TypeId} {size : Nat} {v : Value} {n : Nat} {xs : List Value} (h : w.ownsRow base e size v n xs) (hb : Below w.heap.size w w') : w'.ownsRow base e size v n xs :=
  h.kept (below_grown hb) (by cases v.ownBlock <;> simp)
theorem grown_below {w w' : World} {row : Option Nat} {B : Nat} (h : w.grownBy w' row) (hr : ∀ g, row = some g → B ≤ g) (hB : B ≤ w.heap.size) : Below B w w' where
  os := h.os
  tape := h.tape
  output := h.output
  size := h.size
  block := fun k hk => h.block k (by omega) (fun e => by have := hr k e.symm; omega)

/-- n numbers, as values. -/
def intsL (f : Nat → Int) (n : Nat) : List Value := (List.range n).map fun j => Value.int .i64 (f j)
theorem intsL_succ (f : Nat → Int) (n : Nat) : intsL f (n + 1) = intsL f n ++ [.int .i64 (f n)] := by simp [intsL, List.range_succ]
theorem intsL_len (f : Nat → Int) (n : Nat) : (intsL f n).length = n := by simp [intsL]
theorem intsL_get {f : Nat → Int} {n j : Nat} (h : j < n) : (intsL f n)[j]? = some (.int .i64 (f j)) := by simp [intsL, h]
theorem intsL_congr {f g : Nat → Int} {n : Nat} (h : ∀ j, j < n → f j = g j) : intsL f n = intsL g n := by
  unfold intsL
  apply List.map_congr_left
  intro j hj
  rw [h j (by simpa using hj)]
theorem intsL_set {f : Nat → Int} {n j : Nat} {z : Int} : (intsL f n).set j (.int .i64 z) = intsL (fun i => if i = j then z else f i) n := by
  apply List.ext_getElem?
  intro i
  by_cases hi : i < n
  · rw [intsL_get hi]
    by_cases e : i = j
    · subst e
      rw [List.getElem?_set_self (by rw [intsL_len]; exact hi)]
      simp
    · rw [List.getElem?_set_ne (Ne.symm e), intsL_get hi]
      simp [e]
  · rw [List.getElem?_eq_none (by rw [List.length_set, intsL_len]; omega), List.getElem?_eq_none (by rw [intsL_len]; omega)]

/-- The slices of n rows. -/
def rowsL (g c : Nat → Nat) (p n : Nat) : List Value := (List.range n).map fun r => Value.slice (some ⟨g r, 0, none⟩) p (c r)
theorem rowsL_len (g c : Nat → Nat) (p n : Nat) : (rowsL g c p n).length = n := by simp [rowsL]
theorem rowsL_get {g c : Nat → Nat} {p n r : Nat} (h : r < n) : (rowsL g c p n)[r]? = some (.slice (some ⟨g r, 0, none⟩) p (c r)) := by simp [rowsL, h]
theorem rowsL_congr {g c g' c' : Nat → Nat} {p n : Nat} (h : ∀ r, r < n → g r = g' r ∧ c r = c' r) : rowsL g c p n = rowsL g' c' p n := by
  unfold rowsL
  apply List.map_congr_left
  intro r hr
  obtain ⟨h1, h2⟩ := h r (by simpa using hr)
  rw [h1, h2]
theorem rowsL_succ (g c : Nat → Nat) (p n : Nat) : rowsL g c p (n + 1) = rowsL g c p n ++ [.slice (some ⟨g n, 0, none⟩) p (c n)] := by simp [rowsL, List.range_succ]

/-- A table in blocks of its own, from lo on and below hi. -/
def OwnTab (lo hi : Nat) (V : Value) (n p : Nat) (Z : Nat → Nat → Int) (w : World) : Prop :=
  ∃ g c : Nat → Nat, w.ownsRow lo 32 1 V n (rowsL g c p n) ∧ (∀ k, V.ownBlock = some k → k < hi) ∧
    (∀ r, r < n → w.ownsRow lo 3 1 (.slice (some ⟨g r, 0, none⟩) p (c r)) p (intsL (Z r) p) ∧ g r < hi ∧ V.ownBlock ≠ some (g r)) ∧
    (∀ r s, r < n → s < n → r ≠ s → g r ≠ g s)

theorem OwnTab.nil (lo hi p : Nat) (Z : Nat → Nat → Int) (w : World) : OwnTab lo hi (.slice none 0 0) 0 p Z w :=
  ⟨fun _ => 0, fun _ => 0, World.ownsRow_nil w lo _ 1, fun k hk => by simp [Value.ownBlock] at hk, fun r hr => absurd hr (Nat.not_lt_zero _), fun r s hr => absurd hr (Nat.not_lt_zero _)⟩

theorem OwnTab.kept {lo hi : Nat} {V : Value} {n p : Nat} {Z : Nat → Nat → Int} {w w' : World} {row : Option Nat} (h : OwnTab lo hi V n p Z w) (hg : w.grownBy w' row) (hr : ∀ k, row = some k → k < lo ∨ hi ≤ k) : OwnTab lo hi V n p Z w' := by
  obtain ⟨g, c, h1, h2, h3, h4⟩ := h
  refine ⟨g, c, h1.kept hg ?_, h2, fun r hr' => ⟨(h3 r hr').1.kept hg (Or.inr ?_), (h3 r hr').2⟩, h4⟩
  · cases hv : V.ownBlock with
    | none => exact Or.inl rfl
    | some k =>
      refine Or.inr (fun e => ?_)
      have hk1 := (h1.lt k hv).1
      have hk2 := h2 k hv
      rcases hr k e.symm with h | h <;> omega
  · intro e
    have hk1 := ((h3 r hr').1.lt (g r) rfl).1
    have hk2 := (h3 r hr').2.1
    rcases hr (g r) e.symm with h | h <;> omega

theorem OwnTab.below {lo hi : Nat} {V : Value} {n p : Nat} {Z : Nat → Nat → Int} {w w' : World} (h : OwnTab lo hi V n p Z w) (hb : Below w.heap.size w w') : OwnTab lo hi V n p Z w' :=
  h.kept (below_grown hb) (fun k hk => by cases hk)
theorem OwnTab.alloc {lo hi : Nat} {V : Value} {n p : Nat} {Z : Nat → Nat → Int} {w : World} (h : OwnTab lo hi V n p Z w) (o : Obj) : OwnTab lo hi V n p Z (w.alloc o) :=
  h.kept (World.grownBy_alloc w o none) (fun k hk => by cases hk)
theorem OwnTab.mono {lo hi lo' hi' : Nat} {V : Value} {n p : Nat} {Z : Nat → Nat → Int} {w : World} (h : OwnTab lo hi V n p Z w) (h1 : lo' ≤ lo) (h2 : hi ≤ hi') : OwnTab lo' hi' V n p Z w := by
  obtain ⟨g, c, k1, k2, k3, k4⟩ := h
  exact ⟨g, c, Go.Joins.ownsRow_le k1 h1, fun k hk => Nat.lt_of_lt_of_le (k2 k hk) h2, fun r hr => ⟨Go.Joins.ownsRow_le (k3 r hr).1 h1, Nat.lt_of_lt_of_le (k3 r hr).2.1 h2, (k3 r hr).2.2⟩, k4⟩
theorem OwnTab.congr {lo hi : Nat} {V : Value} {n p : Nat} {Z Z' : Nat → Nat → Int} {w : World} (h : OwnTab lo hi V n p Z w) (hz : ∀ r, r < n → ∀ j, j < p → Z r j = Z' r j) : OwnTab lo hi V n p Z' w := by
  obtain ⟨g, c, k1, k2, k3, k4⟩ := h
  exact ⟨g, c, k1, k2, fun r hr => ⟨by rw [← intsL_congr (hz r hr)]; exact (k3 r hr).1, (k3 r hr).2⟩, k4⟩

/-- One row more. -/
theorem OwnTab.push {lo H0 : Nat} {V : Value} {n p : Nat} {Z : Nat → Nat → Int} {w1 : World} {g c : Nat → Nat}
    (k1 : w1.ownsRow lo 32 1 V n (rowsL g c p n)) (k2 : ∀ k, V.ownBlock = some k → k < H0)
    (k3 : ∀ r, r < n → w1.ownsRow lo 3 1 (.slice (some ⟨g r, 0, none⟩) p (c r)) p (intsL (Z r) p) ∧ g r < H0 ∧ V.ownBlock ≠ some (g r)) (k4 : ∀ r s, r < n → s < n → r ≠ s → g r ≠ g s)
    (hlo : lo ≤ H0) {gn cn : Nat} (hrow : w1.ownsRow H0 3 1 (.slice (some ⟨gn, 0, none⟩) p cn) p (intsL (Z n) p))
    {w2 : World} {g' cap' : Nat} (hown : w2.ownsRow lo 32 1 (.slice (some ⟨g', 0, none⟩) (n + 1) cap') (n + 1) (rowsL g c p n ++ [.slice (some ⟨gn, 0, none⟩) p cn])) (hgrow : w1.grownBy w2 V.ownBlock)
    (hat : V.ownBlock = some g' ∨ g' = w1.heap.size) : OwnTab lo w2.heap.size (.slice (some ⟨g', 0, none⟩) (n + 1) cap') (n + 1) p Z w2 := by
  have hgn := hrow.lt gn rfl
  have hg' : g' < w2.heap.size := (hown.lt g' rfl).2
  have hneV : ∀ k, V.ownBlock = some k → k ≠ gn := fun k hk e => by have := k2 k hk; omega
  have hgne : g' ≠ gn := by
    rcases hat with h | h
    · exact hneV g' h
    · omega
  refine ⟨fun r => if r = n then gn else g r, fun r => if r = n then cn else c r, ?_, ?_, ?_, ?_⟩
  · rw [rowsL_succ]
    simp only [if_true]
    rw [rowsL_congr (g := fun r => if r = n then gn else g r) (c := fun r => if r = n then cn else c r) (g' := g) (c' := c) (fun r hr => by simp [show r ≠ n by omega])]
    exact hown
  · intro k hk
    have : k = g' := by simpa [Value.ownBlock] using hk.symm
    omega
  · intro r hr
    by_cases e : r = n
    · subst e
      simp only [if_true]
      refine ⟨(Go.Joins.ownsRow_le hrow hlo).kept hgrow (Or.inr (fun e' => ?_)), by have := hgrow.size; omega, fun e' => ?_⟩
      · exact hneV gn (by rw [← e']; rfl) rfl
      · exact hgne (by simpa [Value.ownBlock] using e')
    · simp only [if_neg e]
      obtain ⟨q1, q2, q3⟩ := k3 r (by omega)
      refine ⟨q1.kept hgrow (Or.inr (fun e' => q3 (by rw [← e']; rfl))), ?_, fun e' => ?_⟩
      · have := (q1.lt (g r) rfl).2
        have := hgrow.size
        omega
      · have e2 : g' = g r := by simpa [Value.ownBlock] using e'
        rcases hat with h | h
        · exact q3 (by rw [h, e2])
        · have := (q1.lt (g r) rfl).2
          omega
  · intro r s hr hs hne
    by_cases e1 : r = n
    · subst e1
      have e2 : s ≠ r := Ne.symm hne
      simp only [if_true, if_neg e2]
      have := (k3 s (by omega)).2.1
      omega
    · by_cases e2 : s = n
      · subst e2
        simp only [if_true, if_neg e1]
        have := (k3 r (by omega)).2.1
        omega
      · simp only [if_neg e1, if_neg e2]
        exact k4 r s (by omega) (by omega) hne

/-- As a table in memory. -/
theorem OwnTab.mat {lo hi : Nat} {V : Value} {n p : Nat} {Z : Nat → Nat → Int} {w : World} (h : OwnTab lo hi V n p Z w) (hn : n ≤ 100) (hp : p ≤ 100) :
    ∃ m : Mat, V = m.val ∧ m.t = ⟨n, fun _ => p, Z⟩ ∧ m.In w.heap.size w ∧ m.From lo ∧ m.Soft w := by
  obtain ⟨g, c, k1, _, k3, _⟩ := h
  rcases Go.Joins.ownsRow_forms k1 with ⟨rfl, rfl⟩ | ⟨gb, cap, rfl⟩
  · refine ⟨⟨none, 0, 0, 0, fun _ => none, fun _ => 0, fun _ => 0, fun _ => 0, ⟨0, fun _ => p, Z⟩⟩, rfl, rfl, ⟨?_, ?_, ?_, ?_, ?_, Nat.zero_le _, ?_⟩, ⟨?_, ?_⟩, fun _ h => absurd h (Nat.not_lt_zero _)⟩
    · exact fun h => absurd h (Nat.not_lt_zero _)
    · exact fun h => absurd h (Nat.not_lt_zero _)
    · exact fun _ h => absurd h (Nat.not_lt_zero _)
    · exact fun _ h => absurd h (Nat.not_lt_zero _)
    · exact fun _ h => absurd h (Nat.not_lt_zero _)
    · exact fun _ h => absurd h (Nat.not_lt_zero _)
    · exact fun h => absurd h (Nat.not_lt_zero _)
    · exact fun _ h => absurd h (Nat.not_lt_zero _)
  · refine ⟨⟨some ⟨gb, 0, none⟩, gb, 0, cap, fun r => some ⟨g r, 0, none⟩, c, g, fun _ => 0, ⟨n, fun _ => p, Z⟩⟩, rfl, rfl, ⟨fun _ => rfl, fun _ => (k1.lt gb rfl).2, ?_, ?_, ?_, ?_, ?_⟩, ⟨fun _ => (k1.lt gb rfl).1, ?_⟩, fun r hr _ => Lies.own (k3 r hr).1⟩
    · intro r hr
      have hr' : r < n := hr
      show w.cell? ⟨gb, 0 + r, none⟩ = _
      rw [Nat.zero_add, k1.cellAt r (by omega), rowsL_get hr']
    · intro r hr _
      exact ⟨rfl, ((k3 r hr).1.lt (g r) rfl).2⟩
    · intro r hr j hj
      have hj' : j < p := hj
      show w.cell? ⟨g r, 0 + j, none⟩ = _
      rw [Nat.zero_add, (k3 r hr).1.cellAt j (by omega), intsL_get hj']
    · show n ≤ maxLen; unfold maxLen; omega
    · intro r _; show p ≤ maxLen; unfold maxLen; omega
    · intro r hr _
      exact ((k3 r hr).1.lt (g r) rfl).1

/-- One number of a row is set anew. -/
theorem OwnTab.set {lo hi : Nat} {V : Value} {n p : Nat} {Z : Nat → Nat → Int} {w : World} {g c : Nat → Nat}
    (k1 : w.ownsRow lo 32 1 V n (rowsL g c p n)) (k2 : ∀ k, V.ownBlock = some k → k < hi)
    (k3 : ∀ r, r < n → w.ownsRow lo 3 1 (.slice (some ⟨g r, 0, none⟩) p (c r)) p (intsL (Z r) p) ∧ g r < hi ∧ V.ownBlock ≠ some (g r)) (k4 : ∀ r s, r < n → s < n → r ≠ s → g r ≠ g s)
    {r j : Nat} (hr : r < n) (z : Int) : OwnTab lo hi V n p (fun a b => if a = r ∧ b = j then z else Z a b) (w.setCell ⟨g r, j, none⟩ (.int .i64 z)) := by
  obtain ⟨q1, q2, q3⟩ := k3 r hr
  obtain ⟨s1, s2⟩ := q1.stored j (.int .i64 z)
  refine ⟨g, c, k1.kept s2 ?_, k2, fun s hs => ⟨?_, (k3 s hs).2⟩, k4⟩
  · cases hv : V.ownBlock with
    | none => exact Or.inl rfl
    | some k => exact Or.inr (by rw [← hv]; exact q3)
  · by_cases e : s = r
    · subst e
      rw [intsL_set] at s1
      have e2 : intsL (fun i => if i = j then z else Z s i) p = intsL (fun b => if s = s ∧ b = j then z else Z s b) p := intsL_congr (fun b _ => by simp)
      rw [← e2]
      exact s1
    · have e2 : intsL (fun b => if s = r ∧ b = j then z else Z s b) p = intsL (Z s) p := intsL_congr (fun b _ => by simp [e])
      show (World.setCell w _ _).ownsRow lo 3 1 _ p (intsL (fun b => if s = r ∧ b = j then z else Z s b) p)
      rw [e2]
      exact (k3 s hs).1.kept s2 (Or.inr (fun e' => k4 s r hs hr e (by simpa [Value.ownBlock] using e')))

end Go.Proofs.Ytjhkadffaephmaa
