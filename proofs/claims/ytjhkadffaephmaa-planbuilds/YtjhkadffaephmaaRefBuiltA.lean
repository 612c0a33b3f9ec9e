/-
  signpostref.Built: what it keeps of the parts.
-/
import Derived.Test.YtjhkadffaephmaaRefPairC
import Derived.Test.YtjhkadffaephmaaPlanE
namespace Go.Proofs.Ytjhkadffaephmaa
set_option maxRecDepth 100000
open Go.RowKit

theorem Try.infoAlg : (Try.prog.info? 24).map (fun i => (i.zero, i.size, i.bytes)) = some (some (.agg #[.int .i64 0, .slice none 0 0, .slice none 0 0]), 3, 56) := by kernel_rfl

/-- The cells of k algebras. -/
def algL (sz : Nat → Nat) (VB VE : Nat → Value) : Nat → List Value
  | 0 => []
  | k + 1 => algL sz VB VE k ++ [.int .i64 (sz k), VB k, VE k]
theorem algL_len (sz : Nat → Nat) (VB VE : Nat → Value) (k : Nat) : (algL sz VB VE k).length = k * 3 := by
  induction k with
  | zero => rfl
  | succ k ih => simp [algL, ih]; omega
theorem algL_get (sz : Nat → Nat) (VB VE : Nat → Value) {k i : Nat} (h : i < k) : (algL sz VB VE k)[i * 3]? = some (.int .i64 (sz i)) ∧ (algL sz VB VE k)[i * 3 + 1]? = some (VB i) ∧ (algL sz VB VE k)[i * 3 + 2]? = some (VE i) := by
  induction k with
  | zero => omega
  | succ k ih =>
    simp only [algL]
    by_cases e : i = k
    · subst e
      rw [List.getElem?_append_right (by rw [algL_len]; omega), List.getElem?_append_right (by rw [algL_len]; omega), List.getElem?_append_right (by rw [algL_len]; omega), algL_len]
      simp
    · rw [List.getElem?_append_left (by rw [algL_len]; omega), List.getElem?_append_left (by rw [algL_len]; omega), List.getElem?_append_left (by rw [algL_len]; omega)]
      exact ih (by omega)
theorem algL_congr {sz sz' : Nat → Nat} {VB VE VB' VE' : Nat → Value} {k : Nat} (h : ∀ j, j < k → sz j = sz' j ∧ VB j = VB' j ∧ VE j = VE' j) : algL sz VB VE k = algL sz' VB' VE' k := by
  induction k with
  | zero => rfl
  | succ k ih =>
    simp only [algL]
    obtain ⟨h1, h2, h3⟩ := h k (by omega)
    rw [ih (fun j hj => h j (by omega)), h1, h2, h3]

/-- The parts that were built: their row, and the tables of each. -/
structure PartsP (base : Nat) (x : Nat → NAlg) (k : Nat) (v : Value) (VB VE : Nat → Value) (lo hi : Nat → Nat) (w : World) : Prop where
  row : w.ownsRow base 24 3 v k (algL (fun j => (x j).size) VB VE k)
  tabs : ∀ j, j < k → TabsOf (x j) (lo j) (hi j) (VB j) (VE j) w
  top : ∀ j, j < k → base ≤ lo j ∧ hi j ≤ w.heap.size
  apart : ∀ j, j < k → ∀ g, v.ownBlock = some g → g < lo j ∨ hi j ≤ g

theorem PartsP.nil (base : Nat) (x : Nat → NAlg) (VB VE : Nat → Value) (lo hi : Nat → Nat) (w : World) : PartsP base x 0 (.slice none 0 0) VB VE lo hi w :=
  ⟨World.ownsRow_nil _ _ _ _, fun _ hj => absurd hj (Nat.not_lt_zero _), fun _ hj => absurd hj (Nat.not_lt_zero _), fun _ hj => absurd hj (Nat.not_lt_zero _)⟩

theorem PartsP.below {base : Nat} {x : Nat → NAlg} {k : Nat} {v : Value} {VB VE : Nat → Value} {lo hi : Nat → Nat} {w w' : World} (h : PartsP base x k v VB VE lo hi w) (hb : Below w.heap.size w w') : PartsP base x k v VB VE lo hi w' :=
  ⟨owns_below h.row hb, fun j hj => (h.tabs j hj).below hb, fun j hj => ⟨(h.top j hj).1, Nat.le_trans (h.top j hj).2 hb.size⟩, h.apart⟩

/-- One more: its tables were made behind w0, and then the row grew. -/
theorem PartsP.push {base : Nat} {x : Nat → NAlg} {k : Nat} {v : Value} {VB VE : Nat → Value} {lo hi : Nat → Nat} {w1 w2 : World} (h : PartsP base x k v VB VE lo hi w1) {l t : Nat} {vb ve : Value}
    (hl : base ≤ l) (ht : t ≤ w1.heap.size) (htab : TabsOf (x k) l t vb ve w1) (hv : ∀ g, v.ownBlock = some g → g < l) {g c : Nat}
    (hown : w2.ownsRow base 24 3 (.slice (some ⟨g, 0, none⟩) (k + 1) c) (k + 1) (algL (fun j => (x j).size) VB VE k ++ [.int .i64 (x k).size, vb, ve])) (hgrow : w1.grownBy w2 v.ownBlock) (hat : v.ownBlock = some g ∨ g = w1.heap.size) :
    PartsP base x (k + 1) (.slice (some ⟨g, 0, none⟩) (k + 1) c) (fun j => if j = k then vb else VB j) (fun j => if j = k then ve else VE j) (fun j => if j = k then l else lo j) (fun j => if j = k then t else hi j) w2 where
  row := by
    have e : algL (fun j => (x j).size) (fun j => if j = k then vb else VB j) (fun j => if j = k then ve else VE j) (k + 1) = algL (fun j => (x j).size) VB VE k ++ [.int .i64 (x k).size, vb, ve] := by
      simp only [algL, if_true]
      rw [algL_congr (sz' := fun j => (x j).size) (VB' := VB) (VE' := VE) (fun j hj => ⟨rfl, by simp [show j ≠ k by omega], by simp [show j ≠ k by omega]⟩)]
    rw [e]
    exact hown
  tabs := fun j hj => by
    by_cases e : j = k
    · subst e
      simp only [if_true]
      exact htab.kept hgrow (fun g' hg' => Or.inl (hv g' hg'))
    · simp only [if_neg e]
      exact (h.tabs j (by omega)).kept hgrow (fun g' hg' => h.apart j (by omega) g' hg')
  top := fun j hj => by
    have := hgrow.size
    by_cases e : j = k
    · subst e
      simp only [if_true]
      exact ⟨hl, by omega⟩
    · simp only [if_neg e]
      have := h.top j (by omega)
      exact ⟨this.1, by omega⟩
  apart := fun j hj g' hg' => by
    have e' : g = g' := by simpa [Value.ownBlock] using hg'
    subst e'
    by_cases e : j = k
    · subst e
      simp only [if_true]
      rcases hat with h' | h'
      · exact Or.inl (hv g h')
      · exact Or.inr (by omega)
    · simp only [if_neg e]
      rcases hat with h' | h'
      · exact h.apart j (by omega) g h'
      · exact Or.inr (by have := (h.top j (by omega)).2; omega)

/-- What Built answers. -/
def RefAns (p : PlanM) (b : Nat) (e : Ending) (w' : World) : Prop :=
  (p.err = 0 ∧ ∃ VB VE, e = .returned (.tuple #[.agg #[.int .i64 p.built.size, VB, VE], .int .i64 0]) ∧ TabsOf p.built b w'.heap.size VB VE w') ∨
  (p.err ≠ 0 ∧ e = .returned (.tuple #[.agg #[.int .i64 0, .slice none 0 0, .slice none 0 0], .int .i64 p.err]))

end Go.Proofs.Ytjhkadffaephmaa
