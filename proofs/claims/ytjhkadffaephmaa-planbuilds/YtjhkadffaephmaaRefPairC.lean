/-
  signpostref.PairOf: the walk.
-/
import Derived.Test.YtjhkadffaephmaaRefPairB
import Derived.Test.YtjhkadffaephmaaBuildB
namespace Go.Proofs.Ytjhkadffaephmaa
set_option maxRecDepth 100000
open Go.RowKit

/-- An algebra of the document's own reckoning: its two tables, each in blocks of its own. -/
def TabsOf (x : NAlg) (lo hi : Nat) (VB VE : Value) (w : World) : Prop :=
  ∃ mid, lo ≤ mid ∧ mid ≤ hi ∧ OwnTab lo mid VB x.size x.size (fun r c => (x.best r c : Int)) w ∧ OwnTab mid hi VE x.el x.size (fun r c => (x.edge r c : Int)) w

theorem TabsOf.kept {x : NAlg} {lo hi : Nat} {VB VE : Value} {w w' : World} {row : Option Nat} (h : TabsOf x lo hi VB VE w) (hg : w.grownBy w' row) (hr : ∀ k, row = some k → k < lo ∨ hi ≤ k) : TabsOf x lo hi VB VE w' := by
  obtain ⟨mid, h1, h2, h3, h4⟩ := h
  refine ⟨mid, h1, h2, h3.kept hg (fun k hk => ?_), h4.kept hg (fun k hk => ?_)⟩
  · rcases hr k hk with h | h <;> omega
  · rcases hr k hk with h | h <;> omega
theorem TabsOf.below {x : NAlg} {lo hi : Nat} {VB VE : Value} {w w' : World} (h : TabsOf x lo hi VB VE w) (hb : Below w.heap.size w w') : TabsOf x lo hi VB VE w' :=
  h.kept (below_grown hb) (fun k hk => by cases hk)

/-- What the document's own reckoning returns: an algebra of its own, its two tables apart. -/
def RefMade (x : NAlg) (b : Nat) (e : Ending) (w' : World) : Prop :=
  ∃ VB VE, e = .returned (.agg #[.int .i64 x.size, VB, VE]) ∧ TabsOf x b w'.heap.size VB VE w'

section
variable {base B0 b5 b6 : Nat} {V5 V6 : Value} {k : Nat} {f5 f6 : Nat → Int} {W0 W W' : World} {d : Nat → Bool} {t : Nat → Value}

/-- What is fixed: where the lists lay as the region began. -/
structure PQFix (base B0 b5 b6 : Nat) (V5 V6 : Value) : Prop where
  l5 : b5 < base
  l6 : b6 < base
  n : b5 < b6
  bB : base ≤ B0
  v5 : ∀ j, V5.ownBlock = some j → base ≤ j ∧ j < B0
  v6 : ∀ j, V6.ownBlock = some j → base ≤ j ∧ j < B0
  ne : ∀ j, V5.ownBlock = some j → V6.ownBlock ≠ some j

theorem PQI.l0 (h : PQI base B0 b5 b6 V5 V6 k f5 f6 W0 d t W) : PQI base B0 b5 b6 V5 V6 k f5 f6 W0 (updB d 0) (upd t 0 V5) W := ⟨h.below, h.size, h.h5.stepL, h.h6, h.ne⟩
theorem PQI.l4 (h : PQI base B0 b5 b6 V5 V6 k f5 f6 W0 d t W) : PQI base B0 b5 b6 V5 V6 k f5 f6 W0 (updB d 4) (upd t 4 V6) W := ⟨h.below, h.size, h.h5, h.h6.stepL, h.ne⟩
theorem PQI.m1 (h : PQI base B0 b5 b6 V5 V6 k f5 f6 W0 d t W) {v : Value} (hv : v = .int .i64 (f5 k)) : PQI base B0 b5 b6 V5 V6 k f5 f6 W0 (updB d 1) (upd t 1 v) W := ⟨h.below, h.size, h.h5.stepM hv, h.h6, h.ne⟩
theorem PQI.m5 (h : PQI base B0 b5 b6 V5 V6 k f5 f6 W0 d t W) {v : Value} (hv : v = .int .i64 (f6 k)) : PQI base B0 b5 b6 V5 V6 k f5 f6 W0 (updB d 5) (upd t 5 v) W := ⟨h.below, h.size, h.h5, h.h6.stepM hv, h.ne⟩
theorem PQI.s2 (h : PQI base B0 b5 b6 V5 V6 k f5 f6 W0 d t W) (hx : PQFix base B0 b5 b6 V5 V6) : PQI base B0 b5 b6 V5 V6 k f5 f6 W0 (updB d 2) (upd t 2 (.slice (some ⟨W.heap.size, 0, none⟩) 1 1)) (W.alloc (.cells #[.int .i64 (f5 k)] 3)) :=
  ⟨h.below.alloc (by have := h.size; have := hx.bB; have := hx.l5; omega) _, by have := h.size; simp; omega, h.h5.stepB h.size, h.h6.kept (World.grownBy_alloc W _ none) (fun j hj => by cases hj), h.ne⟩
theorem PQI.s6 (h : PQI base B0 b5 b6 V5 V6 k f5 f6 W0 d t W) (hx : PQFix base B0 b5 b6 V5 V6) : PQI base B0 b5 b6 V5 V6 k f5 f6 W0 (updB d 6) (upd t 6 (.slice (some ⟨W.heap.size, 0, none⟩) 1 1)) (W.alloc (.cells #[.int .i64 (f6 k)] 3)) :=
  ⟨h.below.alloc (by have := h.size; have := hx.bB; have := hx.l5; omega) _, by have := h.size; simp; omega, h.h5.kept (World.grownBy_alloc W _ none) (fun j hj => by cases hj), h.h6.stepB h.size, h.ne⟩

theorem PQI.app3 (h : PQI base B0 b5 b6 V5 V6 k f5 f6 W0 d t W) (hx : PQFix base B0 b5 b6 V5 V6) (hd : d 3 = false) {g c : Nat} (hg : W.grownBy W' V5.ownBlock) (hown : W'.ownsRow base 3 1 (.slice (some ⟨g, 0, none⟩) (k + 1) c) (k + 1) (intsL f5 k ++ [.int .i64 (f5 k)])) (hat : V5.ownBlock = some g ∨ g = W.heap.size) :
    PQI base B0 b5 b6 V5 V6 k f5 f6 W0 (updB d 3) (upd t 3 (.slice (some ⟨g, 0, none⟩) (k + 1) c)) W' := by
  have h5 := h.h5
  have d8 : d 8 = false := by
    cases h8 : d 8 with
    | false => rfl
    | true => have := h5.sa h8; rw [hd] at this; cases this
  rw [hd, d8] at h5
  refine ⟨h.below.trans (grown_below hg (fun j hj => by have := (hx.v5 j hj).1; have := hx.l5; omega) (by have := h.size; have := hx.bB; have := hx.l5; omega)), Nat.le_trans h.size hg.size, ?_, ?_, ?_⟩
  · show Half base B0 b5 V5 k f5 (d 0) (d 1) (d 2) true (d 8) (t 0) (t 1) (t 2) _ W'
    rw [d8]
    exact h5.stepA hx.l5 hg hown hat h.size (fun j hj => (hx.v5 j hj).2)
  · exact half_other h.h6 hg (fun j hj => ⟨(hx.v5 j hj).1, (hx.v5 j hj).2, hx.ne j hj⟩) hx.l6
  · intro _ d7
    obtain ⟨g6, c6, e6, o6, a6⟩ := h.h6.a d7
    show Value.ownBlock (.slice (some ⟨g, 0, none⟩) (k + 1) c) ≠ (t 7).ownBlock
    rw [e6]
    intro e
    have eg : g = g6 := by simpa [Value.ownBlock] using e
    subst eg
    have := (o6.lt g rfl).2
    rcases hat with h1 | h1
    · rcases a6 with h2 | h2
      · exact hx.ne g h1 h2
      · have := (hx.v5 g h1).2
        omega
    · omega
theorem PQI.app7 (h : PQI base B0 b5 b6 V5 V6 k f5 f6 W0 d t W) (hx : PQFix base B0 b5 b6 V5 V6) (hd : d 7 = false) {g c : Nat} (hg : W.grownBy W' V6.ownBlock) (hown : W'.ownsRow base 3 1 (.slice (some ⟨g, 0, none⟩) (k + 1) c) (k + 1) (intsL f6 k ++ [.int .i64 (f6 k)])) (hat : V6.ownBlock = some g ∨ g = W.heap.size) :
    PQI base B0 b5 b6 V5 V6 k f5 f6 W0 (updB d 7) (upd t 7 (.slice (some ⟨g, 0, none⟩) (k + 1) c)) W' := by
  have h6 := h.h6
  have d9 : d 9 = false := by
    cases h9 : d 9 with
    | false => rfl
    | true => have := h6.sa h9; rw [hd] at this; cases this
  rw [hd, d9] at h6
  refine ⟨h.below.trans (grown_below hg (fun j hj => by have := (hx.v6 j hj).1; have := hx.l5; omega) (by have := h.size; have := hx.bB; have := hx.l5; omega)), Nat.le_trans h.size hg.size, ?_, ?_, ?_⟩
  · exact half_other h.h5 hg (fun j hj => ⟨(hx.v6 j hj).1, (hx.v6 j hj).2, fun e => hx.ne j e hj⟩) hx.l5
  · show Half base B0 b6 V6 k f6 (d 4) (d 5) (d 6) true (d 9) (t 4) (t 5) (t 6) _ W'
    rw [d9]
    exact h6.stepA hx.l6 hg hown hat h.size (fun j hj => (hx.v6 j hj).2)
  · intro d3 _
    obtain ⟨g5, c5, e5, o5, a5⟩ := h.h5.a d3
    show (t 3).ownBlock ≠ Value.ownBlock (.slice (some ⟨g, 0, none⟩) (k + 1) c)
    rw [e5]
    intro e
    have eg : g5 = g := by simpa [Value.ownBlock] using e
    subst eg
    have := (o5.lt g5 rfl).2
    rcases hat with h1 | h1
    · rcases a5 with h2 | h2
      · exact hx.ne g5 h2 h1
      · have := (hx.v6 g5 h1).2
        omega
    · omega

theorem PQI.st8 (h : PQI base B0 b5 b6 V5 V6 k f5 f6 W0 d t W) (hx : PQFix base B0 b5 b6 V5 V6) (hd : d 8 = false) (d0 : d 0 = true) (d3 : d 3 = true) (v : Value) : PQI base B0 b5 b6 V5 V6 k f5 f6 W0 (updB d 8) (upd t 8 v) (W.setCell ⟨b5, 0, none⟩ (t 3)) := by
  have h5 := h.h5
  rw [hd, d3] at h5
  have hg : W.grownBy (W.setCell ⟨b5, 0, none⟩ (t 3)) (some b5) := ⟨rfl, rfl, rfl, by simp, fun j _ hne => by
    show (W.heap.modify b5 _)[j]? = _
    rw [Array.getElem?_modify, if_neg (fun e => hne (by rw [e]))]⟩
  refine ⟨h.below.setCell (p := ⟨b5, 0, none⟩) (Nat.le_refl _) _, by simpa using h.size, ?_, ?_, h.ne⟩
  · show Half base B0 b5 V5 k f5 (d 0) (d 1) (d 2) (d 3) true (t 0) (t 1) (t 2) (t 3) _
    rw [d3]
    exact h5.stepS hx.l5 hx.bB d0
  · exact h.h6.kept hg (fun j hj => by
      have e : b5 = j := by simpa using hj
      subst e
      have := hx.n
      have := hx.l5
      have := hx.bB
      exact ⟨by omega, by omega, fun e => by have := (hx.v6 b5 e).1; omega⟩)
theorem PQI.st9 (h : PQI base B0 b5 b6 V5 V6 k f5 f6 W0 d t W) (hx : PQFix base B0 b5 b6 V5 V6) (hd : d 9 = false) (d4 : d 4 = true) (d7 : d 7 = true) (v : Value) : PQI base B0 b5 b6 V5 V6 k f5 f6 W0 (updB d 9) (upd t 9 v) (W.setCell ⟨b6, 0, none⟩ (t 7)) := by
  have h6 := h.h6
  rw [hd, d7] at h6
  have hg : W.grownBy (W.setCell ⟨b6, 0, none⟩ (t 7)) (some b6) := ⟨rfl, rfl, rfl, by simp, fun j _ hne => by
    show (W.heap.modify b6 _)[j]? = _
    rw [Array.getElem?_modify, if_neg (fun e => hne (by rw [e]))]⟩
  refine ⟨h.below.setCell (p := ⟨b6, 0, none⟩) (by show b5 ≤ b6; have := hx.n; omega) _, by simpa using h.size, ?_, ?_, h.ne⟩
  · exact h.h5.kept hg (fun j hj => by
      have e : b6 = j := by simpa using hj
      subst e
      have := hx.n
      have := hx.l6
      have := hx.bB
      exact ⟨by omega, by omega, fun e => by have := (hx.v5 b6 e).1; omega⟩)
  · show Half base B0 b6 V6 k f6 (d 4) (d 5) (d 6) (d 7) true (t 4) (t 5) (t 6) (t 7) _
    rw [d7]
    exact h6.stepS hx.l6 hx.bB d4
end

end Go.Proofs.Ytjhkadffaephmaa
