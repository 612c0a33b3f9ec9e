/-
  signpostref.DeepOf and WideOf; how they make plan.tooMany's answer.
-/
import Derived.Test.YtjhkadffaephmabPlanA
namespace Go.Proofs.Ytjhkadffaephmab
open Go.RowKit

/-- Are there more than d plans within each other? -/
def PlanM.deep : PlanM → Nat → Bool
  | .node none _, _ => true
  | .node (some _) _, 0 => true
  | .node (some h) sub, d + 1 => (List.range h.pn).any fun i => (sub rfl i).deep d
/-- Has one more than eight edges? -/
def PlanM.wide : PlanM → Bool
  | .node none _ => true
  | .node (some h) sub => decide (8 < h.en) || (List.range h.pn).any fun i => (sub rfl i).wide

theorem many_eq (p : PlanM) : ∀ d, p.many d = (p.deep d || p.wide) := by
  induction p using PlanM.ind with
  | no => exact fun d => by simp [PlanM.many, PlanM.deep]
  | mk h sub ih =>
    intro d
    cases d with
    | zero => simp [PlanM.many, PlanM.deep]
    | succ d =>
      simp only [PlanM.many, PlanM.deep, PlanM.wide, ih]
      rw [Bool.eq_iff_iff]
      simp only [Bool.or_eq_true, List.any_eq_true, List.mem_range, decide_eq_true_eq]
      constructor
      · rintro (h8 | ⟨i, hi, h1 | h1⟩)
        · exact Or.inr (Or.inl h8)
        · exact Or.inl ⟨i, hi, h1⟩
        · exact Or.inr (Or.inr ⟨i, hi, h1⟩)
      · rintro (⟨i, hi, h1⟩ | h8 | ⟨i, hi, h1⟩)
        · exact Or.inr ⟨i, hi, Or.inl h1⟩
        · exact Or.inl h8
        · exact Or.inr ⟨i, hi, Or.inr h1⟩

theorem wide_at {h : PHead} {sub : Nat → PlanM} {i : Nat} (hi : i < h.pn) (hm : (sub i).wide = true) : (PlanM.mk h sub).wide = true := by
  simp only [PlanM.wide, Bool.or_eq_true, List.any_eq_true, List.mem_range]
  exact Or.inr ⟨i, hi, hm⟩
theorem wide_none {h : PHead} {sub : Nat → PlanM} (he : h.en ≤ 8) (hm : ∀ i, i < h.pn → (sub i).wide = false) : (PlanM.mk h sub).wide = false := by
  simp only [PlanM.wide, Bool.or_eq_false_iff, List.any_eq_false, List.mem_range, decide_eq_false_iff_not]
  exact ⟨by omega, fun i hi => by simp [hm i hi]⟩

theorem deep_zero (p : PlanM) : p.deep 0 = true := by
  induction p using PlanM.ind with
  | no => rfl
  | mk h sub _ => rfl
theorem deep_succ {h : PHead} {sub : Nat → PlanM} {d : Nat} : (PlanM.mk h sub).deep (d + 1) = true ↔ ∃ i, i < h.pn ∧ (sub i).deep d = true := by
  simp only [PlanM.deep, List.any_eq_true, List.mem_range]

end Go.Proofs.Ytjhkadffaephmab
