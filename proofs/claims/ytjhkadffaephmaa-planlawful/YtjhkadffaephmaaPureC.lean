/-
  Plain mathematics: the cases of a law, in the order in which they are told.
-/
import Derived.Test.YtjhkadffaephmaaPureB
namespace Go.Proofs.Ytjhkadffaephmaa

def casesE (l : Int) (x y z e : Nat) : List Brk := (List.range e).map fun (k : Nat) => ⟨l, x, y, z, k⟩
def casesC (l : Int) (se : Nat) (x y z : Nat) : List Brk := (List.range z).flatMap fun k => casesE l x y k se
def casesB (l : Int) (sc se : Nat) (x y : Nat) : List Brk := (List.range y).flatMap fun k => casesC l se x k sc
def casesA (l : Int) (sb sc se : Nat) (x : Nat) : List Brk := (List.range x).flatMap fun k => casesB l sc se k sb

theorem casesE_succ (l : Int) (x y z e : Nat) : casesE l x y z (e + 1) = casesE l x y z e ++ [⟨l, x, y, z, e⟩] := by
  simp [casesE, List.range_succ]
theorem casesC_succ (l : Int) (se x y z : Nat) : casesC l se x y (z + 1) = casesC l se x y z ++ casesE l x y z se := by
  simp [casesC, List.range_succ, List.flatMap_append]
theorem casesB_succ (l : Int) (sc se x y : Nat) : casesB l sc se x (y + 1) = casesB l sc se x y ++ casesC l se x y sc := by
  simp [casesB, List.range_succ, List.flatMap_append]
theorem casesA_succ (l : Int) (sb sc se x : Nat) : casesA l sb sc se (x + 1) = casesA l sb sc se x ++ casesB l sc se x sb := by
  simp [casesA, List.range_succ, List.flatMap_append]

theorem pre_mono {f : Nat → List Brk} (h : ∀ k, f k <+: f (k + 1)) : ∀ {a b : Nat}, a ≤ b → f a <+: f b := by
  intro a b hab
  induction b with
  | zero => obtain rfl : a = 0 := by omega
            exact List.prefix_refl _
  | succ b ih =>
    by_cases e : a = b + 1
    · subst e; exact List.prefix_refl _
    · exact (ih (by omega)).trans (h b)

theorem casesE_pre (l : Int) (x y z : Nat) {a b : Nat} (h : a ≤ b) : casesE l x y z a <+: casesE l x y z b :=
  pre_mono (fun k => by rw [casesE_succ]; exact List.prefix_append _ _) h
theorem casesC_pre (l : Int) (se x y : Nat) {a b : Nat} (h : a ≤ b) : casesC l se x y a <+: casesC l se x y b :=
  pre_mono (fun k => by rw [casesC_succ]; exact List.prefix_append _ _) h
theorem casesB_pre (l : Int) (sc se x : Nat) {a b : Nat} (h : a ≤ b) : casesB l sc se x a <+: casesB l sc se x b :=
  pre_mono (fun k => by rw [casesB_succ]; exact List.prefix_append _ _) h
theorem casesA_pre (l : Int) (sb sc se : Nat) {a b : Nat} (h : a ≤ b) : casesA l sb sc se a <+: casesA l sb sc se b :=
  pre_mono (fun k => by rw [casesA_succ]; exact List.prefix_append _ _) h

/-- What has come when so many rounds of each loop are over. -/
def casesTo (l : Int) (sb sc se x y z e : Nat) : List Brk := casesA l sb sc se x ++ (casesB l sc se x y ++ (casesC l se x y z ++ casesE l x y z e))

theorem casesTo_snoc (l : Int) (sb sc se x y z e : Nat) : casesTo l sb sc se x y z (e + 1) = casesTo l sb sc se x y z e ++ [⟨l, x, y, z, e⟩] := by
  simp [casesTo, casesE_succ]

theorem casesTo_e (l : Int) (sb sc se x y z : Nat) : casesTo l sb sc se x y z se = casesTo l sb sc se x y (z + 1) 0 := by
  simp [casesTo, casesC_succ, casesE]
theorem casesTo_c (l : Int) (sb sc se x y : Nat) : casesTo l sb sc se x y sc 0 = casesTo l sb sc se x (y + 1) 0 0 := by
  simp [casesTo, casesB_succ, casesE, casesC]
theorem casesTo_b (l : Int) (sb sc se x : Nat) : casesTo l sb sc se x sb 0 0 = casesTo l sb sc se (x + 1) 0 0 0 := by
  simp [casesTo, casesA_succ, casesE, casesC, casesB]
theorem casesTo_0 (l : Int) (sb sc se : Nat) : casesTo l sb sc se 0 0 0 0 = [] := by
  simp [casesTo, casesA, casesE, casesC, casesB]
theorem casesTo_a (l : Int) (sb sc se x : Nat) : casesTo l sb sc se x 0 0 0 = casesA l sb sc se x := by
  simp [casesTo, casesE, casesC, casesB]

theorem casesTo_pre (l : Int) {sa sb sc se x y z e : Nat} (hx : x < sa) (hy : y < sb) (hz : z < sc) (he : e ≤ se) : casesTo l sb sc se x y z e <+: casesA l sb sc se sa := by
  refine List.IsPrefix.trans ?_ (casesA_pre l sb sc se (show x + 1 ≤ sa from hx))
  rw [casesA_succ]
  unfold casesTo
  refine (List.prefix_append_right_inj _).2 ?_
  refine List.IsPrefix.trans ?_ (casesB_pre l sc se x (show y + 1 ≤ sb from hy))
  rw [casesB_succ]
  refine (List.prefix_append_right_inj _).2 ?_
  refine List.IsPrefix.trans ?_ (casesC_pre l se x y (show z + 1 ≤ sc from hz))
  rw [casesC_succ]
  exact (List.prefix_append_right_inj _).2 (casesE_pre l x y z he)

theorem casesTo_mem (l : Int) {sa sb sc se x y z e : Nat} (hx : x < sa) (hy : y < sb) (hz : z < sc) (he : e < se) : (⟨l, x, y, z, e⟩ : Brk) ∈ casesA l sb sc se sa := by
  have h := casesTo_pre l hx hy hz (show e + 1 ≤ se from he)
  rw [casesTo_snoc] at h
  exact h.subset (by simp)

theorem casesTo_len (l : Int) {sa sb sc se x y z e : Nat} (hx : x < sa) (hy : y < sb) (hz : z < sc) (he : e < se) : (casesTo l sb sc se x y z e).length < (casesA l sb sc se sa).length := by
  have h := (casesTo_pre l hx hy hz (show e + 1 ≤ se from he)).length_le
  rw [casesTo_snoc] at h
  simp at h
  omega

theorem mem_casesA {l : Int} {sa sb sc se : Nat} {b : Brk} (h : b ∈ casesA l sb sc se sa) : b.law = l ∧ (0 ≤ b.a ∧ b.a < sa) ∧ (0 ≤ b.b ∧ b.b < sb) ∧ (0 ≤ b.c ∧ b.c < sc) ∧ (0 ≤ b.e ∧ b.e < se) := by
  simp only [casesA, casesB, casesC, casesE, List.mem_flatMap, List.mem_map, List.mem_range] at h
  obtain ⟨x, hx, y, hy, z, hz, e, he, rfl⟩ := h
  exact ⟨rfl, by simp only; omega, by simp only; omega, by simp only; omega, by simp only; omega⟩

end Go.Proofs.Ytjhkadffaephmaa
