/-
  algebra.Check: what it answers, at every algebra.
-/
import Derived.Test.YtjhkadffaephmaaMem
namespace Go.Proofs.Ytjhkadffaephmaa
open Go.RowKit

/-- An algebra in memory. -/
structure AlgM where
  size : Int
  B : Mat
  E : Mat

def AlgM.val (a : AlgM) : Value := .agg #[.int .i64 a.size, a.B.val, a.E.val]
def AlgM.alg (a : AlgM) : Alg := ⟨a.size, a.B.t, a.E.t⟩

structure AlgM.In (a : AlgM) (n : Nat) (w : World) : Prop where
  B : a.B.In n w
  E : a.E.In n w

theorem AlgM.In.below {a : AlgM} {n k : Nat} {w w' : World} (h : a.In n w) (hb : Below k w w') (hk : n ≤ k) : a.In n w' := ⟨h.B.below hb hk, h.E.below hb hk⟩
theorem AlgM.In.mono {a : AlgM} {n k : Nat} {w : World} (h : a.In n w) (hk : n ≤ k) : a.In k w := ⟨h.B.mono hk, h.E.mono hk⟩

theorem ret_int {k : IntKind} {a b : Int} (h : a = b) : Ending.returned (.int k a) = .returned (.int k b) := by rw [h]

set_option maxHeartbeats 1000000 in
theorem check_any (a : AlgM) (n : Nat) (w : World) (h : a.In n w) (hn : n ≤ w.heap.size) :
    Calls Try.prog 22 #[a.val] w fun e w' => e = .returned (.int .i64 a.alg.check) ∧ Below w.heap.size w w' := by
  have hb0 : ∀ o, Below w.heap.size w (w.alloc o) := fun o => (Below.refl _ _).alloc (Nat.le_refl _) _
  have hB : ∀ o, a.B.In n (w.alloc o) := fun o => h.B.below (hb0 o) hn
  have hE : ∀ o, a.E.In n (w.alloc o) := fun o => h.E.below (hb0 o) hn
  have hEl := h.E.len
  have hBl := h.B.len
  unfold maxLen at hEl hBl
  obtain ⟨size, B, E⟩ := a
  simp only [AlgM.val, AlgM.alg] at *
  by_cases h1 : size < 2
  · have hfin := hide (show Alg.check ⟨size, B.t, E.t⟩ = 3 by simp [Alg.check, h1])
    simp only [Mat.val]
    go_enter Try.func22, Try.ntmps22
    go_wp2
    go_ret
    exact ⟨by rw [hfin.out]; rfl, hb0 _⟩
  by_cases h2 : 24 < size
  · have hfin := hide (show Alg.check ⟨size, B.t, E.t⟩ = 3 by simp [Alg.check, h2])
    simp only [Mat.val]
    go_enter Try.func22, Try.ntmps22
    go_wp2
    go_ret
    exact ⟨by rw [hfin.out]; rfl, hb0 _⟩
  by_cases h3 : 8 < E.t.len
  · have hfin := hide (show Alg.check ⟨size, B.t, E.t⟩ = 2 by simp [Alg.check, h1, h2, h3])
    have h3' : (8 : Int) < (E.t.len : Int) := by omega
    simp only [Mat.val]
    go_enter Try.func22, Try.ntmps22
    go_wp2
    go_ret
    exact ⟨by rw [hfin.out]; rfl, hb0 _⟩
  have h3' : (E.t.len : Int) ≤ 8 := by omega
  have hck : Alg.check ⟨size, B.t, E.t⟩ = if (((B.t.len : Int) == size) && B.t.wide size && E.t.wide size) = false then 1 else if (B.t.routes size && E.t.routes size) = false then 5 else 0 := by
    simp [Alg.check, Alg.formOk, Alg.routesOk, h1, h2, h3]
  have Hck := hide hck
  clear hck
  by_cases h4 : (B.t.len : Int) = size
  · have h4' : ((B.t.len : Int) != size) = false := by simp [h4]
    have H4 := hide h4
    clear h4
    simp only [Mat.val]
    go_enter Try.func22, Try.ntmps22
    go_wp2_with fail
    go_at_call 59
    refine (allWide_any B size n _ (hB _)).mono ?_
    rintro e w' ⟨rfl, rfl⟩
    cases hw1 : B.t.wide size
    · have hfin := hide (show Alg.check ⟨size, B.t, E.t⟩ = 1 by rw [Hck.out]; simp [hw1])
      go_wp2
      go_ret
      exact ⟨by rw [hfin.out]; rfl, hb0 _⟩
    go_wp2_with fail
    go_at_call 59
    refine (allWide_any E size n _ (hE _)).mono ?_
    rintro e w' ⟨rfl, rfl⟩
    cases hw2 : E.t.wide size
    · have hfin := hide (show Alg.check ⟨size, B.t, E.t⟩ = 1 by rw [Hck.out]; simp [hw2])
      go_wp2
      go_ret
      exact ⟨by rw [hfin.out]; rfl, hb0 _⟩
    go_wp2_with fail
    go_at_call 60
    refine (allRoutes_any B size n _ (hB _)).mono ?_
    rintro e w' ⟨rfl, rfl⟩
    cases hw3 : B.t.routes size
    · have hfin := hide (show Alg.check ⟨size, B.t, E.t⟩ = 5 by rw [Hck.out]; simp [hw1, hw2, hw3, H4.out])
      go_wp2
      go_ret
      exact ⟨by rw [hfin.out]; rfl, hb0 _⟩
    go_wp2_with fail
    go_at_call 60
    refine (allRoutes_any E size n _ (hE _)).mono ?_
    rintro e w' ⟨rfl, rfl⟩
    cases hw4 : E.t.routes size
    · have hfin := hide (show Alg.check ⟨size, B.t, E.t⟩ = 5 by rw [Hck.out]; simp [hw1, hw2, hw4, H4.out])
      go_wp2
      go_ret
      exact ⟨by rw [hfin.out]; rfl, hb0 _⟩
    have hfin := hide (show Alg.check ⟨size, B.t, E.t⟩ = 0 by rw [Hck.out]; simp [hw1, hw2, hw3, hw4, H4.out])
    go_wp2
    go_ret
    exact ⟨by rw [hfin.out]; rfl, hb0 _⟩
  · have hfin := hide (show Alg.check ⟨size, B.t, E.t⟩ = 1 by rw [Hck.out]; simp [h4])
    have h4' : ((B.t.len : Int) != size) = true := by simp [h4]
    clear Hck
    simp only [Mat.val]
    go_enter Try.func22, Try.ntmps22
    go_wp2
    go_ret
    exact ⟨by rw [hfin.out]; rfl, hb0 _⟩

end Go.Proofs.Ytjhkadffaephmaa
