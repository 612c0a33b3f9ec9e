/-
  signpostlaw.algebraBegun: it answers true.
-/
import Derived.Test.YtjhkadffaephmaaHops
namespace Go.Proofs.Ytjhkadffaephmaa
open Go.RowKit

theorem blk5 {W : World} {B : Nat} {t : TypeId} {x : Brk} (h : Blk W B x.cells t) : W.cell? ⟨B, 0, none⟩ = some (.int .i64 x.law) ∧ W.cell? ⟨B, 1, none⟩ = some (.int .i64 x.a) ∧ W.cell? ⟨B, 2, none⟩ = some (.int .i64 x.b) ∧ W.cell? ⟨B, 3, none⟩ = some (.int .i64 x.c) ∧ W.cell? ⟨B, 4, none⟩ = some (.int .i64 x.e) :=
  ⟨h.cell 0, h.cell 1, h.cell 2, h.cell 3, h.cell 4⟩

set_option maxHeartbeats 4000000 in
theorem begun_any (w : World) :
    Calls Try.prog 21 #[] w fun e w' => e = .returned (.bool true) ∧ Below w.heap.size w w' := by
  go_enter Try.func21, Try.ntmps21
  go_wp2_with fail
  go_at_call 58
  refine (hops_any _).mono ?_
  rintro e w1 ⟨rfl, hI1, hb1⟩
  go_wp2_with fail
  go_at_call 15
  refine (laws_any (hopsM w.heap.size) _ hI1).mono ?_
  rintro e w2 ⟨rfl, hb2⟩
  rw [show Alg.tell (hopsM w.heap.size).alg [1, 2, 3, 4, 5, 6, 7] = Brk.none from hops_laws, show (hopsM w.heap.size).alg.check = 0 from hops_check]
  have hB2 := hb1.trans (hb2.mono hb1.size)
  clear hI1 hb1 hb2
  simp only [Brk.val, Brk.none]
  have bL := Blk.new w2 #[.int .i64 0, .int .i64 0, .int .i64 0, .int .i64 0, .int .i64 0] 26
  have hB3 := hB2.alloc hB2.size (.cells #[.int .i64 0, .int .i64 0, .int .i64 0, .int .i64 0, .int .i64 0] 26)
  go_wp2_with fail
  go_at_call 58
  refine (hops_any _).mono ?_
  rintro e w3 ⟨rfl, hI3, hb3⟩
  have bL3 := bL.below hb3 bL.lt
  have hB4 := hB3.trans (hb3.mono hB3.size)
  clear hB2 hB3 hb3 bL
  have hn : (w2.alloc (.cells #[.int .i64 0, .int .i64 0, .int .i64 0, .int .i64 0, .int .i64 0] 26)).heap.size = w2.heap.size + 1 := by simp
  rw [hn] at hI3 ⊢
  generalize w2.heap.size + 1 = n at *
  have hIB := hI3.B
  clear hI3
  simp only [hopsM, AlgM.val, Mat.val, hopsBM, hopsEM, hopsB, hopsE]
  go_wp2_with fail
  have hBa : Below w3.heap.size w3 (((w3.alloc (.cells #[.int .i64 3, .slice (some ⟨n + 4, 0, none⟩) 3 3, .slice (some ⟨w3.heap.size + 1 + 1, 0, none⟩) 1 1] 24)).alloc (.cells #[.int .i64 0, .int .i64 1, .int .i64 2] 3)).alloc (.cells #[.slice (some ⟨w3.heap.size + 1, 0, none⟩) 3 3] 32)) :=
    (((Below.refl _ w3).alloc (Nat.le_refl _) _).alloc (by simp) _).alloc (by simp; omega) _
  have bX : Blk (((w3.alloc (.cells #[.int .i64 3, .slice (some ⟨n + 4, 0, none⟩) 3 3, .slice (some ⟨w3.heap.size + 1 + 1, 0, none⟩) 1 1] 24)).alloc (.cells #[.int .i64 0, .int .i64 1, .int .i64 2] 3)).alloc (.cells #[.slice (some ⟨w3.heap.size + 1, 0, none⟩) 3 3] 32)) w3.heap.size #[.int .i64 3, .slice (some ⟨n + 4, 0, none⟩) 3 3, .slice (some ⟨w3.heap.size + 1 + 1, 0, none⟩) 1 1] 24 :=
    ((Blk.new w3 _ _).alloc _).alloc _
  have hIX : AlgM.In ⟨3, hopsBM n, idEM (w3.heap.size + 1)⟩ (((w3.alloc (.cells #[.int .i64 3, .slice (some ⟨n + 4, 0, none⟩) 3 3, .slice (some ⟨w3.heap.size + 1 + 1, 0, none⟩) 1 1] 24)).alloc (.cells #[.int .i64 0, .int .i64 1, .int .i64 2] 3)).alloc (.cells #[.slice (some ⟨w3.heap.size + 1, 0, none⟩) 3 3] 32)).heap.size (((w3.alloc (.cells #[.int .i64 3, .slice (some ⟨n + 4, 0, none⟩) 3 3, .slice (some ⟨w3.heap.size + 1 + 1, 0, none⟩) 1 1] 24)).alloc (.cells #[.int .i64 0, .int .i64 1, .int .i64 2] 3)).alloc (.cells #[.slice (some ⟨w3.heap.size + 1, 0, none⟩) 3 3] 32)) := by
    refine ⟨(hIB.below hBa (Nat.le_refl _)).mono hBa.size, idEM_in ?_ ?_ (by simp)⟩
    all_goals repeat (first | exact Blk.new' (by simp) | refine Blk.alloc ?_ _)
  have hcs := strict_any ⟨3, hopsBM n, idEM (w3.heap.size + 1)⟩ _ hIX
  rw [show Alg.tell (AlgM.alg ⟨3, hopsBM n, idEM (w3.heap.size + 1)⟩) [8] = ⟨8, 0, 0, 0, 0⟩ from id_strict, show Alg.check (AlgM.alg ⟨3, hopsBM n, idEM (w3.heap.size + 1)⟩) = 0 from id_check] at hcs
  have bL4 := bL3.below hBa bL3.lt
  have hB5 := hB4.trans (hBa.mono hB4.size)
  have HCS := hide hcs
  clear hcs hIB hBa hB4 bL3
  go_at_call 16
  refine HCS.out.mono ?_
  rintro e w4 ⟨rfl, hb4⟩
  have bX4 := bX.below hb4 bX.lt
  have bL5 := bL4.below hb4 bL4.lt
  have hI4 := (hIX.below hb4 (Nat.le_refl _)).mono hb4.size
  have hB6 := hB5.trans (hb4.mono hB5.size)
  clear HCS hb4 bX bL4 hIX hB5
  simp only [Brk.val]
  have hBn : Below w4.heap.size w4 (w4.alloc (.cells #[.int .i64 8, .int .i64 0, .int .i64 0, .int .i64 0, .int .i64 0] 26)) := (Below.refl _ _).alloc (Nat.le_refl _) _
  have bC := Blk.new w4 #[.int .i64 8, .int .i64 0, .int .i64 0, .int .i64 0, .int .i64 0] 26
  have bX5 := bX4.below hBn bX4.lt
  have bL6 := bL5.below hBn bL5.lt
  have hI5 := (hI4.below hBn (Nat.le_refl _)).mono hBn.size
  have hB7 := hB6.trans (hBn.mono hB6.size)
  have hx0 := bX5.cell 0
  have hx1 := bX5.cell 1
  have hx2 := bX5.cell 2
  simp at hx0 hx1 hx2
  have hch := holdsE_law ⟨3, hopsBM n, idEM (w3.heap.size + 1)⟩ ⟨8, 0, 0, 0, 0⟩ _ hI5 id_check (by decide) (by decide)
  rw [show Alg.fitsB (AlgM.alg ⟨3, hopsBM n, idEM (w3.heap.size + 1)⟩) ⟨8, 0, 0, 0, 0⟩ = true from id_fits, show Alg.holds (AlgM.alg ⟨3, hopsBM n, idEM (w3.heap.size + 1)⟩) ⟨8, 0, 0, 0, 0⟩ = false from id_holds] at hch
  have HCH := hide hch
  clear hch hBn bX4 bL5 hI4 hB6
  go_wp2_with fail
  go_at_call 23
  refine HCH.out.mono ?_
  rintro e w5 ⟨rfl, hb5⟩
  have bL7 := bL6.below hb5 bL6.lt
  have bC7 := bC.below hb5 bC.lt
  have hB8 := hB7.trans (hb5.mono hB7.size)
  clear hb5 bC bL6 hB7 HCH hI5 bX5 hx0 hx1 hx2
  go_wp2_with fail
  go_at_call 58
  refine (hops_any _).mono ?_
  rintro e w6 ⟨rfl, hI6, hb6⟩
  have bL8 := bL7.below hb6 bL7.lt
  have bC8 := bC7.below hb6 bC7.lt
  have hB9 := hB8.trans (hb6.mono hB8.size)
  clear hb6 bC7 bL7 hB8
  have hck := check_any (hopsM w5.heap.size) _ _ hI6 (Nat.le_refl _)
  rw [show Alg.check (hopsM w5.heap.size).alg = 0 from hops_check] at hck
  have HCK := hide hck
  clear hck
  go_wp2_with fail
  go_at_call 22
  refine HCK.out.mono ?_
  rintro e w7 ⟨rfl, hb7⟩
  have bL9 := bL8.below hb7 bL8.lt
  have bC9 := bC8.below hb7 bC8.lt
  have hBA := hB9.trans (hb7.mono hB9.size)
  have hl0 := bL9.cell 0
  have hc0 := bC9.cell 0
  simp at hl0 hc0
  clear HCK hb7 bL8 bC8 hI6 hB9
  go_wp2
  go_ret
  exact ⟨rfl, hBA⟩

end Go.Proofs.Ytjhkadffaephmaa
