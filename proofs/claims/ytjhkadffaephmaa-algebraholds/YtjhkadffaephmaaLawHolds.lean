/-
  signpostlaw.AlgebraHolds: the walk.
-/
import Derived.Test.YtjhkadffaephmaaLawTrue
import Derived.Test.YtjhkadffaephmaaRefCheckW
import Derived.Test.YtjhkadffaephmaaRefBroken
import Derived.Test.YtjhkadffaephmaaRefHoldsE
namespace Go.Proofs.Ytjhkadffaephmaa
set_option maxRecDepth 100000
open Go.RowKit

set_option maxHeartbeats 4000000 in
theorem lawHolds_any (a : AlgM) (b : Brk) (w : World) (h : a.In w.heap.size w) (hwf : (Lit.int .i64 b.law).wf = true) :
    Calls Try.prog 4 #[a.val, b.val] w fun e w' => e = .returned (.bool true) ∧ Below w.heap.size w w' := by
  have bA : Blk ((w.alloc (.cells #[.int .i64 a.size, a.B.val, a.E.val] 24)).alloc (.cells b.cells 26)) w.heap.size #[.int .i64 a.size, a.B.val, a.E.val] 24 := (Blk.new w _ _).alloc _
  have bB : Blk ((w.alloc (.cells #[.int .i64 a.size, a.B.val, a.E.val] 24)).alloc (.cells b.cells 26)) (w.heap.size + 1) b.cells 26 := Blk.new' (by simp)
  have hB0 : Below w.heap.size w ((w.alloc (.cells #[.int .i64 a.size, a.B.val, a.E.val] 24)).alloc (.cells b.cells 26)) := frame_below w _ _ 0
  have HH := hide (holdsE_any a b _ ((h.below hB0 (Nat.le_refl _)).mono hB0.size) hwf)
  have HB := hide (fun W (hc : a.alg.check = 0) => refBroken_any a b W hc)
  have HO := hide (fun W (hI : a.In W.heap.size W) (he : a.alg.holdsE b = 0) => refHolds_any a (Alg.good_of_check (fit_of_holdsE he).1) b (fit_of_holdsE he).2 W hI)
  have HC := hide (fun W (hI : a.In W.heap.size W) => refCheck_any a W hI)
  have p1 : Hid (a.alg.check ≠ 0 → a.alg.holdsE b = a.alg.check) := hide (fun hc => by unfold Alg.holdsE; rw [if_pos hc])
  have p2 : Hid (a.alg.holdsE b ≠ 0 → a.alg.holdsR b = false) := hide (fun he => by unfold Alg.holdsR; rw [if_neg he])
  have p3 : Hid (a.alg.holdsE b = 0 → a.alg.holdsR b = a.alg.holds b) := hide (fun he => by unfold Alg.holdsR; rw [if_pos he])
  generalize a.alg.check = ck at *
  generalize a.alg.holdsE b = he at *
  generalize a.alg.holdsR b = hr at *
  generalize a.alg.holds b = ho at *
  simp only [AlgM.val, Brk.val, Brk.cells] at *
  go_enter Try.func4, Try.ntmps4
  go_wp2_with fail
  go_at_call 23
  refine HH.out.mono ?_
  rintro e w1 ⟨rfl, hb1⟩
  have bA1 := bA.below hb1 bA.lt
  have bB1 := bB.below hb1 bB.lt
  have hB1 := hB0.trans (hb1.mono hB0.size)
  clear hb1 bA bB hB0 HH
  have x0 := bA1.cell 0
  have x1 := bA1.cell 1
  have x2 := bA1.cell 2
  simp at x0 x1 x2
  go_wp2_with fail
  go_at_call 18
  refine (HC.out _ ((h.below hB1 (Nat.le_refl _)).mono hB1.size)).mono ?_
  rintro e w2 ⟨rfl, hb2⟩
  have bA2 := bA1.below hb2 bA1.lt
  have bB2 := bB1.below hb2 bB1.lt
  have hB2 := hB1.trans (hb2.mono hB1.size)
  clear hb2 bA1 bB1 hB1 x0 x1 x2 HC
  by_cases hc : ck = 0
  · subst hc
    have x0 := bA2.cell 0
    have x1 := bA2.cell 1
    have x2 := bA2.cell 2
    have y0 := bB2.cell 0
    have y1 := bB2.cell 1
    have y2 := bB2.cell 2
    have y3 := bB2.cell 3
    have y4 := bB2.cell 4
    simp at x0 x1 x2 y0 y1 y2 y3 y4
    go_wp2_with fail
    go_at_call 24
    refine (HB.out _ (by trivial)).mono ?_
    rintro e w3 ⟨rfl, hb3⟩
    have bA3 := bA2.below hb3 bA2.lt
    have bB3 := bB2.below hb3 bB2.lt
    have hB3 := hB2.trans (hb3.mono hB2.size)
    clear hb3 bA2 bB2 hB2 x0 x1 x2 y0 y1 y2 y3 y4 HB
    by_cases h0 : he = 0
    · subst h0
      obtain rfl := p3.out rfl
      have x0 := bA3.cell 0
      have x1 := bA3.cell 1
      have x2 := bA3.cell 2
      have y0 := bB3.cell 0
      have y1 := bB3.cell 1
      have y2 := bB3.cell 2
      have y3 := bB3.cell 3
      have y4 := bB3.cell 4
      simp at x0 x1 x2 y0 y1 y2 y3 y4
      go_wp2_with fail
      go_at_call 25
      refine (HO.out _ ((h.below hB3 (Nat.le_refl _)).mono hB3.size) (by trivial)).mono ?_
      rintro e w4 ⟨rfl, hb4⟩
      have hB4 := hB3.trans (hb4.mono hB3.size)
      clear hb4 bA3 bB3 hB3 x0 x1 x2 y0 y1 y2 y3 y4 HO
      go_wp2_with fail
      go_at_call 21
      refine (begun_any _).mono ?_
      rintro e w5 ⟨rfl, hb5⟩
      have hB5 := hB4.trans (hb5.mono hB4.size)
      clear hb5
      go_wp2
      go_ret
      exact ⟨by simp, hB5⟩
    · have hne : ((he : Int) == 0) = false := by simp [h0]
      obtain rfl := p2.out h0
      go_wp2_with fail
      go_at_call 21
      refine (begun_any _).mono ?_
      rintro e w5 ⟨rfl, hb5⟩
      have hB5 := hB3.trans (hb5.mono hB3.size)
      clear hb5
      go_wp2
      go_ret
      exact ⟨by simp, hB5⟩
  · have hne : ((ck : Int) == 0) = false := by simp [hc]
    obtain rfl := p1.out hc
    obtain rfl := p2.out hc
    go_wp2_with fail
    go_at_call 21
    refine (begun_any _).mono ?_
    rintro e w5 ⟨rfl, hb5⟩
    have hB5 := hB2.trans (hb5.mono hB2.size)
    clear hb5
    go_wp2
    go_ret
    exact ⟨by simp, hB5⟩

end Go.Proofs.Ytjhkadffaephmaa
