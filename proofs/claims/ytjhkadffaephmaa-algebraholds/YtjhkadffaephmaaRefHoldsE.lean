/-
  signpostref.HoldsOf, at whatever law.
-/
import Derived.Test.YtjhkadffaephmaaRefHoldsA
import Derived.Test.YtjhkadffaephmaaRefHoldsB
import Derived.Test.YtjhkadffaephmaaRefHoldsC
import Derived.Test.YtjhkadffaephmaaRefHoldsD
namespace Go.Proofs.Ytjhkadffaephmaa
open Go.RowKit

theorem refHolds_any (a : AlgM) (g : a.alg.Good) (x : Brk) (f : a.alg.Fits x) (w : World) (h : a.In w.heap.size w) :
    Calls Try.prog 25 #[a.val, x.val] w fun e w' => e = .returned (.bool (a.alg.holds x)) ∧ Below w.heap.size w w' := by
  have l0 := f.l0
  have l1 := f.l1
  have hc : x.law = 1 ∨ x.law = 2 ∨ x.law = 3 ∨ x.law = 4 ∨ x.law = 5 ∨ x.law = 6 ∨ x.law = 7 ∨ x.law = 8 ∨ x.law = 9 := by omega
  rcases hc with hl | hl | hl | hl | hl | hl | hl | hl | hl
  · exact refHolds_1 a g x f w h hl
  · exact refHolds_2 a g x f w h hl
  · cases hg : (a.alg.B.get x.a x.b == x.a)
    · exact refHolds_3f a g x f w h hl hg
    · exact refHolds_3t a g x f w h hl hg
  · exact refHolds_4 a g x f w h hl
  · exact refHolds_5 a g x f w h hl
  · exact refHolds_6 a g x f w h hl
  · exact refHolds_7 a g x f w h hl
  · cases hg : (x.a == a.size - 1)
    · cases hg2 : (a.alg.E.get x.e x.a != x.a)
      · exact refHolds_8f a g x f w h hl hg hg2
      · exact refHolds_8g a g x f w h hl hg hg2
    · exact refHolds_8t a g x f w h hl hg
  · exact refHolds_9 a g x f w h hl

end Go.Proofs.Ytjhkadffaephmaa
