/-
  algebra.holds, at whatever law.
-/
import Derived.Test.YtjhkadffaephmaaHoldsA
import Derived.Test.YtjhkadffaephmaaHoldsB
import Derived.Test.YtjhkadffaephmaaHoldsC
namespace Go.Proofs.Ytjhkadffaephmaa
open Go.RowKit

theorem holds_any (a : AlgM) (g : a.alg.Good) (x : Brk) (f : a.alg.Fits x) (n : Nat) (w : World) (h : a.In n w) (hn : n ≤ w.heap.size) :
    Calls Try.prog 64 #[a.val, x.val] w fun e w' => e = .returned (.bool (a.alg.holds x)) ∧ Below w.heap.size w w' := by
  have l0 := f.l0
  have l1 := f.l1
  have hc : x.law = 1 ∨ x.law = 2 ∨ x.law = 3 ∨ x.law = 4 ∨ x.law = 5 ∨ x.law = 6 ∨ x.law = 7 ∨ x.law = 8 ∨ x.law = 9 := by omega
  rcases hc with hl | hl | hl | hl | hl | hl | hl | hl | hl
  · exact holds_1 a g x f n w h hn hl
  · exact holds_2 a g x f n w h hn hl
  · cases hg : (a.alg.B.get x.a x.b == x.a)
    · exact holds_3f a g x f n w h hn hl hg
    · exact holds_3t a g x f n w h hn hl hg
  · exact holds_4 a g x f n w h hn hl
  · exact holds_5 a g x f n w h hn hl
  · exact holds_6 a g x f n w h hn hl
  · exact holds_7 a g x f n w h hn hl
  · cases hg : (x.a == a.size - 1)
    · cases hg2 : (a.alg.B.get x.a (a.alg.E.get x.e x.a) == x.a)
      · exact holds_8f a g x f n w h hn hl hg hg2
      · exact holds_8g a g x f n w h hn hl hg hg2
    · exact holds_8t a g x f n w h hn hl hg
  · exact holds_9 a g x f n w h hn hl

end Go.Proofs.Ytjhkadffaephmaa
