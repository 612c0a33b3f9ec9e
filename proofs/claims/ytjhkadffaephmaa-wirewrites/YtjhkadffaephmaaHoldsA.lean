/-
  algebra.holds at the laws 2 to 4.
-/
import Derived.Test.YtjhkadffaephmaaHolds
namespace Go.Proofs.Ytjhkadffaephmaa
open Go.RowKit

set_option maxHeartbeats 2000000 in
theorem holds_2 (a : AlgM) (g : a.alg.Good) (x : Brk) (f : a.alg.Fits x) (n : Nat) (w : World) (h : a.In n w) (hn : n ≤ w.heap.size) (hl : x.law = 2) :
    Calls Try.prog 64 #[a.val, x.val] w fun e w' => e = .returned (.bool (a.alg.holds x)) ∧ Below w.heap.size w w' := by
  have s0 : 2 ≤ a.size := g.lo
  have s1 : a.size ≤ 24 := g.hi
  have a0 := f.a0
  have a1 : x.a < a.size := f.a_lt g
  have b0 := f.b0
  have b1 : x.b < a.size := f.b_lt g
  have c0 := f.c0
  have c1 : x.c < a.size := f.c_lt g
  have Hfin := hide (show a.alg.holds x = (a.alg.B.get x.a (a.alg.B.get x.b x.c) == a.alg.B.get (a.alg.B.get x.a x.b) x.c) by simp [Alg.holds, hl])
  clear f
  obtain ⟨l, xa, xb, xc, xe⟩ := x
  simp only at hl a0 a1 b0 b1 c0 c1 Hfin
  subst hl
  have q1 : 0 ≤ a.alg.B.get xb xc ∧ a.alg.B.get xb xc < a.size := g.best (by first | omega | assumption) (by first | omega | assumption) (by first | omega | assumption) (by first | omega | assumption)
  have q2 : 0 ≤ a.alg.B.get xa xb ∧ a.alg.B.get xa xb < a.size := g.best (by first | omega | assumption) (by first | omega | assumption) (by first | omega | assumption) (by first | omega | assumption)
  simp only [AlgM.val, Brk.val]
  go_enter Try.func64, Try.ntmps64
  go_wp2
  go_quiet ((go_at_call 103; exact Calls.quiet_of_same (best_any a g w.heap.size _ _ n _ (frame_in h hn _ _ _) (frame_cell1 _ _ _ _ _ _ _) (by first | omega | assumption) (by first | omega | assumption) (by first | omega | assumption) (by first | omega | assumption))))
  go_wp2
  go_ret
  exact ⟨by rw [Hfin.out]; rfl, frame_below w _ _ _⟩

set_option maxHeartbeats 2000000 in
theorem holds_3t (a : AlgM) (g : a.alg.Good) (x : Brk) (f : a.alg.Fits x) (n : Nat) (w : World) (h : a.In n w) (hn : n ≤ w.heap.size) (hl : x.law = 3) (hg : (a.alg.B.get x.a x.b == x.a) = true) :
    Calls Try.prog 64 #[a.val, x.val] w fun e w' => e = .returned (.bool (a.alg.holds x)) ∧ Below w.heap.size w w' := by
  have s0 : 2 ≤ a.size := g.lo
  have s1 : a.size ≤ 24 := g.hi
  have a0 := f.a0
  have a1 : x.a < a.size := f.a_lt g
  have b0 := f.b0
  have b1 : x.b < a.size := f.b_lt g
  have c0 := f.c0
  have c1 : x.c < a.size := f.c_lt g
  have Hfin := hide (show a.alg.holds x = true by simp [Alg.holds, hl, hg])
  clear f
  obtain ⟨l, xa, xb, xc, xe⟩ := x
  simp only at hl a0 a1 b0 b1 c0 c1 Hfin hg
  subst hl
  simp only [AlgM.val, Brk.val]
  go_enter Try.func64, Try.ntmps64
  go_wp2
  go_quiet ((go_at_call 103; exact Calls.quiet_of_same (best_any a g w.heap.size _ _ n _ (frame_in h hn _ _ _) (frame_cell1 _ _ _ _ _ _ _) (by first | omega | assumption) (by first | omega | assumption) (by first | omega | assumption) (by first | omega | assumption))))
  go_wp2
  go_ret
  exact ⟨by rw [Hfin.out]; rfl, frame_below w _ _ _⟩

set_option maxHeartbeats 2000000 in
theorem holds_3f (a : AlgM) (g : a.alg.Good) (x : Brk) (f : a.alg.Fits x) (n : Nat) (w : World) (h : a.In n w) (hn : n ≤ w.heap.size) (hl : x.law = 3) (hg : (a.alg.B.get x.a x.b == x.a) = false) :
    Calls Try.prog 64 #[a.val, x.val] w fun e w' => e = .returned (.bool (a.alg.holds x)) ∧ Below w.heap.size w w' := by
  have s0 : 2 ≤ a.size := g.lo
  have s1 : a.size ≤ 24 := g.hi
  have a0 := f.a0
  have a1 : x.a < a.size := f.a_lt g
  have b0 := f.b0
  have b1 : x.b < a.size := f.b_lt g
  have c0 := f.c0
  have c1 : x.c < a.size := f.c_lt g
  have Hfin := hide (show a.alg.holds x = (a.alg.B.get x.a x.b == x.b) by simp [Alg.holds, hl, hg])
  clear f
  obtain ⟨l, xa, xb, xc, xe⟩ := x
  simp only at hl a0 a1 b0 b1 c0 c1 Hfin hg
  subst hl
  simp only [AlgM.val, Brk.val]
  go_enter Try.func64, Try.ntmps64
  go_wp2
  go_quiet ((go_at_call 103; exact Calls.quiet_of_same (best_any a g w.heap.size _ _ n _ (frame_in h hn _ _ _) (frame_cell1 _ _ _ _ _ _ _) (by first | omega | assumption) (by first | omega | assumption) (by first | omega | assumption) (by first | omega | assumption))))
  go_wp2
  go_ret
  exact ⟨by rw [Hfin.out]; rfl, frame_below w _ _ _⟩

set_option maxHeartbeats 2000000 in
theorem holds_4 (a : AlgM) (g : a.alg.Good) (x : Brk) (f : a.alg.Fits x) (n : Nat) (w : World) (h : a.In n w) (hn : n ≤ w.heap.size) (hl : x.law = 4) :
    Calls Try.prog 64 #[a.val, x.val] w fun e w' => e = .returned (.bool (a.alg.holds x)) ∧ Below w.heap.size w w' := by
  have s0 : 2 ≤ a.size := g.lo
  have s1 : a.size ≤ 24 := g.hi
  have a0 := f.a0
  have a1 : x.a < a.size := f.a_lt g
  have b0 := f.b0
  have b1 : x.b < a.size := f.b_lt g
  have c0 := f.c0
  have c1 : x.c < a.size := f.c_lt g
  have Hfin := hide (show a.alg.holds x = (a.alg.B.get 0 x.a == 0) by simp [Alg.holds, hl])
  clear f
  obtain ⟨l, xa, xb, xc, xe⟩ := x
  simp only at hl a0 a1 b0 b1 c0 c1 Hfin
  subst hl
  simp only [AlgM.val, Brk.val]
  go_enter Try.func64, Try.ntmps64
  go_wp2_with fail
  go_at_call 103; refine (best_any a g w.heap.size _ _ n _ (frame_in h hn _ _ 0) (frame_cell1 _ _ _ _ _ _ 0) (by first | omega | assumption) (by first | omega | assumption) (by first | omega | assumption) (by first | omega | assumption)).mono ?_
  rintro e w' ⟨rfl, rfl⟩
  go_wp2
  go_ret
  exact ⟨by rw [Hfin.out]; rfl, frame_below w _ _ 0⟩

end Go.Proofs.Ytjhkadffaephmaa
