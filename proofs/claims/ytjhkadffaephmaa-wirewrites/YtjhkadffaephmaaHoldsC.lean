/-
  algebra.holds at the laws 8 and 9.
-/
import Derived.Test.YtjhkadffaephmaaHolds
namespace Go.Proofs.Ytjhkadffaephmaa
open Go.RowKit

set_option maxHeartbeats 2000000 in
theorem holds_8f (a : AlgM) (g : a.alg.Good) (x : Brk) (f : a.alg.Fits x) (n : Nat) (w : World) (h : a.In n w) (hn : n ≤ w.heap.size) (hl : x.law = 8) (hg : (x.a == a.size - 1) = false) (hg2 : (a.alg.B.get x.a (a.alg.E.get x.e x.a) == x.a) = false) :
    Calls Try.prog 64 #[a.val, x.val] w fun e w' => e = .returned (.bool (a.alg.holds x)) ∧ Below w.heap.size w w' := by
  have s0 : 2 ≤ a.size := g.lo
  have s1 : a.size ≤ 24 := g.hi
  have a0 := f.a0
  have a1 : x.a < a.size := f.a_lt g
  have b0 := f.b0
  have b1 : x.b < a.size := f.b_lt g
  have c0 := f.c0
  have c1 : x.c < a.size := f.c_lt g
  have e0 := f.e0
  have e1 : x.e < a.E.t.len := f.e_lt (by omega)
  have Hfin := hide (show a.alg.holds x = false by simp only [Alg.holds, hl]; rw [hg2]; simpa [AlgM.alg] using hg)
  clear f
  obtain ⟨l, xa, xb, xc, xe⟩ := x
  simp only at hl a0 a1 b0 b1 c0 c1 e0 e1 Hfin hg hg2
  subst hl
  have q1 : 0 ≤ a.alg.E.get xe xa ∧ a.alg.E.get xe xa < a.size := g.edge (by first | omega | assumption) (by first | omega | assumption) (by first | omega | assumption) (by first | omega | assumption)
  simp only [AlgM.val, Brk.val]
  go_enter Try.func64, Try.ntmps64
  go_wp2
  go_quiet ((first | (go_at_call 103; exact Calls.quiet_of_same (best_any a g w.heap.size _ _ n _ (frame_in h hn _ _ _) (frame_cell1 _ _ _ _ _ _ _) (by first | omega | assumption) (by first | omega | assumption) (by first | omega | assumption) (by first | omega | assumption))) | (go_at_call 104; exact Calls.quiet_of_same (edge_any a g w.heap.size (w.heap.size + 1) xe _ n _ (frame_in h hn _ _ _) (frame_cell2 _ _ _ _ _ _ _) (frame_edge _ _ _ _ _ _ _ _ _) (by first | omega | assumption) (by first | omega | assumption) (by first | omega | assumption) (by first | omega | assumption)))))
  go_wp2
  go_ret
  exact ⟨by rw [Hfin.out]; rfl, frame_below w _ _ _⟩

set_option maxHeartbeats 2000000 in
theorem holds_8g (a : AlgM) (g : a.alg.Good) (x : Brk) (f : a.alg.Fits x) (n : Nat) (w : World) (h : a.In n w) (hn : n ≤ w.heap.size) (hl : x.law = 8) (hg : (x.a == a.size - 1) = false) (hg2 : (a.alg.B.get x.a (a.alg.E.get x.e x.a) == x.a) = true) :
    Calls Try.prog 64 #[a.val, x.val] w fun e w' => e = .returned (.bool (a.alg.holds x)) ∧ Below w.heap.size w w' := by
  have s0 : 2 ≤ a.size := g.lo
  have s1 : a.size ≤ 24 := g.hi
  have a0 := f.a0
  have a1 : x.a < a.size := f.a_lt g
  have b0 := f.b0
  have b1 : x.b < a.size := f.b_lt g
  have c0 := f.c0
  have c1 : x.c < a.size := f.c_lt g
  have e0 := f.e0
  have e1 : x.e < a.E.t.len := f.e_lt (by omega)
  have Hfin := hide (show a.alg.holds x = (a.alg.E.get x.e x.a != x.a) by simp only [Alg.holds, hl]; rw [hg2]; have hg' : (x.a == a.alg.size - 1) = false := hg; rw [hg']; simp)
  clear f
  obtain ⟨l, xa, xb, xc, xe⟩ := x
  simp only at hl a0 a1 b0 b1 c0 c1 e0 e1 Hfin hg hg2
  subst hl
  have q1 : 0 ≤ a.alg.E.get xe xa ∧ a.alg.E.get xe xa < a.size := g.edge (by first | omega | assumption) (by first | omega | assumption) (by first | omega | assumption) (by first | omega | assumption)
  simp only [AlgM.val, Brk.val]
  go_enter Try.func64, Try.ntmps64
  go_wp2
  go_quiet ((first | (go_at_call 103; exact Calls.quiet_of_same (best_any a g w.heap.size _ _ n _ (frame_in h hn _ _ _) (frame_cell1 _ _ _ _ _ _ _) (by first | omega | assumption) (by first | omega | assumption) (by first | omega | assumption) (by first | omega | assumption))) | (go_at_call 104; exact Calls.quiet_of_same (edge_any a g w.heap.size (w.heap.size + 1) xe _ n _ (frame_in h hn _ _ _) (frame_cell2 _ _ _ _ _ _ _) (frame_edge _ _ _ _ _ _ _ _ _) (by first | omega | assumption) (by first | omega | assumption) (by first | omega | assumption) (by first | omega | assumption)))))
  go_wp2
  go_ret
  exact ⟨by rw [Hfin.out]; rfl, frame_below w _ _ _⟩

set_option maxHeartbeats 2000000 in
theorem holds_9 (a : AlgM) (g : a.alg.Good) (x : Brk) (f : a.alg.Fits x) (n : Nat) (w : World) (h : a.In n w) (hn : n ≤ w.heap.size) (hl : x.law = 9) :
    Calls Try.prog 64 #[a.val, x.val] w fun e w' => e = .returned (.bool (a.alg.holds x)) ∧ Below w.heap.size w w' := by
  have s0 : 2 ≤ a.size := g.lo
  have s1 : a.size ≤ 24 := g.hi
  have a0 := f.a0
  have a1 : x.a < a.size := f.a_lt g
  have b0 := f.b0
  have b1 : x.b < a.size := f.b_lt g
  have c0 := f.c0
  have c1 : x.c < a.size := f.c_lt g
  have e0 := f.e0
  have e1 : x.e < a.E.t.len := f.e_lt (by omega)
  have Hfin := hide (show a.alg.holds x = (a.alg.E.get x.e (a.alg.B.get x.a x.b) == a.alg.B.get (a.alg.E.get x.e x.a) (a.alg.E.get x.e x.b)) by simp [Alg.holds, hl])
  clear f
  obtain ⟨l, xa, xb, xc, xe⟩ := x
  simp only at hl a0 a1 b0 b1 c0 c1 e0 e1 Hfin
  subst hl
  have q1 : 0 ≤ a.alg.E.get xe xa ∧ a.alg.E.get xe xa < a.size := g.edge (by first | omega | assumption) (by first | omega | assumption) (by first | omega | assumption) (by first | omega | assumption)
  have q2 : 0 ≤ a.alg.E.get xe xb ∧ a.alg.E.get xe xb < a.size := g.edge (by first | omega | assumption) (by first | omega | assumption) (by first | omega | assumption) (by first | omega | assumption)
  have q3 : 0 ≤ a.alg.B.get xa xb ∧ a.alg.B.get xa xb < a.size := g.best (by first | omega | assumption) (by first | omega | assumption) (by first | omega | assumption) (by first | omega | assumption)
  simp only [AlgM.val, Brk.val]
  go_enter Try.func64, Try.ntmps64
  go_wp2
  go_quiet ((first | (go_at_call 103; exact Calls.quiet_of_same (best_any a g w.heap.size _ _ n _ (frame_in h hn _ _ _) (frame_cell1 _ _ _ _ _ _ _) (by first | omega | assumption) (by first | omega | assumption) (by first | omega | assumption) (by first | omega | assumption))) | (go_at_call 104; exact Calls.quiet_of_same (edge_any a g w.heap.size (w.heap.size + 1) xe _ n _ (frame_in h hn _ _ _) (frame_cell2 _ _ _ _ _ _ _) (frame_edge _ _ _ _ _ _ _ _ _) (by first | omega | assumption) (by first | omega | assumption) (by first | omega | assumption) (by first | omega | assumption)))))
  go_wp2
  go_ret
  exact ⟨by rw [Hfin.out]; rfl, frame_below w _ _ _⟩

end Go.Proofs.Ytjhkadffaephmaa
