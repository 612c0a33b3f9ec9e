/-
  algebra.holds at the laws 5 to 7, and 8 at the invalid route.
-/
import Derived.Test.YtjhkadffaephmaaHolds
namespace Go.Proofs.Ytjhkadffaephmaa
open Go.RowKit

set_option maxHeartbeats 2000000 in
theorem holds_5 (a : AlgM) (g : a.alg.Good) (x : Brk) (f : a.alg.Fits x) (n : Nat) (w : World) (h : a.In n w) (hn : n ≤ w.heap.size) (hl : x.law = 5) :
    Calls Try.prog 64 #[a.val, x.val] w fun e w' => e = .returned (.bool (a.alg.holds x)) ∧ Below w.heap.size w w' := by
  have s0 : 2 ≤ a.size := g.lo
  have s1 : a.size ≤ 24 := g.hi
  have a0 := f.a0
  have a1 : x.a < a.size := f.a_lt g
  have b0 := f.b0
  have b1 : x.b < a.size := f.b_lt g
  have c0 := f.c0
  have c1 : x.c < a.size := f.c_lt g
  have Hfin := hide (show a.alg.holds x = (a.alg.B.get (a.size - 1) x.a == x.a) by simp [Alg.holds, hl, AlgM.alg])
  clear f
  obtain ⟨l, xa, xb, xc, xe⟩ := x
  simp only at hl a0 a1 b0 b1 c0 c1 Hfin
  subst hl
  simp only [AlgM.val, Brk.val]
  go_enter Try.func64, Try.ntmps64
  go_wp2
  go_quiet ((go_at_call 103; exact Calls.quiet_of_same (best_any a g w.heap.size _ _ n _ (frame_in h hn _ _ _) (frame_cell1 _ _ _ _ _ _ _) (by first | omega | assumption) (by first | omega | assumption) (by first | omega | assumption) (by first | omega | assumption))))
  go_wp2
  go_ret
  exact ⟨by rw [Hfin.out]; rfl, frame_below w _ _ _⟩

set_option maxHeartbeats 2000000 in
theorem holds_6 (a : AlgM) (g : a.alg.Good) (x : Brk) (f : a.alg.Fits x) (n : Nat) (w : World) (h : a.In n w) (hn : n ≤ w.heap.size) (hl : x.law = 6) :
    Calls Try.prog 64 #[a.val, x.val] w fun e w' => e = .returned (.bool (a.alg.holds x)) ∧ Below w.heap.size w w' := by
  have s0 : 2 ≤ a.size := g.lo
  have s1 : a.size ≤ 24 := g.hi
  have a0 := f.a0
  have a1 : x.a < a.size := f.a_lt g
  have b0 := f.b0
  have b1 : x.b < a.size := f.b_lt g
  have c0 := f.c0
  have c1 : x.c < a.size := f.c_lt g
  have e0 := f.e0
  have e1 : x.e < a.E.t.len := f.e_lt (by omega)
  have Hfin := hide (show a.alg.holds x = (a.alg.E.get x.e (a.size - 1) == a.size - 1) by simp [Alg.holds, hl, AlgM.alg])
  clear f
  obtain ⟨l, xa, xb, xc, xe⟩ := x
  simp only at hl a0 a1 b0 b1 c0 c1 e0 e1 Hfin
  subst hl
  simp only [AlgM.val, Brk.val]
  go_enter Try.func64, Try.ntmps64
  go_wp2_with fail
  go_at_call 104; refine (edge_any a g w.heap.size (w.heap.size + 1) xe _ n _ (frame_in h hn _ _ 0) (frame_cell2 _ _ _ _ _ _ 0) (frame_edge _ _ _ _ _ _ _ _ 0) (by first | omega | assumption) (by first | omega | assumption) (by first | omega | assumption) (by first | omega | assumption)).mono ?_
  rintro e w' ⟨rfl, rfl⟩
  go_wp2
  go_ret
  exact ⟨by rw [Hfin.out]; rfl, frame_below w _ _ 0⟩

set_option maxHeartbeats 2000000 in
theorem holds_7 (a : AlgM) (g : a.alg.Good) (x : Brk) (f : a.alg.Fits x) (n : Nat) (w : World) (h : a.In n w) (hn : n ≤ w.heap.size) (hl : x.law = 7) :
    Calls Try.prog 64 #[a.val, x.val] w fun e w' => e = .returned (.bool (a.alg.holds x)) ∧ Below w.heap.size w w' := by
  have s0 : 2 ≤ a.size := g.lo
  have s1 : a.size ≤ 24 := g.hi
  have a0 := f.a0
  have a1 : x.a < a.size := f.a_lt g
  have b0 := f.b0
  have b1 : x.b < a.size := f.b_lt g
  have c0 := f.c0
  have c1 : x.c < a.size := f.c_lt g
  have e0 := f.e0
  have e1 : x.e < a.E.t.len := f.e_lt (by omega)
  have Hfin := hide (show a.alg.holds x = (a.alg.B.get x.a (a.alg.E.get x.e x.a) == x.a) by simp [Alg.holds, hl])
  clear f
  obtain ⟨l, xa, xb, xc, xe⟩ := x
  simp only at hl a0 a1 b0 b1 c0 c1 e0 e1 Hfin
  subst hl
  have q1 : 0 ≤ a.alg.E.get xe xa ∧ a.alg.E.get xe xa < a.size := g.edge (by first | omega | assumption) (by first | omega | assumption) (by first | omega | assumption) (by first | omega | assumption)
  simp only [AlgM.val, Brk.val]
  go_enter Try.func64, Try.ntmps64
  go_wp2
  go_quiet ((first | (go_at_call 103; exact Calls.quiet_of_same (best_any a g w.heap.size _ _ n _ (frame_in h hn _ _ _) (frame_cell1 _ _ _ _ _ _ _) (by first | omega | assumption) (by first | omega | assumption) (by first | omega | assumption) (by first | omega | assumption))) | (go_at_call 104; exact Calls.quiet_of_same (edge_any a g w.heap.size (w.heap.size + 1) xe _ n _ (frame_in h hn _ _ _) (frame_cell2 _ _ _ _ _ _ _) (frame_edge _ _ _ _ _ _ _ _ _) (by first | omega | assumption) (by first | omega | assumption) (by first | omega | assumption) (by first | omega | assumption)))))
  go_wp2
  go_ret
  exact ⟨by rw [Hfin.out]; rfl, frame_below w _ _ _⟩

set_option maxHeartbeats 2000000 in
theorem holds_8t (a : AlgM) (g : a.alg.Good) (x : Brk) (f : a.alg.Fits x) (n : Nat) (w : World) (_h : a.In n w) (_hn : n ≤ w.heap.size) (hl : x.law = 8) (hg : (x.a == a.size - 1) = true) :
    Calls Try.prog 64 #[a.val, x.val] w fun e w' => e = .returned (.bool (a.alg.holds x)) ∧ Below w.heap.size w w' := by
  have s0 : 2 ≤ a.size := g.lo
  have s1 : a.size ≤ 24 := g.hi
  have a0 := f.a0
  have a1 : x.a < a.size := f.a_lt g
  have b0 := f.b0
  have b1 : x.b < a.size := f.b_lt g
  have c0 := f.c0
  have c1 : x.c < a.size := f.c_lt g
  have e0 := f.e0
  have e1 : x.e < a.E.t.len := f.e_lt (by omega)
  have Hfin := hide (show a.alg.holds x = true by simp [Alg.holds, hl]; left; simpa [AlgM.alg] using hg)
  clear f
  obtain ⟨l, xa, xb, xc, xe⟩ := x
  simp only at hl a0 a1 b0 b1 c0 c1 e0 e1 Hfin hg
  subst hl
  simp only [AlgM.val, Brk.val]
  go_enter Try.func64, Try.ntmps64
  go_wp2
  go_quiet (fail)
  go_wp2
  go_ret
  exact ⟨by rw [Hfin.out]; rfl, frame_below w _ _ _⟩

end Go.Proofs.Ytjhkadffaephmaa
