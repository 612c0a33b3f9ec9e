/-
  Our own texts, bundled: a claim holds few files.
-/
import Derived.Test.YtjhkadffaephmabBundleAA
import Derived.Test.YtjhkadffaephmabBundleAC
/-
  algebra.holds at the laws 8 and 9.
-/
namespace Go.Proofs.Ytjhkadffaephmab
open Go.RowKit

set_option maxHeartbeats 2000000 in
theorem holds_8f (a : AlgM) (g : a.alg.Good) (x : Brk) (f : a.alg.Fits x) (n : Nat) (w : World) (h : a.In n w) (hn : n ≤ w.heap.size) (hl : x.law = 8) (hg : (x.a == a.size - 1) = false) (hg2 : (a.alg.B.get x.a (a.alg.E.get x.e x.a) == x.a) = false) :
    Calls Try.prog 145 #[a.val, x.val] w fun e w' => e = .returned (.bool (a.alg.holds x)) ∧ Below w.heap.size w w' := by
  have s0 : 2 ≤ a.size := g.lo
  have s1 : a.size ≤ 24 := g.hi
  have a0 := f.a0
  have a1 : x.a < a.size := f.a_lt g
  have b0 := f.b0
  have b1 : x.b < a.size := f.b_lt g
  have c0 := f.c0
  have c1 : x.c < a.size := f.c_lt g
  have e0 := f.e0
  have e1 : x.e < a.E.t.len := f.e_lt (by omega)
  have Hfin := hide (show a.alg.holds x = false by simp only [Alg.holds, hl]; rw [hg2]; simpa [AlgM.alg] using hg)
  clear f
  obtain ⟨l, xa, xb, xc, xe⟩ := x
  simp only at hl a0 a1 b0 b1 c0 c1 e0 e1 Hfin hg hg2
  subst hl
  have q1 : 0 ≤ a.alg.E.get xe xa ∧ a.alg.E.get xe xa < a.size := g.edge (by first | omega | assumption) (by first | omega | assumption) (by first | omega | assumption) (by first | omega | assumption)
  simp only [AlgM.val, Brk.val]
  go_enter Try.func145, Try.ntmps145
  go_wp2
  go_quiet ((first | (go_at_call 187; exact Calls.quiet_of_same (best_any a g w.heap.size _ _ n _ (frame_in h hn _ _ _) (frame_cell1 _ _ _ _ _ _ _) (by first | omega | assumption) (by first | omega | assumption) (by first | omega | assumption) (by first | omega | assumption))) | (go_at_call 188; exact Calls.quiet_of_same (edge_any a g w.heap.size (w.heap.size + 1) xe _ n _ (frame_in h hn _ _ _) (frame_cell2 _ _ _ _ _ _ _) (frame_edge _ _ _ _ _ _ _ _ _) (by first | omega | assumption) (by first | omega | assumption) (by first | omega | assumption) (by first | omega | assumption)))))
  go_wp2
  go_ret
  exact ⟨by rw [Hfin.out]; rfl, frame_below w _ _ _⟩

set_option maxHeartbeats 2000000 in
theorem holds_8g (a : AlgM) (g : a.alg.Good) (x : Brk) (f : a.alg.Fits x) (n : Nat) (w : World) (h : a.In n w) (hn : n ≤ w.heap.size) (hl : x.law = 8) (hg : (x.a == a.size - 1) = false) (hg2 : (a.alg.B.get x.a (a.alg.E.get x.e x.a) == x.a) = true) :
    Calls Try.prog 145 #[a.val, x.val] w fun e w' => e = .returned (.bool (a.alg.holds x)) ∧ Below w.heap.size w w' := by
  have s0 : 2 ≤ a.size := g.lo
  have s1 : a.size ≤ 24 := g.hi
  have a0 := f.a0
  have a1 : x.a < a.size := f.a_lt g
  have b0 := f.b0
  have b1 : x.b < a.size := f.b_lt g
  have c0 := f.c0
  have c1 : x.c < a.size := f.c_lt g
  have e0 := f.e0
  have e1 : x.e < a.E.t.len := f.e_lt (by omega)
  have Hfin := hide (show a.alg.holds x = (a.alg.E.get x.e x.a != x.a) by simp only [Alg.holds, hl]; rw [hg2]; have hg' : (x.a == a.alg.size - 1) = false := hg; rw [hg']; simp)
  clear f
  obtain ⟨l, xa, xb, xc, xe⟩ := x
  simp only at hl a0 a1 b0 b1 c0 c1 e0 e1 Hfin hg hg2
  subst hl
  have q1 : 0 ≤ a.alg.E.get xe xa ∧ a.alg.E.get xe xa < a.size := g.edge (by first | omega | assumption) (by first | omega | assumption) (by first | omega | assumption) (by first | omega | assumption)
  simp only [AlgM.val, Brk.val]
  go_enter Try.func145, Try.ntmps145
  go_wp2
  go_quiet ((first | (go_at_call 187; exact Calls.quiet_of_same (best_any a g w.heap.size _ _ n _ (frame_in h hn _ _ _) (frame_cell1 _ _ _ _ _ _ _) (by first | omega | assumption) (by first | omega | assumption) (by first | omega | assumption) (by first | omega | assumption))) | (go_at_call 188; exact Calls.quiet_of_same (edge_any a g w.heap.size (w.heap.size + 1) xe _ n _ (frame_in h hn _ _ _) (frame_cell2 _ _ _ _ _ _ _) (frame_edge _ _ _ _ _ _ _ _ _) (by first | omega | assumption) (by first | omega | assumption) (by first | omega | assumption) (by first | omega | assumption)))))
  go_wp2
  go_ret
  exact ⟨by rw [Hfin.out]; rfl, frame_below w _ _ _⟩

set_option maxHeartbeats 2000000 in
theorem holds_9 (a : AlgM) (g : a.alg.Good) (x : Brk) (f : a.alg.Fits x) (n : Nat) (w : World) (h : a.In n w) (hn : n ≤ w.heap.size) (hl : x.law = 9) :
    Calls Try.prog 145 #[a.val, x.val] w fun e w' => e = .returned (.bool (a.alg.holds x)) ∧ Below w.heap.size w w' := by
  have s0 : 2 ≤ a.size := g.lo
  have s1 : a.size ≤ 24 := g.hi
  have a0 := f.a0
  have a1 : x.a < a.size := f.a_lt g
  have b0 := f.b0
  have b1 : x.b < a.size := f.b_lt g
  have c0 := f.c0
  have c1 : x.c < a.size := f.c_lt g
  have e0 := f.e0
  have e1 : x.e < a.E.t.len := f.e_lt (by omega)
  have Hfin := hide (show a.alg.holds x = (a.alg.E.get x.e (a.alg.B.get x.a x.b) == a.alg.B.get (a.alg.E.get x.e x.a) (a.alg.E.get x.e x.b)) by simp [Alg.holds, hl])
  clear f
  obtain ⟨l, xa, xb, xc, xe⟩ := x
  simp only at hl a0 a1 b0 b1 c0 c1 e0 e1 Hfin
  subst hl
  have q1 : 0 ≤ a.alg.E.get xe xa ∧ a.alg.E.get xe xa < a.size := g.edge (by first | omega | assumption) (by first | omega | assumption) (by first | omega | assumption) (by first | omega | assumption)
  have q2 : 0 ≤ a.alg.E.get xe xb ∧ a.alg.E.get xe xb < a.size := g.edge (by first | omega | assumption) (by first | omega | assumption) (by first | omega | assumption) (by first | omega | assumption)
  have q3 : 0 ≤ a.alg.B.get xa xb ∧ a.alg.B.get xa xb < a.size := g.best (by first | omega | assumption) (by first | omega | assumption) (by first | omega | assumption) (by first | omega | assumption)
  simp only [AlgM.val, Brk.val]
  go_enter Try.func145, Try.ntmps145
  go_wp2
  go_quiet ((first | (go_at_call 187; exact Calls.quiet_of_same (best_any a g w.heap.size _ _ n _ (frame_in h hn _ _ _) (frame_cell1 _ _ _ _ _ _ _) (by first | omega | assumption) (by first | omega | assumption) (by first | omega | assumption) (by first | omega | assumption))) | (go_at_call 188; exact Calls.quiet_of_same (edge_any a g w.heap.size (w.heap.size + 1) xe _ n _ (frame_in h hn _ _ _) (frame_cell2 _ _ _ _ _ _ _) (frame_edge _ _ _ _ _ _ _ _ _) (by first | omega | assumption) (by first | omega | assumption) (by first | omega | assumption) (by first | omega | assumption)))))
  go_wp2
  go_ret
  exact ⟨by rw [Hfin.out]; rfl, frame_below w _ _ _⟩

end Go.Proofs.Ytjhkadffaephmab

/-
  algebra.holds, at whatever law.
-/
namespace Go.Proofs.Ytjhkadffaephmab
open Go.RowKit

theorem holds_any (a : AlgM) (g : a.alg.Good) (x : Brk) (f : a.alg.Fits x) (n : Nat) (w : World) (h : a.In n w) (hn : n ≤ w.heap.size) :
    Calls Try.prog 145 #[a.val, x.val] w fun e w' => e = .returned (.bool (a.alg.holds x)) ∧ Below w.heap.size w w' := by
  have l0 := f.l0
  have l1 := f.l1
  have hc : x.law = 1 ∨ x.law = 2 ∨ x.law = 3 ∨ x.law = 4 ∨ x.law = 5 ∨ x.law = 6 ∨ x.law = 7 ∨ x.law = 8 ∨ x.law = 9 := by omega
  rcases hc with hl | hl | hl | hl | hl | hl | hl | hl | hl
  · exact holds_1 a g x f n w h hn hl
  · exact holds_2 a g x f n w h hn hl
  · cases hg : (a.alg.B.get x.a x.b == x.a)
    · exact holds_3f a g x f n w h hn hl hg
    · exact holds_3t a g x f n w h hn hl hg
  · exact holds_4 a g x f n w h hn hl
  · exact holds_5 a g x f n w h hn hl
  · exact holds_6 a g x f n w h hn hl
  · exact holds_7 a g x f n w h hn hl
  · cases hg : (x.a == a.size - 1)
    · cases hg2 : (a.alg.B.get x.a (a.alg.E.get x.e x.a) == x.a)
      · exact holds_8f a g x f n w h hn hl hg hg2
      · exact holds_8g a g x f n w h hn hl hg hg2
    · exact holds_8t a g x f n w h hn hl hg
  · exact holds_9 a g x f n w h hn hl

end Go.Proofs.Ytjhkadffaephmab
