/-
  algebra.holds and its two function literals.
-/
import Derived.Test.YtjhkadffaephmaaCheck
import Derived.Test.YtjhkadffaephmaaPureB
namespace Go.Proofs.Ytjhkadffaephmaa
open Go.RowKit

def Brk.val (x : Brk) : Value := .agg #[.int .i64 x.law, .int .i64 x.a, .int .i64 x.b, .int .i64 x.c, .int .i64 x.e]

set_option maxHeartbeats 400000 in
theorem best_any (a : AlgM) (g : a.alg.Good) (bA : Nat) (r s : Int) (n : Nat) (w : World) (h : a.In n w) (hc : w.cell? ⟨bA, 1, none⟩ = some a.B.val)
    (h0 : 0 ≤ r) (h1 : r < a.size) (h2 : 0 ≤ s) (h3 : s < a.size) :
    Calls Try.prog 103 #[.int .i64 r, .int .i64 s, .pointer (some ⟨bA, 0, none⟩)] w fun e w' => e = .returned (.int .i64 (a.alg.B.get r s)) ∧ w' = w := by
  obtain ⟨r, rfl⟩ := Int.eq_ofNat_of_zero_le h0
  obtain ⟨s, rfl⟩ := Int.eq_ofNat_of_zero_le h2
  have hbl : (a.B.t.len : Int) = a.size := g.bl
  have hlt : r < a.B.t.len := by omega
  have hL : (a.B.t.L r : Int) = a.size := g.bw r hlt
  have hga := h.B.ga (by omega)
  have hrow := h.B.row r hlt
  have hA := (h.B.addr r hlt (by omega)).1
  have hcell := h.B.cell r hlt s (by omega)
  have hr' : (r : Int) < (a.B.t.len : Int) := by omega
  have hs' : (s : Int) < (a.B.t.L r : Int) := by omega
  rw [hA] at hrow
  rw [Mat.val, hga] at hc
  have Hres := hide (show a.alg.B.get (r : Int) (s : Int) = a.B.t.Z r s from rfl)
  clear hbl hL hga hA g h
  go_enter Try.func103, Try.ntmps103
  go_wp2
  go_ret
  exact ⟨by rw [Hres.out]; rfl, rfl⟩

set_option maxHeartbeats 400000 in
theorem edge_any (a : AlgM) (g : a.alg.Good) (bA bX : Nat) (x s : Int) (n : Nat) (w : World) (h : a.In n w) (hc : w.cell? ⟨bA, 2, none⟩ = some a.E.val) (hx : w.cell? ⟨bX, 4, none⟩ = some (.int .i64 x))
    (h0 : 0 ≤ x) (h1 : x < a.E.t.len) (h2 : 0 ≤ s) (h3 : s < a.size) :
    Calls Try.prog 104 #[.int .i64 s, .pointer (some ⟨bA, 0, none⟩), .pointer (some ⟨bX, 0, none⟩)] w fun e w' => e = .returned (.int .i64 (a.alg.E.get x s)) ∧ w' = w := by
  obtain ⟨r, rfl⟩ := Int.eq_ofNat_of_zero_le h0
  obtain ⟨s, rfl⟩ := Int.eq_ofNat_of_zero_le h2
  have hlt : r < a.E.t.len := by omega
  have hL : (a.E.t.L r : Int) = a.size := g.ew r hlt
  have hga := h.E.ga (by omega)
  have hrow := h.E.row r hlt
  have hA := (h.E.addr r hlt (by omega)).1
  have hcell := h.E.cell r hlt s (by omega)
  have hs' : (s : Int) < (a.E.t.L r : Int) := by omega
  rw [hA] at hrow
  rw [Mat.val, hga] at hc
  have Hres := hide (show a.alg.E.get (r : Int) (s : Int) = a.E.t.Z r s from rfl)
  clear hL hga hA g h
  go_enter Try.func104, Try.ntmps104
  go_wp2
  go_ret
  exact ⟨by rw [Hres.out]; rfl, rfl⟩

theorem frame_below (w : World) (o1 o2 : Obj) (k : Nat) : Below w.heap.size w (((w.alloc o1).alloc o2).drewN k) :=
  below_drewN (((Below.refl _ _).alloc (Nat.le_refl _) _).alloc (by simp) _) k

theorem frame_in {a : AlgM} {n : Nat} {w : World} (h : a.In n w) (hn : n ≤ w.heap.size) (o1 o2 : Obj) (k : Nat) : a.In n (((w.alloc o1).alloc o2).drewN k) :=
  h.below (frame_below w o1 o2 k) hn

theorem frame_cell1 (w : World) (v0 v1 v2 : Value) (t : TypeId) (o2 : Obj) (k : Nat) :
    (((w.alloc (.cells #[v0, v1, v2] t)).alloc o2).drewN k).cell? ⟨w.heap.size, 1, none⟩ = some v1 := by
  go_simp
theorem frame_cell2 (w : World) (v0 v1 v2 : Value) (t : TypeId) (o2 : Obj) (k : Nat) :
    (((w.alloc (.cells #[v0, v1, v2] t)).alloc o2).drewN k).cell? ⟨w.heap.size, 2, none⟩ = some v2 := by
  go_simp
theorem frame_edge (w : World) (v0 v1 v2 v3 v4 : Value) (t : TypeId) (o1 : Obj) (k : Nat) :
    (((w.alloc o1).alloc (.cells #[v0, v1, v2, v3, v4] t)).drewN k).cell? ⟨w.heap.size + 1, 4, none⟩ = some v4 := by
  go_simp

set_option maxHeartbeats 1000000 in
theorem holds_1 (a : AlgM) (g : a.alg.Good) (x : Brk) (f : a.alg.Fits x) (n : Nat) (w : World) (h : a.In n w) (hn : n ≤ w.heap.size) (hl : x.law = 1) :
    Calls Try.prog 64 #[a.val, x.val] w fun e w' => e = .returned (.bool (a.alg.holds x)) ∧ Below w.heap.size w w' := by
  have s0 := g.lo
  have s1 := g.hi
  have a0 := f.a0
  have a1 := f.a_lt g
  have b0 := f.b0
  have b1 := f.b_lt g
  have Hfin := hide (show a.alg.holds x = (a.alg.B.get x.a x.b == a.alg.B.get x.b x.a) by simp [Alg.holds, hl])
  obtain ⟨l, xa, xb, xc, xe⟩ := x
  simp only at hl a0 a1 b0 b1 Hfin
  subst hl
  simp only [AlgM.val, Brk.val]
  go_enter Try.func64, Try.ntmps64
  go_wp2
  go_quiet ((go_at_call 103; exact Calls.quiet_of_same (best_any a g w.heap.size _ _ n _ (frame_in h hn _ _ _) (frame_cell1 _ _ _ _ _ _ _) (by first | omega | assumption) (by first | omega | assumption) (by first | omega | assumption) (by first | omega | assumption))))
  go_wp2
  go_ret
  exact ⟨by rw [Hfin.out]; rfl, frame_below w _ _ _⟩

end Go.Proofs.Ytjhkadffaephmaa
