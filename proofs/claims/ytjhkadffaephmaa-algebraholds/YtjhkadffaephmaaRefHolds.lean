/-
  signpostref.Names; what HoldsOf reads.
-/
import Derived.Test.YtjhkadffaephmaaHolds
namespace Go.Proofs.Ytjhkadffaephmaa
open Go.RowKit

set_option maxHeartbeats 1000000 in
theorem refNames_any (l : Int) (l0 : 1 ≤ l) (l1 : l ≤ 9) (w : World) :
    Calls Try.prog 57 #[.int .i64 l] w fun e w' => e = .returned (.tuple #[.int .i64 (routesOf l), .bool (edgeOf l)]) ∧ w' = w := by
  have hc : l = 1 ∨ l = 2 ∨ l = 3 ∨ l = 4 ∨ l = 5 ∨ l = 6 ∨ l = 7 ∨ l = 8 ∨ l = 9 := by omega
  rcases hc with rfl | rfl | rfl | rfl | rfl | rfl | rfl | rfl | rfl
  all_goals
    go_enter Try.func57, Try.ntmps57
    go_wp2
    go_ret2
    exact ⟨rfl, rfl⟩

theorem frame_in0 {a : AlgM} {w : World} (h : a.In w.heap.size w) (o1 o2 : Obj) : a.In w.heap.size ((w.alloc o1).alloc o2) := frame_in h (Nat.le_refl _) o1 o2 0

theorem best_at {a : AlgM} (g : a.alg.Good) {n : Nat} {W : World} (h : a.In n W) (r s : Nat) (hr : (r : Int) < a.size) (hs : (s : Int) < a.size) :
    ∃ q : Nat, (q : Int) < a.size ∧ a.alg.B.get r s = q ∧ (r : Int) < (a.B.t.len : Int) ∧ (s : Int) < (a.B.t.L r : Int) ∧
      W.cell? ⟨a.B.gb, a.B.go + r, none⟩ = some (.slice (some ⟨a.B.RB r, a.B.RO r, none⟩) (a.B.t.L r) (a.B.C r)) ∧ W.cell? ⟨a.B.RB r, a.B.RO r + s, none⟩ = some (.int .i64 q) := by
  have hbl : (a.B.t.len : Int) = a.size := g.bl
  have hlt : r < a.B.t.len := by omega
  have hL : (a.B.t.L r : Int) = a.size := g.bw r hlt
  have hsl : s < a.B.t.L r := by omega
  have hz : 0 ≤ a.B.t.Z r s ∧ a.B.t.Z r s < a.size := g.bz r hlt s hsl
  obtain ⟨q, hq⟩ := Int.eq_ofNat_of_zero_le hz.1
  have hrow := h.B.row r hlt
  rw [(h.B.addr r hlt (by omega)).1] at hrow
  have hcell := h.B.cell r hlt s hsl
  rw [hq] at hcell
  exact ⟨q, by omega, by show a.B.t.Z r s = q; omega, by omega, by omega, hrow, hcell⟩

theorem edge_at {a : AlgM} (g : a.alg.Good) {n : Nat} {W : World} (h : a.In n W) (r s : Nat) (hr : (r : Int) < a.E.t.len) (hs : (s : Int) < a.size) :
    ∃ q : Nat, (q : Int) < a.size ∧ a.alg.E.get r s = q ∧ (s : Int) < (a.E.t.L r : Int) ∧
      W.cell? ⟨a.E.gb, a.E.go + r, none⟩ = some (.slice (some ⟨a.E.RB r, a.E.RO r, none⟩) (a.E.t.L r) (a.E.C r)) ∧ W.cell? ⟨a.E.RB r, a.E.RO r + s, none⟩ = some (.int .i64 q) := by
  have hlt : r < a.E.t.len := by omega
  have hL : (a.E.t.L r : Int) = a.size := g.ew r hlt
  have hsl : s < a.E.t.L r := by omega
  have hz : 0 ≤ a.E.t.Z r s ∧ a.E.t.Z r s < a.size := g.ez r hlt s hsl
  obtain ⟨q, hq⟩ := Int.eq_ofNat_of_zero_le hz.1
  have hrow := h.E.row r hlt
  rw [(h.E.addr r hlt (by omega)).1] at hrow
  have hcell := h.E.cell r hlt s hsl
  rw [hq] at hcell
  exact ⟨q, by omega, by show a.E.t.Z r s = q; omega, by omega, hrow, hcell⟩

end Go.Proofs.Ytjhkadffaephmaa
