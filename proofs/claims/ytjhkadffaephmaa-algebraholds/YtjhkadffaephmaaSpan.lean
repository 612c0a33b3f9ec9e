/-
  algebra.spanOf, span.has.
-/
import Derived.Test.YtjhkadffaephmaaNames
namespace Go.Proofs.Ytjhkadffaephmaa
open Go.RowKit

def spanVal (x y z e : Int) : Value := .agg #[.int .i64 x, .int .i64 y, .int .i64 z, .int .i64 e]

set_option maxHeartbeats 1000000 in
theorem span_any (a : AlgM) (r e : Int) (w : World) (hr : r = 0 ∨ r = 1 ∨ r = 2 ∨ r = 3) (he : e = 0 ∨ e = 1) (hE : a.E.t.len ≤ maxLen) :
    Calls Try.prog 62 #[a.val, .agg #[.int .i64 r, .int .i64 e]] w fun en w' =>
      en = .returned (spanVal (if 0 < r then a.size else 1) (if 1 < r then a.size else 1) (if 2 < r then a.size else 1) (if 0 < e then a.E.t.len else 1)) ∧ Below w.heap.size w w' := by
  unfold maxLen at hE
  obtain ⟨size, B, E⟩ := a
  simp only [AlgM.val, Mat.val, spanVal]
  rcases hr with rfl | rfl | rfl | rfl <;> rcases he with rfl | rfl
  all_goals
    go_enter Try.func62, Try.ntmps62
    go_wp2
    refine bodyPost_ret (v := .agg #[_, _, _, _]) (by simp [results, Try.results62, go_sem]; exact ⟨rfl, rfl, rfl, rfl⟩) rfl ⟨by simp, ?_⟩
    exact ((((Below.refl _ _).alloc (Nat.le_refl _) _).alloc (by simp) _).alloc (by simp; omega) _).alloc (by simp; omega) _

set_option maxHeartbeats 1000000 in
theorem has_any (x y z e : Int) (b : Brk) (w : World) :
    Calls Try.prog 63 #[spanVal x y z e, b.val] w fun en w' =>
      en = .returned (.bool ((decide (0 ≤ b.a) && decide (b.a < x)) && (decide (0 ≤ b.b) && decide (b.b < y)) && (decide (0 ≤ b.c) && decide (b.c < z)) && (decide (0 ≤ b.e) && decide (b.e < e)))) ∧ Below w.heap.size w w' := by
  have hB : ∀ o1 o2, Below w.heap.size w ((w.alloc o1).alloc o2) := fun o1 o2 => ((Below.refl _ _).alloc (Nat.le_refl _) _).alloc (by simp) _
  obtain ⟨l, ba, bb, bc, be⟩ := b
  simp only [spanVal, Brk.val]
  generalize h1 : (decide (0 ≤ ba) && decide (ba < x)) = t1
  generalize h2 : (decide (0 ≤ bb) && decide (bb < y)) = t2
  generalize h3 : (decide (0 ≤ bc) && decide (bc < z)) = t3
  generalize h4 : (decide (0 ≤ be) && decide (be < e)) = t4
  have c1 : ∀ W, Calls Try.prog 102 #[.int .i64 ba, .int .i64 x] W fun e w' => e = .returned (.bool t1) ∧ w' = W := fun W => by rw [← h1]; exact below_any ba x W
  have c2 : ∀ W, Calls Try.prog 102 #[.int .i64 bb, .int .i64 y] W fun e w' => e = .returned (.bool t2) ∧ w' = W := fun W => by rw [← h2]; exact below_any bb y W
  have c3 : ∀ W, Calls Try.prog 102 #[.int .i64 bc, .int .i64 z] W fun e w' => e = .returned (.bool t3) ∧ w' = W := fun W => by rw [← h3]; exact below_any bc z W
  have c4 : ∀ W, Calls Try.prog 102 #[.int .i64 be, .int .i64 e] W fun e w' => e = .returned (.bool t4) ∧ w' = W := fun W => by rw [← h4]; exact below_any be e W
  have C1 := hide c1
  have C2 := hide c2
  have C3 := hide c3
  have C4 := hide c4
  clear h1 h2 h3 h4 c1 c2 c3 c4
  go_enter Try.func63, Try.ntmps63
  go_wp2_with fail
  go_at_call 102
  refine (C1.out _).mono ?_
  rintro e w' ⟨rfl, rfl⟩
  cases t1
  · go_wp2
    go_ret
    exact ⟨rfl, hB _ _⟩
  go_wp2_with fail
  go_at_call 102
  refine (C2.out _).mono ?_
  rintro e w' ⟨rfl, rfl⟩
  cases t2
  · go_wp2
    go_ret
    exact ⟨rfl, hB _ _⟩
  go_wp2_with fail
  go_at_call 102
  refine (C3.out _).mono ?_
  rintro e w' ⟨rfl, rfl⟩
  cases t3
  · go_wp2
    go_ret
    exact ⟨rfl, hB _ _⟩
  go_wp2_with fail
  go_at_call 102
  refine (C4.out _).mono ?_
  rintro e w' ⟨rfl, rfl⟩
  go_wp2
  go_ret
  exact ⟨by simp, hB _ _⟩

end Go.Proofs.Ytjhkadffaephmaa
