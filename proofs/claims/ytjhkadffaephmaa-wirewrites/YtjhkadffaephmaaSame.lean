/-
  signpostref.SameInts, SameState, SameAlgebra.
-/
import Derived.Test.YtjhkadffaephmaaBroken
namespace Go.Proofs.Ytjhkadffaephmaa
open Go.RowKit

/-- A list of numbers in memory. -/
structure Ints (a : Option Addr) (l b o : Nat) (f : Nat → Int) (w : World) : Prop where
  addr : 0 < l → a = some ⟨b, o, none⟩
  cell : ∀ i, i < l → w.cell? ⟨b, o + i, none⟩ = some (.int .i64 (f i))
  len : l ≤ maxLen

theorem ints_drewN {a : Option Addr} {l b o : Nat} {f : Nat → Int} {w : World} (h : Ints a l b o f w) (n : Nat) : Ints a l b o f (w.drewN n) := ⟨h.addr, h.cell, h.len⟩

def sameInts (l m : Nat) (f g : Nat → Int) : Bool := (l == m) && (List.range l).all fun i => f i == g i
theorem sameInts_iff {l m : Nat} {f g : Nat → Int} : sameInts l m f g = true ↔ l = m ∧ ∀ i, i < l → f i = g i := by
  simp [sameInts]
theorem sameInts_false {l m : Nat} {f g : Nat → Int} {i : Nat} (hi : i < l) (h : f i ≠ g i) : sameInts l m f g = false := by
  rw [Bool.eq_false_iff]; intro hw; exact h ((sameInts_iff.1 hw).2 i hi)

set_option maxHeartbeats 1000000 in
theorem sameInts_any (a1 a2 : Option Addr) (l1 l2 q1 q2 b1 o1 b2 o2 : Nat) (f g : Nat → Int) (w : World) (h1 : Ints a1 l1 b1 o1 f w) (h2 : Ints a2 l2 b2 o2 g w) :
    Calls Try.prog 89 #[.slice a1 l1 q1, .slice a2 l2 q2] w fun e w' => e = .returned (.bool (sameInts l1 l2 f g)) ∧ ∃ m, w' = w.drewN m := by
  have hl1 := h1.len
  have hl2 := h2.len
  unfold maxLen at hl1 hl2
  by_cases hl : l1 = l2
  · subst hl
    go_enter Try.func89, Try.ntmps89
    go_wp2
    go_loopw [5] (fun i wr => ∃ k : Nat, k ≤ l1 ∧ i = .int .i64 k ∧ Hid (∀ r, r < k → f r = g r) ∧ Hid (∃ m, wr = w.drewN m)) (fun i _ => l1 - (intOf i).toNat)
    case atStart => exact ⟨0, Nat.zero_le _, rfl, hide (fun r hr => absurd hr (Nat.not_lt_zero _)), hide ⟨0, rfl⟩⟩
    case round =>
      obtain ⟨k, hk, rfl, Hall, HD⟩ := hrel
      by_cases hlt : k < l1
      · have ha1 := h1.addr (by omega)
        have ha2 := h2.addr (by omega)
        have hc1 : wr.cell? ⟨b1, o1 + k, none⟩ = some (.int .i64 (f k)) := by obtain ⟨m, rfl⟩ := HD.out; exact h1.cell k hlt
        have hc2 : wr.cell? ⟨b2, o2 + k, none⟩ = some (.int .i64 (g k)) := by obtain ⟨m, rfl⟩ := HD.out; exact h2.cell k hlt
        have hki : (k : Int) < (l1 : Int) := by omega
        by_cases he : f k = g k
        · have he' : (f k != g k) = false := by simp [he]
          have He := hide he
          clear he
          go_wp2_with fail
          go_quiet (fail)
          go_wp2
          go_roundw
          case rel =>
            have hn : ∀ r, r < k + 1 → f r = g r := fun r hr => by
              by_cases e : r = k
              · subst e; exact He.out
              · exact Hall.out r (by omega)
            exact ⟨k + 1, by omega, by go_num, hide hn, hide (by obtain ⟨m, rfl⟩ := HD.out; exact ⟨_, by rw [World.drewN_drewN]⟩)⟩
          case measure => simp [intOf]; omega
        · have he' : (f k != g k) = true := by simp [he]
          have Hw := hide (sameInts_false (m := l1) hlt he)
          clear he
          go_wp2_with fail
          go_quiet (fail)
          go_wp2
          go_ret
          exact ⟨by rw [Hw.out]; rfl, by obtain ⟨m, rfl⟩ := HD.out; exact ⟨_, by rw [World.drewN_drewN]⟩⟩
      · have Hw : Hid (sameInts l1 l1 f g = true) := hide (sameInts_iff.2 ⟨rfl, fun i hi => Hall.out i (by omega)⟩)
        go_wp2
        go_ret
        exact ⟨by rw [Hw.out]; rfl, HD.out⟩
  · have hne : ((l1 : Int) != (l2 : Int)) = true := by simp; omega
    have Hw : Hid (sameInts l1 l2 f g = false) := hide (by simp [sameInts, hl])
    clear hl
    go_enter Try.func89, Try.ntmps89
    go_wp2
    go_ret
    exact ⟨by rw [Hw.out]; rfl, 0, rfl⟩

/-- Are two tables the same? -/
def Tab.same (s t : Tab) : Bool := (s.len == t.len) && (List.range s.len).all fun r => sameInts (s.L r) (t.L r) (s.Z r) (t.Z r)
theorem Tab.same_iff {s t : Tab} : s.same t = true ↔ s.len = t.len ∧ ∀ r, r < s.len → s.L r = t.L r ∧ ∀ c, c < s.L r → s.Z r c = t.Z r c := by
  simp only [Tab.same, Bool.and_eq_true, beq_iff_eq, List.all_eq_true, List.mem_range, sameInts_iff]
theorem Tab.same_false {s t : Tab} {r : Nat} (hr : r < s.len) (h : sameInts (s.L r) (t.L r) (s.Z r) (t.Z r) = false) : s.same t = false := by
  rw [Bool.eq_false_iff]; intro hw
  simp only [Tab.same, Bool.and_eq_true, List.all_eq_true, List.mem_range] at hw
  rw [hw.2 r hr] at h
  cases h
theorem Tab.same_true {s t : Tab} (hl : s.len = t.len) (h : ∀ r, r < s.len → sameInts (s.L r) (t.L r) (s.Z r) (t.Z r) = true) : s.same t = true := by
  simp only [Tab.same, Bool.and_eq_true, List.all_eq_true, List.mem_range]
  exact ⟨by simp [hl], h⟩
theorem Tab.same_refl (s : Tab) : s.same s = true := Tab.same_iff.2 ⟨rfl, fun _ _ => ⟨rfl, fun _ _ => rfl⟩⟩

theorem Mat.In.ints {m : Mat} {n : Nat} {w : World} (h : m.In n w) {r : Nat} (hr : r < m.t.len) : Ints (m.A r) (m.t.L r) (m.RB r) (m.RO r) (m.t.Z r) w :=
  ⟨fun h0 => (h.addr r hr h0).1, fun i hi => h.cell r hr i hi, h.lens r hr⟩

set_option maxHeartbeats 1000000 in
theorem sameState_any (x y : Mat) (n : Nat) (w : World) (h1 : x.In n w) (h2 : y.In n w) :
    Calls Try.prog 43 #[x.val, y.val] w fun e w' => e = .returned (.bool (x.t.same y.t)) ∧ ∃ m, w' = w.drewN m := by
  have hl1 := h1.len
  have hl2 := h2.len
  unfold maxLen at hl1 hl2
  simp only [Mat.val]
  by_cases hl : x.t.len = y.t.len
  · have Hl := hide hl
    have hne : ((x.t.len : Int) != (y.t.len : Int)) = false := by simp [hl]
    clear hl
    go_enter Try.func43, Try.ntmps43
    go_wp2
    go_loopw [5] (fun i wr => ∃ k : Nat, k ≤ x.t.len ∧ i = .int .i64 k ∧ Hid (∀ r, r < k → sameInts (x.t.L r) (y.t.L r) (x.t.Z r) (y.t.Z r) = true) ∧ Hid (∃ m, wr = w.drewN m)) (fun i _ => x.t.len - (intOf i).toNat)
    case atStart => exact ⟨0, Nat.zero_le _, rfl, hide (fun r hr => absurd hr (Nat.not_lt_zero _)), hide ⟨0, rfl⟩⟩
    case round =>
      obtain ⟨k, hk, rfl, Hall, HD⟩ := hrel
      by_cases hlt : k < x.t.len
      · have hlt2 : k < y.t.len := by have := Hl.out; omega
        have ha1 := h1.ga (by omega)
        have ha2 := h2.ga (by omega)
        have hc1 : wr.cell? ⟨x.gb, x.go + k, none⟩ = some (.slice (x.A k) (x.t.L k) (x.C k)) := by obtain ⟨m, rfl⟩ := HD.out; exact h1.row k hlt
        have hc2 : wr.cell? ⟨y.gb, y.go + k, none⟩ = some (.slice (y.A k) (y.t.L k) (y.C k)) := by obtain ⟨m, rfl⟩ := HD.out; exact h2.row k hlt2
        have hki : (k : Int) < (x.t.len : Int) := by omega
        have hki2 : (k : Int) < (y.t.len : Int) := by omega
        have hS := hide (fun q => sameInts_any (x.A k) (y.A k) (x.t.L k) (y.t.L k) (x.C k) (y.C k) _ _ _ _ _ _ (wr.drewN q) (ints_drewN (w := wr) (by obtain ⟨m, rfl⟩ := HD.out; exact ints_drewN (h1.ints hlt) m) q) (ints_drewN (w := wr) (by obtain ⟨m, rfl⟩ := HD.out; exact ints_drewN (h2.ints hlt2) m) q))
        cases hs : sameInts (x.t.L k) (y.t.L k) (x.t.Z k) (y.t.Z k) with
        | true =>
          simp only [hs] at hS
          have Hs := hide hs
          clear hs
          go_wp2_with fail
          go_quiet ((go_at_call 89; exact Calls.quiet_of (hS.out _)))
          go_wp2
          go_roundw
          case rel =>
            have hn : ∀ r, r < k + 1 → sameInts (x.t.L r) (y.t.L r) (x.t.Z r) (y.t.Z r) = true := fun r hr => by
              by_cases e : r = k
              · subst e; exact Hs.out
              · exact Hall.out r (by omega)
            exact ⟨k + 1, by omega, by go_num, hide hn, hide (by obtain ⟨m, rfl⟩ := HD.out; exact ⟨_, by rw [World.drewN_drewN]⟩)⟩
          case measure => simp [intOf]; omega
        | false =>
          simp only [hs] at hS
          have Hw := hide (Tab.same_false hlt hs)
          clear hs
          go_wp2_with fail
          go_quiet ((go_at_call 89; exact Calls.quiet_of (hS.out _)))
          go_wp2
          go_ret
          exact ⟨by rw [Hw.out]; rfl, by obtain ⟨m, rfl⟩ := HD.out; exact ⟨_, by rw [World.drewN_drewN]⟩⟩
      · have Hw : Hid (x.t.same y.t = true) := hide (Tab.same_true Hl.out (fun i hi => Hall.out i (by omega)))
        go_wp2
        go_ret
        exact ⟨by rw [Hw.out]; rfl, HD.out⟩
  · have hne : ((x.t.len : Int) != (y.t.len : Int)) = true := by simp; omega
    have Hw : Hid (x.t.same y.t = false) := hide (by simp [Tab.same, hl])
    clear hl
    go_enter Try.func43, Try.ntmps43
    go_wp2
    go_ret
    exact ⟨by rw [Hw.out]; rfl, 0, rfl⟩

/-- Two algebras that are the same: the answer is yes. -/
theorem sameAlgebra_yes (x y : AlgM) (w : World) (h1 : x.In w.heap.size w) (h2 : y.In w.heap.size w) (hs : x.size = y.size) (hB : x.B.t.same y.B.t = true) (hE : x.E.t.same y.E.t = true) :
    Calls Try.prog 30 #[x.val, y.val] w fun e w' => e = .returned (.bool true) ∧ Below w.heap.size w w' := by
  have hb0 : Below w.heap.size w ((w.alloc (.cells #[.int .i64 x.size, x.B.val, x.E.val] 24)).alloc (.cells #[.int .i64 y.size, y.B.val, y.E.val] 24)) :=
    ((Below.refl _ w).alloc (Nat.le_refl _) _).alloc (by simp) _
  have HB := hide (sameState_any x.B y.B _ _ (h1.1.below hb0 (Nat.le_refl _)) (h2.1.below hb0 (Nat.le_refl _)))
  have HE := hide (fun q => sameState_any x.E y.E w.heap.size (((w.alloc (.cells #[.int .i64 x.size, x.B.val, x.E.val] 24)).alloc (.cells #[.int .i64 y.size, y.B.val, y.E.val] 24)).drewN q) (h1.2.below (below_drewN hb0 q) (Nat.le_refl _)) (h2.2.below (below_drewN hb0 q) (Nat.le_refl _)))
  rw [hB] at HB
  simp only [hE] at HE
  have hse : ((x.size : Int) == y.size) = true := by simp [hs]
  clear hs hB hE
  simp only [AlgM.val]
  go_enter Try.func30, Try.ntmps30
  go_wp2_with fail
  go_at_call 43
  refine HB.out.mono ?_
  rintro e w1 ⟨rfl, m1, rfl⟩
  go_wp2_with fail
  go_at_call 43
  refine (HE.out _).mono ?_
  rintro e w2 ⟨rfl, m2, rfl⟩
  go_wp2
  go_ret
  exact ⟨rfl, below_drewN hb0 _⟩

end Go.Proofs.Ytjhkadffaephmaa
