/-
  How tables of routes lie in memory, and the small functions that only reckon or only read.
-/
import Derived.Test.YtjhkadffaephmaaRows
import Derived.Test.YtjhkadffaephmaaPure
import Derived.WalkKit
import Derived.WalkSpells
import Derived.WalkLawsBesides
import Derived.Deep.QuietTactic
import Derived.BigQuiet
namespace Go.Proofs.Ytjhkadffaephmaa
open Go.RowKit

theorem hide {p : Prop} (h : p) : Hid p := h

/-- A table in memory: the slice of slices, and where each row's numbers lie. -/
structure Mat where
  ga : Option Addr
  gb : Nat
  go : Nat
  cap : Nat
  A : Nat → Option Addr
  C : Nat → Nat
  RB : Nat → Nat
  RO : Nat → Nat
  t : Tab

def Mat.val (m : Mat) : Value := .slice m.ga m.t.len m.cap

/-- It lies in the blocks below n of the world. -/
structure Mat.In (m : Mat) (n : Nat) (w : World) : Prop where
  ga : 0 < m.t.len → m.ga = some ⟨m.gb, m.go, none⟩
  gb : 0 < m.t.len → m.gb < n
  row : ∀ r, r < m.t.len → w.cell? ⟨m.gb, m.go + r, none⟩ = some (.slice (m.A r) (m.t.L r) (m.C r))
  addr : ∀ r, r < m.t.len → 0 < m.t.L r → m.A r = some ⟨m.RB r, m.RO r, none⟩ ∧ m.RB r < n
  cell : ∀ r, r < m.t.len → ∀ c, c < m.t.L r → w.cell? ⟨m.RB r, m.RO r + c, none⟩ = some (.int .i64 (m.t.Z r c))
  len : m.t.len ≤ maxLen
  lens : ∀ r, r < m.t.len → m.t.L r ≤ maxLen

theorem Mat.In.below {m : Mat} {n k : Nat} {w w' : World} (h : m.In n w) (hb : Below k w w') (hk : n ≤ k) : m.In n w' where
  ga := h.ga
  gb := h.gb
  row := fun r hr => by rw [hb.cell (p := ⟨m.gb, m.go + r, none⟩) (Nat.lt_of_lt_of_le (h.gb (by omega)) hk)]; exact h.row r hr
  addr := h.addr
  cell := fun r hr c hc => by rw [hb.cell (p := ⟨m.RB r, m.RO r + c, none⟩) (Nat.lt_of_lt_of_le (h.addr r hr (by omega)).2 hk)]; exact h.cell r hr c hc
  len := h.len
  lens := h.lens

theorem Mat.In.mono {m : Mat} {n k : Nat} {w : World} (h : m.In n w) (hk : n ≤ k) : m.In k w where
  ga := h.ga
  gb := fun h0 => Nat.lt_of_lt_of_le (h.gb h0) hk
  row := h.row
  addr := fun r hr h0 => ⟨(h.addr r hr h0).1, Nat.lt_of_lt_of_le (h.addr r hr h0).2 hk⟩
  cell := h.cell
  len := h.len
  lens := h.lens

set_option maxHeartbeats 400000 in
theorem between_any (n l m : Int) (w : World) :
    Calls Try.prog 56 #[.int .i64 n, .int .i64 l, .int .i64 m] w fun e w' => e = .returned (.bool (decide (l ≤ n) && decide (n ≤ m))) ∧ w' = w := by
  by_cases h : l ≤ n
  · go_enter Try.func56, Try.ntmps56
    go_wp2
    go_ret
    exact ⟨by simp [h], rfl⟩
  · go_enter Try.func56, Try.ntmps56
    go_wp2
    go_ret
    exact ⟨by simp; omega, rfl⟩

set_option maxHeartbeats 400000 in
theorem below_any (x n : Int) (w : World) :
    Calls Try.prog 102 #[.int .i64 x, .int .i64 n] w fun e w' => e = .returned (.bool (decide (0 ≤ x) && decide (x < n))) ∧ w' = w := by
  by_cases h : 0 ≤ x
  · go_enter Try.func102, Try.ntmps102
    go_wp2
    go_ret
    exact ⟨by simp [h], rfl⟩
  · go_enter Try.func102, Try.ntmps102
    go_wp2
    go_ret
    exact ⟨by simp; omega, rfl⟩

set_option maxHeartbeats 1000000 in
theorem allWide_any (m : Mat) (s : Int) (n : Nat) (w : World) (h : m.In n w) :
    Calls Try.prog 59 #[m.val, .int .i64 s] w fun e w' => e = .returned (.bool (m.t.wide s)) ∧ w' = w := by
  have hlen := h.len
  unfold maxLen at hlen
  unfold Mat.val
  go_enter Try.func59, Try.ntmps59
  go_wp2
  go_loop [6, 9] (fun _ i => ∃ k : Nat, k ≤ m.t.len ∧ i = .int .i64 k ∧ ∀ r, r < k → (m.t.L r : Int) = s) (fun _ i => m.t.len - (intOf i).toNat)
  case atStart => exact ⟨0, Nat.zero_le _, rfl, fun r hr => absurd hr (Nat.not_lt_zero _)⟩
  case round =>
    obtain ⟨k, hk, rfl, hall⟩ := hrel
    by_cases hlt : k < m.t.len
    · have hga := h.ga (by omega)
      have hrow := h.row k hlt
      have hlens := h.lens k hlt
      unfold maxLen at hlens
      by_cases he : (m.t.L k : Int) = s
      · have he' : ((m.t.L k : Int) != s) = false := by simp [he]
        have Hall := hide hall
        have He := hide he
        clear hall he
        go_wp2
        go_round
        case rel => exact ⟨k + 1, by omega, by go_num, fun r hr => by
          by_cases e : r = k
          · subst e; exact He.out
          · exact Hall.out r (by omega)⟩
        case measure => simp [intOf]; omega
      · have he' : ((m.t.L k : Int) != s) = true := by simp [he]
        have hw := Tab.wide_false hlt he
        have Hw := hide hw
        clear hall he hw
        go_wp2
        go_ret
        exact ⟨by rw [Hw.out]; rfl, rfl⟩
    · have hw : m.t.wide s = true := (m.t.wide_iff s).2 (fun r hr => hall r (by omega))
      have Hw := hide hw
      clear hall hw
      go_wp2
      go_ret
      exact ⟨by rw [Hw.out]; rfl, rfl⟩

set_option maxHeartbeats 1000000 in
theorem allRoutes_any (m : Mat) (s : Int) (n : Nat) (w : World) (h : m.In n w) :
    Calls Try.prog 60 #[m.val, .int .i64 s] w fun e w' => e = .returned (.bool (m.t.routes s)) ∧ w' = w := by
  have hlen := h.len
  unfold maxLen at hlen
  unfold Mat.val
  go_enter Try.func60, Try.ntmps60
  go_wp2
  go_loop [6, 8, 11] (fun _ _ i => ∃ k : Nat, k ≤ m.t.len ∧ i = .int .i64 k ∧ Hid (∀ r, r < k → ∀ c, c < m.t.L r → 0 ≤ m.t.Z r c ∧ m.t.Z r c < s)) (fun _ _ i => m.t.len - (intOf i).toNat)
  case atStart => exact ⟨0, Nat.zero_le _, rfl, hide fun r hr => absurd hr (Nat.not_lt_zero _)⟩
  case round =>
    obtain ⟨k, hk, rfl, Hall⟩ := hrel
    by_cases hlt : k < m.t.len
    · have hga := h.ga (by omega)
      have hrow := h.row k hlt
      have hlens := h.lens k hlt
      unfold maxLen at hlens
      go_wp2
      go_loop [8, 17] (fun _ j => ∃ c : Nat, c ≤ m.t.L k ∧ j = .int .i64 c ∧ Hid (∀ c', c' < c → 0 ≤ m.t.Z k c' ∧ m.t.Z k c' < s)) (fun _ j => m.t.L k - (intOf j).toNat)
      case atStart => exact ⟨0, Nat.zero_le _, rfl, hide fun r hr => absurd hr (Nat.not_lt_zero _)⟩
      case round =>
        obtain ⟨c, hc, rfl, Hrow⟩ := hrel
        by_cases hcl : c < m.t.L k
        · have hA := (h.addr k hlt (by omega)).1
          have hcell := h.cell k hlt c hcl
          by_cases hneg : m.t.Z k c < 0
          · have hw := hide (Tab.routes_false (s := s) hlt hcl (Or.inl hneg))
            go_wp2
            go_ret
            exact ⟨by rw [hw.out]; rfl, rfl⟩
          · by_cases hbig : s ≤ m.t.Z k c
            · have hw := hide (Tab.routes_false (s := s) hlt hcl (Or.inr hbig))
              go_wp2
              go_ret
              exact ⟨by rw [hw.out]; rfl, rfl⟩
            · have h1 : 0 ≤ m.t.Z k c := by omega
              have h2 : m.t.Z k c < s := by omega
              go_wp2
              go_round
              case rel => exact ⟨c + 1, by omega, by go_num, hide fun c' hc' => by
                by_cases e : c' = c
                · subst e; exact ⟨h1, h2⟩
                · exact Hrow.out c' (by omega)⟩
              case measure => simp [intOf]; omega
        · go_wp2
          go_round
          case rel =>
            have hfin : ∀ r, r < k + 1 → ∀ c, c < m.t.L r → 0 ≤ m.t.Z r c ∧ m.t.Z r c < s := fun r hr => by
              by_cases e : r = k
              · subst e; exact fun c' hc' => Hrow.out c' (by omega)
              · exact Hall.out r (by omega)
            exact ⟨_, _, _, _, ⟨k + 1, by omega, by go_num, hide hfin⟩, rfl, rfl, rfl, rfl⟩
          case measure => simp [intOf]; omega
    · have hw : Hid (m.t.routes s = true) := hide ((m.t.routes_iff s).2 (fun r hr => Hall.out r (by omega)))
      go_wp2
      go_ret
      exact ⟨by rw [hw.out]; rfl, rfl⟩

end Go.Proofs.Ytjhkadffaephmaa
