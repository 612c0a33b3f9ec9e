/-
  Nets in memory; net.below, square, allBelow; state.Own.
-/
import Derived.Test.YtgjkdpgcogekmaaHops
import Derived.Test.YtgjkdpgcogekmaaNetQ
namespace Go.Proofs.Ytgjkdpgcogekmaa
open Go.RowKit

/-- A net in memory. -/
structure NetM where
  a : AlgM
  nodes : Int
  la : Option Addr
  ln : Nat
  lc : Nat
  lb : Nat
  lo : Nat
  F : Nat → Int
  T : Nat → Int
  E : Nat → Int

def NetM.cells (n : NetM) : Array Value := #[.int .i64 n.a.size, n.a.B.val, n.a.E.val, .int .i64 n.nodes, .slice n.la n.ln n.lc]
def NetM.val (n : NetM) : Value := .agg n.cells
def NetM.net (n : NetM) : Net := ⟨n.a.alg, n.nodes, n.ln, n.F, n.T, n.E⟩

structure NetM.In (n : NetM) (N : Nat) (w : World) : Prop where
  a : n.a.In N w
  la : 0 < n.ln → n.la = some ⟨n.lb, n.lo, none⟩
  lb : 0 < n.ln → n.lb < N
  f : ∀ i, i < n.ln → w.cell? ⟨n.lb, n.lo + i * 3, none⟩ = some (.int .i64 (n.F i))
  t : ∀ i, i < n.ln → w.cell? ⟨n.lb, n.lo + i * 3 + 1, none⟩ = some (.int .i64 (n.T i))
  e : ∀ i, i < n.ln → w.cell? ⟨n.lb, n.lo + i * 3 + 2, none⟩ = some (.int .i64 (n.E i))
  len : n.ln ≤ maxLen

theorem NetM.In.below {n : NetM} {N k : Nat} {w w' : World} (h : n.In N w) (hb : Below k w w') (hk : N ≤ k) : n.In N w' where
  a := h.a.below hb hk
  la := h.la
  lb := h.lb
  f := fun i hi => by rw [hb.cell (p := ⟨n.lb, n.lo + i * 3, none⟩) (Nat.lt_of_lt_of_le (h.lb (by omega)) hk)]; exact h.f i hi
  t := fun i hi => by rw [hb.cell (p := ⟨n.lb, n.lo + i * 3 + 1, none⟩) (Nat.lt_of_lt_of_le (h.lb (by omega)) hk)]; exact h.t i hi
  e := fun i hi => by rw [hb.cell (p := ⟨n.lb, n.lo + i * 3 + 2, none⟩) (Nat.lt_of_lt_of_le (h.lb (by omega)) hk)]; exact h.e i hi
  len := h.len
theorem NetM.In.mono {n : NetM} {N k : Nat} {w : World} (h : n.In N w) (hk : N ≤ k) : n.In k w where
  a := h.a.mono hk
  la := h.la
  lb := fun h0 => Nat.lt_of_lt_of_le (h.lb h0) hk
  f := h.f
  t := h.t
  e := h.e
  len := h.len
theorem NetM.In.grown {n : NetM} {w w' : World} (h : n.In w.heap.size w) (hb : Below w.heap.size w w') : n.In w'.heap.size w' :=
  (h.below hb (Nat.le_refl _)).mono hb.size
theorem Mat.In.grown {m : Mat} {w w' : World} (h : m.In w.heap.size w) (hb : Below w.heap.size w w') : m.In w'.heap.size w' :=
  (h.below hb (Nat.le_refl _)).mono hb.size

set_option maxHeartbeats 400000 in
theorem nbelow_any (x n : Int) (w : World) :
    Calls Try.prog 100 #[.int .i64 x, .int .i64 n] w fun e w' => e = .returned (.bool (decide (0 ≤ x) && decide (x < n))) ∧ w' = w := by
  by_cases h : 0 ≤ x
  · go_enter Try.func100, Try.ntmps100
    go_wp2
    go_ret
    exact ⟨by simp [h], rfl⟩
  · go_enter Try.func100, Try.ntmps100
    go_wp2
    go_ret
    exact ⟨by simp; omega, rfl⟩

set_option maxHeartbeats 1000000 in
theorem square_any (m : Mat) (s : Int) (n : Nat) (w : World) (h : m.In n w) :
    Calls Try.prog 75 #[m.val, .int .i64 s] w fun e w' => e = .returned (.bool (((m.t.len : Int) == s) && m.t.wide s)) ∧ w' = w := by
  have hlen := h.len
  unfold maxLen at hlen
  unfold Mat.val
  by_cases hl : (m.t.len : Int) = s
  · have hl' : ((m.t.len : Int) != s) = false := by simp [hl]
    have hl2 : ((m.t.len : Int) == s) = true := by simp [hl]
    have Hl2 := hide hl2
    clear hl hl2
    go_enter Try.func75, Try.ntmps75
    go_wp2
    go_loop [6, 13] (fun _ i => ∃ k : Nat, k ≤ m.t.len ∧ i = .int .i64 k ∧ Hid (∀ r, r < k → (m.t.L r : Int) = s)) (fun _ i => m.t.len - (intOf i).toNat)
    case atStart => exact ⟨0, Nat.zero_le _, rfl, hide fun r hr => absurd hr (Nat.not_lt_zero _)⟩
    case round =>
      obtain ⟨k, hk, rfl, Hall⟩ := hrel
      by_cases hlt : k < m.t.len
      · have hga := h.ga (by omega)
        have hrow := h.row k hlt
        have hlens := h.lens k hlt
        unfold maxLen at hlens
        by_cases he : (m.t.L k : Int) = s
        · have he' : ((m.t.L k : Int) != s) = false := by simp [he]
          have He := hide he
          clear he
          go_wp2
          go_round
          case rel => exact ⟨k + 1, by omega, by go_num, hide fun r hr => by
            by_cases e : r = k
            · subst e; exact He.out
            · exact Hall.out r (by omega)⟩
          case measure => simp [intOf]; omega
        · have he' : ((m.t.L k : Int) != s) = true := by simp [he]
          have Hw := hide (Tab.wide_false hlt he)
          clear he
          go_wp2
          go_ret
          exact ⟨by rw [Hw.out, Bool.and_false]; rfl, rfl⟩
      · have Hw : Hid (m.t.wide s = true) := hide ((m.t.wide_iff s).2 (fun r hr => Hall.out r (by omega)))
        go_wp2
        go_ret
        exact ⟨by rw [Hw.out, Hl2.out]; rfl, rfl⟩
  · have hl' : ((m.t.len : Int) != s) = true := by simp [hl]
    have Hl2 : Hid (((m.t.len : Int) == s) = false) := hide (by simp [hl])
    clear hl
    go_enter Try.func75, Try.ntmps75
    go_wp2
    go_ret
    exact ⟨by rw [Hl2.out]; rfl, rfl⟩

set_option maxHeartbeats 1000000 in
theorem allBelow_any (m : Mat) (s : Int) (n : Nat) (w : World) (h : m.In n w) :
    Calls Try.prog 76 #[m.val, .int .i64 s] w fun e w' => e = .returned (.bool (m.t.routes s)) ∧ w' = w := by
  have hlen := h.len
  unfold maxLen at hlen
  unfold Mat.val
  go_enter Try.func76, Try.ntmps76
  go_wp2
  go_loop [6, 8, 11] (fun _ _ i => ∃ k : Nat, k ≤ m.t.len ∧ i = .int .i64 k ∧ Hid (∀ r, r < k → ∀ c, c < m.t.L r → 0 ≤ m.t.Z r c ∧ m.t.Z r c < s)) (fun _ _ i => m.t.len - (intOf i).toNat)
  case atStart => exact ⟨0, Nat.zero_le _, rfl, hide fun r hr => absurd hr (Nat.not_lt_zero _)⟩
  case round =>
    obtain ⟨k, hk, rfl, Hall⟩ := hrel
    by_cases hlt : k < m.t.len
    · have hga := h.ga (by omega)
      have hrow := h.row k hlt
      have hlens := h.lens k hlt
      unfold maxLen at hlens
      go_wp2
      go_loop [8, 17] (fun _ j => ∃ c : Nat, c ≤ m.t.L k ∧ j = .int .i64 c ∧ Hid (∀ c', c' < c → 0 ≤ m.t.Z k c' ∧ m.t.Z k c' < s)) (fun _ j => m.t.L k - (intOf j).toNat)
      case atStart => exact ⟨0, Nat.zero_le _, rfl, hide fun r hr => absurd hr (Nat.not_lt_zero _)⟩
      case round =>
        obtain ⟨c, hc, rfl, Hrow⟩ := hrel
        by_cases hcl : c < m.t.L k
        · have hA := (h.addr k hlt (by omega)).1
          have hcell := h.cell k hlt c hcl
          go_wp2_with fail
          go_at_call 100
          refine (nbelow_any _ _ _).mono ?_
          rintro e w' ⟨rfl, rfl⟩
          by_cases hin : 0 ≤ m.t.Z k c ∧ m.t.Z k c < s
          · have hb : (decide (0 ≤ m.t.Z k c) && decide (m.t.Z k c < s)) = true := by simp [hin]
            rw [hb]
            have Hin := hide hin
            clear hin hb
            go_wp2
            go_round
            case rel =>
              have hn : ∀ c', c' < c + 1 → 0 ≤ m.t.Z k c' ∧ m.t.Z k c' < s := fun c' hc' => by
                by_cases e : c' = c
                · subst e; exact Hin.out
                · exact Hrow.out c' (by omega)
              rw [← hA]; refine ⟨trivial, ?_⟩; (repeat apply Exists.intro); refine ⟨?_, rfl⟩; exact ⟨c + 1, by omega, by go_num, hide hn⟩
            case measure => simp [intOf]; omega
          · have hb : (decide (0 ≤ m.t.Z k c) && decide (m.t.Z k c < s)) = false := by simp; omega
            rw [hb]
            have hw := hide (Tab.routes_false (s := s) hlt hcl (by omega))
            clear hin hb
            go_wp2
            go_ret
            exact ⟨by rw [hw.out]; rfl, rfl⟩
        · go_wp2
          go_round
          case rel =>
            have hfin : ∀ r, r < k + 1 → ∀ c, c < m.t.L r → 0 ≤ m.t.Z r c ∧ m.t.Z r c < s := fun r hr => by
              by_cases e : r = k
              · subst e; exact fun c' hc' => Hrow.out c' (by omega)
              · exact Hall.out r (by omega)
            exact ⟨_, _, _, _, ⟨k + 1, by omega, by go_num, hide hfin⟩, rfl, rfl, rfl, rfl⟩
          case measure => simp [intOf]; omega
    · have hw : Hid (m.t.routes s = true) := hide ((m.t.routes_iff s).2 (fun r hr => Hall.out r (by omega)))
      go_wp2
      go_ret
      exact ⟨by rw [hw.out]; rfl, rfl⟩

set_option maxHeartbeats 400000 in
theorem own_any (n : NetM) (i j : Nat) (w : World) (h0 : 2 ≤ n.a.size) (h1 : n.a.size ≤ 24) :
    Calls Try.prog 68 #[n.val, .int .i64 i, .int .i64 j] w fun e w' => e = .returned (.int .i64 (n.net.begin i j)) ∧ Below w.heap.size w w' := by
  have Hd : Hid (n.net.begin i j = if i = j then 0 else n.a.size - 1) := hide rfl
  have hb0 : ∀ o, Below w.heap.size w (w.alloc o) := fun o => (Below.refl _ _).alloc (Nat.le_refl _) _
  simp only [NetM.val, NetM.cells, Mat.val]
  by_cases e : i = j
  · have Hd2 : Hid (n.net.begin i j = 0) := hide (by rw [Hd.out, if_pos e])
    subst e
    clear Hd
    go_enter Try.func68, Try.ntmps68
    go_wp2
    go_ret
    exact ⟨by rw [Hd2.out]; rfl, hb0 _⟩
  · have he : ((i : Int) == (j : Int)) = false := by simp; omega
    have Hd2 : Hid (n.net.begin i j = n.a.size - 1) := hide (by rw [Hd.out, if_neg e])
    clear e Hd
    go_enter Try.func68, Try.ntmps68
    go_wp2
    go_ret
    exact ⟨by rw [Hd2.out]; rfl, hb0 _⟩

end Go.Proofs.Ytgjkdpgcogekmaa
