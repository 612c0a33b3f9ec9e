/-
  Nets in memory; state.Square; state.Own.
-/
import Derived.Test.YtjhkadffaephmabHops
import Derived.Test.YtjhkadffaephmabNetQ
import Derived.Test.YtjhkadffaephmabFun
namespace Go.Proofs.Ytjhkadffaephmab
set_option maxRecDepth 100000
open Go.RowKit

/-- A net in memory. -/
structure NetM where
  a : AlgM
  nodes : Int
  la : Option Addr
  ln : Nat
  lc : Nat
  lb : Nat
  lo : Nat
  F : Nat → Int
  T : Nat → Int
  E : Nat → Int

def NetM.cells (n : NetM) : Array Value := #[.int .i64 n.a.size, n.a.B.val, n.a.E.val, .int .i64 n.nodes, .slice n.la n.ln n.lc]
def NetM.val (n : NetM) : Value := .agg n.cells
def NetM.net (n : NetM) : Net := ⟨n.a.alg, n.nodes, n.ln, n.F, n.T, n.E⟩

structure NetM.In (n : NetM) (N : Nat) (w : World) : Prop where
  a : n.a.In N w
  la : 0 < n.ln → n.la = some ⟨n.lb, n.lo, none⟩
  lb : 0 < n.ln → n.lb < N
  f : ∀ i, i < n.ln → w.cell? ⟨n.lb, n.lo + i * 3, none⟩ = some (.int .i64 (n.F i))
  t : ∀ i, i < n.ln → w.cell? ⟨n.lb, n.lo + i * 3 + 1, none⟩ = some (.int .i64 (n.T i))
  e : ∀ i, i < n.ln → w.cell? ⟨n.lb, n.lo + i * 3 + 2, none⟩ = some (.int .i64 (n.E i))
  len : n.ln ≤ maxLen

theorem NetM.In.below {n : NetM} {N k : Nat} {w w' : World} (h : n.In N w) (hb : Below k w w') (hk : N ≤ k) : n.In N w' where
  a := h.a.below hb hk
  la := h.la
  lb := h.lb
  f := fun i hi => by rw [hb.cell (p := ⟨n.lb, n.lo + i * 3, none⟩) (Nat.lt_of_lt_of_le (h.lb (by omega)) hk)]; exact h.f i hi
  t := fun i hi => by rw [hb.cell (p := ⟨n.lb, n.lo + i * 3 + 1, none⟩) (Nat.lt_of_lt_of_le (h.lb (by omega)) hk)]; exact h.t i hi
  e := fun i hi => by rw [hb.cell (p := ⟨n.lb, n.lo + i * 3 + 2, none⟩) (Nat.lt_of_lt_of_le (h.lb (by omega)) hk)]; exact h.e i hi
  len := h.len
theorem NetM.In.mono {n : NetM} {N k : Nat} {w : World} (h : n.In N w) (hk : N ≤ k) : n.In k w where
  a := h.a.mono hk
  la := h.la
  lb := fun h0 => Nat.lt_of_lt_of_le (h.lb h0) hk
  f := h.f
  t := h.t
  e := h.e
  len := h.len
theorem NetM.In.grown {n : NetM} {w w' : World} (h : n.In w.heap.size w) (hb : Below w.heap.size w w') : n.In w'.heap.size w' :=
  (h.below hb (Nat.le_refl _)).mono hb.size
theorem Mat.In.grown {m : Mat} {w w' : World} (h : m.In w.heap.size w) (hb : Below w.heap.size w w') : m.In w'.heap.size w' :=
  (h.below hb (Nat.le_refl _)).mono hb.size

theorem calls_square1 (args : Array Value) (W : World) : (callFunc 175 args).run Try.prog W = .ok (.enter 175 args) W := by rfl

set_option maxHeartbeats 400000 in
theorem square1_any (a : Option Addr) (l q bx : Nat) (s : Int) (w : World) (h : w.cell? ⟨bx, 0, none⟩ = some (.int .i64 s)) :
    Calls Try.prog 175 #[.slice a l q, .pointer (some ⟨bx, 0, none⟩)] w fun e w' => e = .returned (.bool ((l : Int) != s)) ∧ w' = w := by
  go_enter Try.func175, Try.ntmps175
  go_wp2
  go_ret
  exact ⟨rfl, rfl⟩

theorem wide_any (t : Tab) (s : Int) : (!(List.range t.len).any fun r => (t.L r : Int) != s) = t.wide s := by
  unfold Tab.wide
  rw [List.all_eq_not_any_not]
  rfl

set_option maxHeartbeats 1000000 in
theorem square_any (m : Mat) (s : Int) (w : World) (h : m.In w.heap.size w) :
    Calls Try.prog 118 #[m.val, .int .i64 s] w fun e w' => e = .returned (.bool (((m.t.len : Int) == s) && m.t.wide s)) ∧ Below w.heap.size w w' := by
  have hBa : Below w.heap.size w (w.alloc (.cells #[.int .i64 s] 3)) := (Below.refl _ w).alloc (Nat.le_refl _) _
  have b0 := Blk.new w #[.int .i64 s] 3
  have HC := hide (containsFunc_rows 175 #[.pointer (some ⟨w.heap.size, 0, none⟩)] m (fun r => (m.t.L r : Int) != s) _ (h.grown hBa) calls_square1 (fun i W hi hB => by
    refine (square1_any (m.A i) (m.t.L i) (m.C i) w.heap.size s W ((b0.below hB b0.lt).cell 0)).mono ?_
    rintro e w' ⟨rfl, rfl⟩
    exact ⟨rfl, Below.refl _ _⟩))
  have HBa := hide hBa
  have HI := hide (wide_any m.t s)
  simp only [Mat.val] at HC ⊢
  clear h hBa b0
  by_cases hl : (m.t.len : Int) = s
  · have hl' : ((m.t.len : Int) != s) = false := by simp [hl]
    have Hl2 : Hid (((m.t.len : Int) == s) = true) := hide (by simp [hl])
    clear hl
    go_enter Try.func118, Try.ntmps118
    go_wp2_with fail
    go_at_call 120
    refine HC.out.mono ?_
    rintro e w1 ⟨rfl, hb1⟩
    have HB := hide (HBa.out.trans (hb1.mono HBa.out.size))
    generalize hv : ((List.range m.t.len).any fun r => (m.t.L r : Int) != s) = v at HI ⊢
    clear hv hb1 HC
    go_wp2
    go_ret
    exact ⟨by rw [Hl2.out, ← HI.out]; rfl, HB.out⟩
  · have hl' : ((m.t.len : Int) != s) = true := by simp [hl]
    have Hl2 : Hid (((m.t.len : Int) == s) = false) := hide (by simp [hl])
    clear hl HC HI
    go_enter Try.func118, Try.ntmps118
    go_wp2
    go_ret
    exact ⟨by rw [Hl2.out]; rfl, HBa.out⟩

set_option maxHeartbeats 400000 in
theorem own_any (n : NetM) (i j : Nat) (w : World) (h0 : 2 ≤ n.a.size) (h1 : n.a.size ≤ 24) :
    Calls Try.prog 84 #[n.val, .int .i64 i, .int .i64 j] w fun e w' => e = .returned (.int .i64 (n.net.begin i j)) ∧ Below w.heap.size w w' := by
  have Hd : Hid (n.net.begin i j = if i = j then 0 else n.a.size - 1) := hide rfl
  have hb0 : ∀ o, Below w.heap.size w (w.alloc o) := fun o => (Below.refl _ _).alloc (Nat.le_refl _) _
  simp only [NetM.val, NetM.cells, Mat.val]
  by_cases e : i = j
  · have Hd2 : Hid (n.net.begin i j = 0) := hide (by rw [Hd.out, if_pos e])
    subst e
    clear Hd
    go_enter Try.func84, Try.ntmps84
    go_wp2
    go_ret
    exact ⟨by rw [Hd2.out]; rfl, hb0 _⟩
  · have he : ((i : Int) == (j : Int)) = false := by simp; omega
    have Hd2 : Hid (n.net.begin i j = n.a.size - 1) := hide (by rw [Hd.out, if_neg e])
    clear e Hd
    go_enter Try.func84, Try.ntmps84
    go_wp2
    go_ret
    exact ⟨by rw [Hd2.out]; rfl, hb0 _⟩

end Go.Proofs.Ytjhkadffaephmab
