/-
  Our own texts, bundled: a claim holds few files.
-/
import Derived.Test.YtjhkadffaephmabGreatCutEnginePlaysAB
import Derived.Test.YtjhkadffaephmabGreatCutEnginePlaysAC
import Derived.Laws.MakeOwn
import Derived.Laws.OwnMore
import Derived.Deep.RegionHeld3
import Derived.RegionTactic
import Derived.Deep.RegionWith
import Derived.Test.YtjhkadffaephmabGreatCutEnginePlaysAA
import Derived.Deep.AppendLies
import Derived.Lib.SmallJoins
import Derived.Maps.Range
/-
 signpostref.SameInts, SameState, SameAlgebra.
-/
namespace Go.Proofs.YtjhkadffaephmabGreat
open Go.RowKit

/-- A list of numbers in memory. -/
structure Ints (a : Option Addr) (l b o : Nat) (f : Nat → Int) (w : World) : Prop where
 addr : 0 < l → a = some ⟨b, o, none⟩
 cell : ∀ i, i < l → w.cell? ⟨b, o + i, none⟩ = some (.int .i64 (f i))
 len : l ≤ maxLen

theorem ints_drewN {a : Option Addr} {l b o : Nat} {f : Nat → Int} {w : World} (h : Ints a l b o f w) (n : Nat) : Ints a l b o f (w.drewN n) := ⟨h.addr, h.cell, h.len⟩

def sameInts (l m : Nat) (f g : Nat → Int) : Bool := (l == m) && (List.range l).all fun i => f i == g i
theorem sameInts_iff {l m : Nat} {f g : Nat → Int} : sameInts l m f g = true ↔ l = m ∧ ∀ i, i < l → f i = g i := by
 simp [sameInts]
theorem sameInts_false {l m : Nat} {f g : Nat → Int} {i : Nat} (hi : i < l) (h : f i ≠ g i) : sameInts l m f g = false := by
 rw [Bool.eq_false_iff]; intro hw; exact h ((sameInts_iff.1 hw).2 i hi)

set_option maxHeartbeats 1000000 in
theorem sameInts_any (a1 a2 : Option Addr) (l1 l2 q1 q2 b1 o1 b2 o2 : Nat) (f g : Nat → Int) (w : World) (h1 : Ints a1 l1 b1 o1 f w) (h2 : Ints a2 l2 b2 o2 g w) :
  Calls Tryz.prog 38 #[.slice a1 l1 q1, .slice a2 l2 q2] w fun e w' => e = .returned (.bool (sameInts l1 l2 f g)) ∧ ∃ m, w' = w.drewN m := by
 have hl1 := h1.len
 have hl2 := h2.len
 unfold maxLen at hl1 hl2
 by_cases hl : l1 = l2
 ·subst hl
  go_enter Tryz.func38, Tryz.ntmps38
  go_wp2
  go_loopw [5] (fun i wr => ∃ k : Nat, k ≤ l1 ∧ i = .int .i64 k ∧ Hid (∀ r, r < k → f r = g r) ∧ Hid (∃ m, wr = w.drewN m)) (fun i _ => l1 - (intOf i).toNat)
  case atStart => exact ⟨0, Nat.zero_le _, rfl, hide (fun r hr => absurd hr (Nat.not_lt_zero _)), hide ⟨0, rfl⟩⟩
  case round =>
   obtain ⟨k, hk, rfl, Hall, HD⟩ := hrel
   by_cases hlt : k < l1
   ·have ha1 := h1.addr (by omega)
    have ha2 := h2.addr (by omega)
    have hc1 : wr.cell? ⟨b1, o1 + k, none⟩ = some (.int .i64 (f k)) := by obtain ⟨m, rfl⟩ := HD.out; exact h1.cell k hlt
    have hc2 : wr.cell? ⟨b2, o2 + k, none⟩ = some (.int .i64 (g k)) := by obtain ⟨m, rfl⟩ := HD.out; exact h2.cell k hlt
    have hki : (k : Int) < (l1 : Int) := by omega
    by_cases he : f k = g k
    ·have he' : (f k != g k) = false := by simp [he]
     have He := hide he
     clear he
     go_wp2_with fail
     go_quiet (fail)
     go_wp2
     go_roundw
     case rel =>
      have hn : ∀ r, r < k + 1 → f r = g r := fun r hr => by
       by_cases e : r = k
       ·subst e; exact He.out
       ·exact Hall.out r (by omega)
      exact ⟨k + 1, by omega, by go_num, hide hn, hide (by obtain ⟨m, rfl⟩ := HD.out; exact ⟨_, by rw [World.drewN_drewN]⟩)⟩
     case measure => simp [intOf]; omega
    ·have he' : (f k != g k) = true := by simp [he]
     have Hw := hide (sameInts_false (m := l1) hlt he)
     clear he
     go_wp2_with fail
     go_quiet (fail)
     go_wp2
     go_ret
     exact ⟨by rw [Hw.out]; rfl, by obtain ⟨m, rfl⟩ := HD.out; exact ⟨_, by rw [World.drewN_drewN]⟩⟩
   ·have Hw : Hid (sameInts l1 l1 f g = true) := hide (sameInts_iff.2 ⟨rfl, fun i hi => Hall.out i (by omega)⟩)
    go_wp2
    go_ret
    exact ⟨by rw [Hw.out]; rfl, HD.out⟩
 ·have hne : ((l1 : Int) != (l2 : Int)) = true := by simp; omega
  have Hw : Hid (sameInts l1 l2 f g = false) := hide (by simp [sameInts, hl])
  clear hl
  go_enter Tryz.func38, Tryz.ntmps38
  go_wp2
  go_ret
  exact ⟨by rw [Hw.out]; rfl, 0, rfl⟩

/-- Are two tables the same? -/
def Tab.same (s t : Tab) : Bool := (s.len == t.len) && (List.range s.len).all fun r => sameInts (s.L r) (t.L r) (s.Z r) (t.Z r)
theorem Tab.same_iff {s t : Tab} : s.same t = true ↔ s.len = t.len ∧ ∀ r, r < s.len → s.L r = t.L r ∧ ∀ c, c < s.L r → s.Z r c = t.Z r c := by
 simp only [Tab.same, Bool.and_eq_true, beq_iff_eq, List.all_eq_true, List.mem_range, sameInts_iff]
theorem Tab.same_false {s t : Tab} {r : Nat} (hr : r < s.len) (h : sameInts (s.L r) (t.L r) (s.Z r) (t.Z r) = false) : s.same t = false := by
 rw [Bool.eq_false_iff]; intro hw
 simp only [Tab.same, Bool.and_eq_true, List.all_eq_true, List.mem_range] at hw
 rw [hw.2 r hr] at h
 cases h
theorem Tab.same_true {s t : Tab} (hl : s.len = t.len) (h : ∀ r, r < s.len → sameInts (s.L r) (t.L r) (s.Z r) (t.Z r) = true) : s.same t = true := by
 simp only [Tab.same, Bool.and_eq_true, List.all_eq_true, List.mem_range]
 exact ⟨by simp [hl], h⟩
theorem Mat.In.ints {m : Mat} {n : Nat} {w : World} (h : m.In n w) {r : Nat} (hr : r < m.t.len) : Ints (m.A r) (m.t.L r) (m.RB r) (m.RO r) (m.t.Z r) w :=
 ⟨fun h0 => (h.addr r hr h0).1, fun i hi => h.cell r hr i hi, h.lens r hr⟩

set_option maxHeartbeats 1000000 in
theorem sameState_any (x y : Mat) (n : Nat) (w : World) (h1 : x.In n w) (h2 : y.In n w) :
  Calls Tryz.prog 68 #[x.val, y.val] w fun e w' => e = .returned (.bool (x.t.same y.t)) ∧ ∃ m, w' = w.drewN m := by
 have hl1 := h1.len
 have hl2 := h2.len
 unfold maxLen at hl1 hl2
 simp only [Mat.val]
 by_cases hl : x.t.len = y.t.len
 ·have Hl := hide hl
  have hne : ((x.t.len : Int) != (y.t.len : Int)) = false := by simp [hl]
  clear hl
  go_enter Tryz.func68, Tryz.ntmps68
  go_wp2
  go_loopw [5] (fun i wr => ∃ k : Nat, k ≤ x.t.len ∧ i = .int .i64 k ∧ Hid (∀ r, r < k → sameInts (x.t.L r) (y.t.L r) (x.t.Z r) (y.t.Z r) = true) ∧ Hid (∃ m, wr = w.drewN m)) (fun i _ => x.t.len - (intOf i).toNat)
  case atStart => exact ⟨0, Nat.zero_le _, rfl, hide (fun r hr => absurd hr (Nat.not_lt_zero _)), hide ⟨0, rfl⟩⟩
  case round =>
   obtain ⟨k, hk, rfl, Hall, HD⟩ := hrel
   by_cases hlt : k < x.t.len
   ·have hlt2 : k < y.t.len := by have := Hl.out; omega
    have ha1 := h1.ga (by omega)
    have ha2 := h2.ga (by omega)
    have hc1 : wr.cell? ⟨x.gb, x.go + k, none⟩ = some (.slice (x.A k) (x.t.L k) (x.C k)) := by obtain ⟨m, rfl⟩ := HD.out; exact h1.row k hlt
    have hc2 : wr.cell? ⟨y.gb, y.go + k, none⟩ = some (.slice (y.A k) (y.t.L k) (y.C k)) := by obtain ⟨m, rfl⟩ := HD.out; exact h2.row k hlt2
    have hki : (k : Int) < (x.t.len : Int) := by omega
    have hki2 : (k : Int) < (y.t.len : Int) := by omega
    have hS := hide (fun q => sameInts_any (x.A k) (y.A k) (x.t.L k) (y.t.L k) (x.C k) (y.C k) _ _ _ _ _ _ (wr.drewN q) (ints_drewN (w := wr) (by obtain ⟨m, rfl⟩ := HD.out; exact ints_drewN (h1.ints hlt) m) q) (ints_drewN (w := wr) (by obtain ⟨m, rfl⟩ := HD.out; exact ints_drewN (h2.ints hlt2) m) q))
    cases hs : sameInts (x.t.L k) (y.t.L k) (x.t.Z k) (y.t.Z k) with
    | true =>
     simp only [hs] at hS
     have Hs := hide hs
     clear hs
     go_wp2_with fail
     go_quiet ((go_at_call 38; exact Calls.quiet_of (hS.out _)))
     go_wp2
     go_roundw
     case rel =>
      have hn : ∀ r, r < k + 1 → sameInts (x.t.L r) (y.t.L r) (x.t.Z r) (y.t.Z r) = true := fun r hr => by
       by_cases e : r = k
       ·subst e; exact Hs.out
       ·exact Hall.out r (by omega)
      exact ⟨k + 1, by omega, by go_num, hide hn, hide (by obtain ⟨m, rfl⟩ := HD.out; exact ⟨_, by rw [World.drewN_drewN]⟩)⟩
     case measure => simp [intOf]; omega
    | false =>
     simp only [hs] at hS
     have Hw := hide (Tab.same_false hlt hs)
     clear hs
     go_wp2_with fail
     go_quiet ((go_at_call 38; exact Calls.quiet_of (hS.out _)))
     go_wp2
     go_ret
     exact ⟨by rw [Hw.out]; rfl, by obtain ⟨m, rfl⟩ := HD.out; exact ⟨_, by rw [World.drewN_drewN]⟩⟩
   ·have Hw : Hid (x.t.same y.t = true) := hide (Tab.same_true Hl.out (fun i hi => Hall.out i (by omega)))
    go_wp2
    go_ret
    exact ⟨by rw [Hw.out]; rfl, HD.out⟩
 ·have hne : ((x.t.len : Int) != (y.t.len : Int)) = true := by simp; omega
  have Hw : Hid (x.t.same y.t = false) := hide (by simp [Tab.same, hl])
  clear hl
  go_enter Tryz.func68, Tryz.ntmps68
  go_wp2
  go_ret
  exact ⟨by rw [Hw.out]; rfl, 0, rfl⟩

end Go.Proofs.YtjhkadffaephmabGreat

/-
 slices.IndexFunc and slices.ContainsFunc, whatever the closure, at numbers and at rows; state.Below, state.AllBelow.
-/
namespace Go.Proofs.YtjhkadffaephmabGreat
set_option maxRecDepth 100000
open Go.RowKit

theorem Ints.below {a : Option Addr} {l b o k : Nat} {f : Nat → Int} {w w' : World} (h : Ints a l b o f w) (hb : Below k w w') (hk : 0 < l → b < k) : Ints a l b o f w' :=
 ⟨h.addr, fun i hi => by rw [hb.cell (p := ⟨b, o + i, none⟩) (hk (by omega))]; exact h.cell i hi, h.len⟩

set_option maxHeartbeats 1000000 in
theorem indexFunc_ints (fid : Nat) (cap : Array Value) (a : Option Addr) (l q b o : Nat) (f : Nat → Int) (p : Nat → Bool) (w : World) (h : Ints a l b o f w) (hb : 0 < l → b < w.heap.size)
  (hcf : ∀ (args : Array Value) (W : World), (callFunc fid args).run Tryz.prog W = .ok (.enter fid args) W)
  (hat : ∀ (i : Nat) (W : World), i < l → Below w.heap.size w W → Calls Tryz.prog fid (#[.int .i64 (f i)] ++ cap) W fun e w' => e = .returned (.bool (p i)) ∧ Below W.heap.size W w') :
  Calls Tryz.prog 97 #[.slice a l q, .func (.func fid) #[] cap] w fun e w' => (∃ r : Int, e = .returned (.int .i64 r) ∧ decide (0 ≤ r) = (List.range l).any p) ∧ Below w.heap.size w w' := by
 have hlen := h.len
 unfold maxLen at hlen
 have HA := hide hat
 have H := hide h
 have Hb := hide hb
 clear hat h
 go_enter Tryz.func97, Tryz.ntmps97
 go_wp2
 go_loopw [5, 8] (fun _ i wr => ∃ k : Nat, k ≤ l ∧ i = .int .i64 k ∧ Hid (∀ r, r < k → p r = false) ∧ Hid (Below w.heap.size w wr)) (fun _ i _ => l - (intOf i).toNat)
 case atStart => exact ⟨0, Nat.zero_le _, rfl, hide (fun r hr => absurd hr (Nat.not_lt_zero _)), hide (Below.refl _ _)⟩
 case round =>
  obtain ⟨k, hk, rfl, Hall, HB⟩ := hrel
  by_cases hlt : k < l
  ·have ha := H.out.addr (by omega)
   have hc := (H.out.below HB.out Hb.out).cell k hlt
   have hki : (k : Int) < (l : Int) := by omega
   have HC := hide (HA.out k wr hlt HB.out)
   by_cases hp : p k = true
   ·rw [hp] at HC
    have Hw : Hid ((List.range l).any p = true) := hide (List.any_eq_true.2 ⟨k, List.mem_range.2 hlt, hp⟩)
    clear hp
    go_wp2_with fail
    refine HC.out.mono ?_
    rintro e w2 ⟨rfl, hb2⟩
    have HB2 := hide (HB.out.trans (hb2.mono HB.out.size))
    clear hb2
    go_wp2
    go_ret
    exact ⟨⟨(k : Int), rfl, by rw [Hw.out]; simp⟩, HB2.out⟩
   ·have hpf : p k = false := by simpa using hp
    rw [hpf] at HC
    have Hpf := hide hpf
    clear hp hpf
    go_wp2_with fail
    refine HC.out.mono ?_
    rintro e w2 ⟨rfl, hb2⟩
    have HB2 := hide (HB.out.trans (hb2.mono HB.out.size))
    clear hb2
    have Hn : Hid (∀ r, r < k + 1 → p r = false) := hide (fun r hr => by
     by_cases e : r = k
     ·subst e; exact Hpf.out
     ·exact Hall.out r (by omega))
    go_wp2
    go_roundw
    case rel =>
     first
     | exact ⟨k + 1, by omega, by go_num, Hn, HB2⟩
     | ((try rw [← ha]); (repeat apply Exists.intro); refine ⟨?_, rfl⟩; exact ⟨k + 1, by omega, by go_num, Hn, HB2⟩)
    case measure => simp [intOf]; omega
  ·have Hw : Hid ((List.range l).any p = false) := hide (by
    rw [List.any_eq_false]
    intro r hr
    rw [Hall.out r (by have := List.mem_range.1 hr; omega)]; decide)
   go_wp2
   go_ret
   exact ⟨⟨-1, rfl, by rw [Hw.out]; rfl⟩, HB.out⟩

set_option maxHeartbeats 400000 in
theorem containsFunc_ints (fid : Nat) (cap : Array Value) (a : Option Addr) (l q b o : Nat) (f : Nat → Int) (p : Nat → Bool) (w : World) (h : Ints a l b o f w) (hb : 0 < l → b < w.heap.size)
  (hcf : ∀ (args : Array Value) (W : World), (callFunc fid args).run Tryz.prog W = .ok (.enter fid args) W)
  (hat : ∀ (i : Nat) (W : World), i < l → Below w.heap.size w W → Calls Tryz.prog fid (#[.int .i64 (f i)] ++ cap) W fun e w' => e = .returned (.bool (p i)) ∧ Below W.heap.size W w') :
  Calls Tryz.prog 83 #[.slice a l q, .func (.func fid) #[] cap] w fun e w' => e = .returned (.bool ((List.range l).any p)) ∧ Below w.heap.size w w' := by
 have HC := hide (indexFunc_ints fid cap a l q b o f p w h hb hcf hat)
 skip
 clear h hat hcf
 go_enter Tryz.func83, Tryz.ntmps83
 go_wp2_with fail
 go_at_call 97
 refine HC.out.mono ?_
 rintro e w1 ⟨⟨r, rfl, hr⟩, hb⟩
 have HB := hide hb
 have HR := hide hr
 clear hb hr
 go_wp2
 go_ret
 exact ⟨by rw [← HR.out]; rfl, HB.out⟩

set_option maxHeartbeats 1000000 in
theorem indexFunc_rows (fid : Nat) (cap : Array Value) (x : Mat) (p : Nat → Bool) (w : World) (h : x.In w.heap.size w)
  (hcf : ∀ (args : Array Value) (W : World), (callFunc fid args).run Tryz.prog W = .ok (.enter fid args) W)
  (hat : ∀ (i : Nat) (W : World), i < x.t.len → Below w.heap.size w W → Calls Tryz.prog fid (#[.slice (x.A i) (x.t.L i) (x.C i)] ++ cap) W fun e w' => e = .returned (.bool (p i)) ∧ Below W.heap.size W w') :
  Calls Tryz.prog 85 #[x.val, .func (.func fid) #[] cap] w fun e w' => (∃ r : Int, e = .returned (.int .i64 r) ∧ decide (0 ≤ r) = (List.range x.t.len).any p) ∧ Below w.heap.size w w' := by
 have hlen := h.len
 unfold maxLen at hlen
 have HA := hide hat
 have H := hide h
 simp only [Mat.val]
 clear hat h
 go_enter Tryz.func85, Tryz.ntmps85
 go_wp2
 go_loopw [5, 8] (fun _ i wr => ∃ k : Nat, k ≤ x.t.len ∧ i = .int .i64 k ∧ Hid (∀ r, r < k → p r = false) ∧ Hid (Below w.heap.size w wr)) (fun _ i _ => x.t.len - (intOf i).toNat)
 case atStart => exact ⟨0, Nat.zero_le _, rfl, hide (fun r hr => absurd hr (Nat.not_lt_zero _)), hide (Below.refl _ _)⟩
 case round =>
  obtain ⟨k, hk, rfl, Hall, HB⟩ := hrel
  by_cases hlt : k < x.t.len
  ·have ha := H.out.ga (by omega)
   have hc := (H.out.below HB.out (Nat.le_refl _)).row k hlt
   have hki : (k : Int) < (x.t.len : Int) := by omega
   have HC := hide (HA.out k wr hlt HB.out)
   by_cases hp : p k = true
   ·rw [hp] at HC
    have Hw : Hid ((List.range x.t.len).any p = true) := hide (List.any_eq_true.2 ⟨k, List.mem_range.2 hlt, hp⟩)
    clear hp
    go_wp2_with fail
    refine HC.out.mono ?_
    rintro e w2 ⟨rfl, hb2⟩
    have HB2 := hide (HB.out.trans (hb2.mono HB.out.size))
    clear hb2
    go_wp2
    go_ret
    exact ⟨⟨(k : Int), rfl, by rw [Hw.out]; simp⟩, HB2.out⟩
   ·have hpf : p k = false := by simpa using hp
    rw [hpf] at HC
    have Hpf := hide hpf
    clear hp hpf
    go_wp2_with fail
    refine HC.out.mono ?_
    rintro e w2 ⟨rfl, hb2⟩
    have HB2 := hide (HB.out.trans (hb2.mono HB.out.size))
    clear hb2
    have Hn : Hid (∀ r, r < k + 1 → p r = false) := hide (fun r hr => by
     by_cases e : r = k
     ·subst e; exact Hpf.out
     ·exact Hall.out r (by omega))
    go_wp2
    go_roundw
    case rel =>
     first
     | exact ⟨k + 1, by omega, by go_num, Hn, HB2⟩
     | ((try rw [← ha]); (repeat apply Exists.intro); refine ⟨?_, rfl⟩; exact ⟨k + 1, by omega, by go_num, Hn, HB2⟩)
    case measure => simp [intOf]; omega
  ·have Hw : Hid ((List.range x.t.len).any p = false) := hide (by
    rw [List.any_eq_false]
    intro r hr
    rw [Hall.out r (by have := List.mem_range.1 hr; omega)]; decide)
   go_wp2
   go_ret
   exact ⟨⟨-1, rfl, by rw [Hw.out]; rfl⟩, HB.out⟩

set_option maxHeartbeats 400000 in
theorem containsFunc_rows (fid : Nat) (cap : Array Value) (x : Mat) (p : Nat → Bool) (w : World) (h : x.In w.heap.size w)
  (hcf : ∀ (args : Array Value) (W : World), (callFunc fid args).run Tryz.prog W = .ok (.enter fid args) W)
  (hat : ∀ (i : Nat) (W : World), i < x.t.len → Below w.heap.size w W → Calls Tryz.prog fid (#[.slice (x.A i) (x.t.L i) (x.C i)] ++ cap) W fun e w' => e = .returned (.bool (p i)) ∧ Below W.heap.size W w') :
  Calls Tryz.prog 60 #[x.val, .func (.func fid) #[] cap] w fun e w' => e = .returned (.bool ((List.range x.t.len).any p)) ∧ Below w.heap.size w w' := by
 have HC := hide (indexFunc_rows fid cap x p w h  hcf hat)
 simp only [Mat.val] at HC ⊢
 clear h hat hcf
 go_enter Tryz.func60, Tryz.ntmps60
 go_wp2_with fail
 go_at_call 85
 refine HC.out.mono ?_
 rintro e w1 ⟨⟨r, rfl, hr⟩, hb⟩
 have HB := hide hb
 have HR := hide hr
 clear hb hr
 go_wp2
 go_ret
 exact ⟨by rw [← HR.out]; rfl, HB.out⟩

set_option maxHeartbeats 400000 in
theorem sbelow_any (x n : Int) (w : World) :
  Calls Tryz.prog 62 #[.int .i64 x, .int .i64 n] w fun e w' => e = .returned (.bool (decide (0 ≤ x) && decide (x < n))) ∧ w' = w := by
 by_cases h : 0 ≤ x
 ·go_enter Tryz.func62, Tryz.ntmps62
  go_wp2
  go_ret
  exact ⟨by simp [h], rfl⟩
 ·go_enter Tryz.func62, Tryz.ntmps62
  go_wp2
  go_ret
  exact ⟨by simp; omega, rfl⟩

theorem calls_allBelow1 (args : Array Value) (W : World) : (callFunc 84 args).run Tryz.prog W = .ok (.enter 84 args) W := by rfl

set_option maxHeartbeats 400000 in
theorem allBelow1_any (x s : Int) (bx : Nat) (w : World) (h : w.cell? ⟨bx, 0, none⟩ = some (.int .i64 s)) :
  Calls Tryz.prog 84 #[.int .i64 x, .pointer (some ⟨bx, 0, none⟩)] w fun e w' => e = .returned (.bool (!(decide (0 ≤ x) && decide (x < s)))) ∧ w' = w := by
 have HS := hide (sbelow_any x s w)
 generalize hv : (decide (0 ≤ x) && decide (x < s)) = v at HS ⊢
 clear hv
 go_enter Tryz.func84, Tryz.ntmps84
 go_wp2_with fail
 go_at_call 62
 refine HS.out.mono ?_
 rintro e w1 ⟨rfl, rfl⟩
 go_wp2
 go_ret
 exact ⟨rfl, rfl⟩

/-- All of a row are routes. -/
def rowIn (l : Nat) (f : Nat → Int) (s : Int) : Bool := (List.range l).all fun j => decide (0 ≤ f j) && decide (f j < s)
theorem rowIn_iff {l : Nat} {f : Nat → Int} {s : Int} : rowIn l f s = true ↔ ∀ j, j < l → 0 ≤ f j ∧ f j < s := by simp [rowIn]
theorem rowIn_any (l : Nat) (f : Nat → Int) (s : Int) : (!(List.range l).any fun j => !(decide (0 ≤ f j) && decide (f j < s))) = rowIn l f s := by
 unfold rowIn
 rw [List.all_eq_not_any_not]

set_option maxHeartbeats 1000000 in
theorem sallBelow_any (a : Option Addr) (l q b o : Nat) (f : Nat → Int) (s : Int) (w : World) (h : Ints a l b o f w) (hb : 0 < l → b < w.heap.size) :
  Calls Tryz.prog 58 #[.slice a l q, .int .i64 s] w fun e w' => e = .returned (.bool (rowIn l f s)) ∧ Below w.heap.size w w' := by
 have hBa : Below w.heap.size w (w.alloc (.cells #[.int .i64 s] 3)) := (Below.refl _ w).alloc (Nat.le_refl _) _
 have b0 := Blk.new w #[.int .i64 s] 3
 have HC := hide (containsFunc_ints 84 #[.pointer (some ⟨w.heap.size, 0, none⟩)] a l q b o f (fun j => !(decide (0 ≤ f j) && decide (f j < s))) _ (h.below hBa hb) (fun h0 => Nat.lt_of_lt_of_le (hb h0) hBa.size) calls_allBelow1 (fun i W hi hB => by
  refine (allBelow1_any (f i) s w.heap.size W ((b0.below hB b0.lt).cell 0)).mono ?_
  rintro e w' ⟨rfl, rfl⟩
  exact ⟨rfl, Below.refl _ _⟩))
 have HBa := hide hBa
 have HI := hide (rowIn_any l f s)
 clear h hb hBa b0
 go_enter Tryz.func58, Tryz.ntmps58
 go_wp2_with fail
 go_at_call 83
 refine HC.out.mono ?_
 rintro e w1 ⟨rfl, hb1⟩
 have HB := hide (HBa.out.trans (hb1.mono HBa.out.size))
 generalize hv : ((List.range l).any fun j => !(decide (0 ≤ f j) && decide (f j < s))) = v at HI ⊢
 clear hv hb1
 go_wp2
 go_ret
 exact ⟨by rw [← HI.out]; rfl, HB.out⟩

end Go.Proofs.YtjhkadffaephmabGreat

/-
 Nets in memory; state.Square; state.Own.
-/
namespace Go.Proofs.YtjhkadffaephmabGreat
set_option maxRecDepth 100000
open Go.RowKit

/-- A net in memory. -/
structure NetM where
 a : AlgM
 nodes : Int
 la : Option Addr
 ln : Nat
 lc : Nat
 lb : Nat
 lo : Nat
 F : Nat → Int
 T : Nat → Int
 E : Nat → Int

def NetM.cells (n : NetM) : Array Value := #[.int .i64 n.a.size, n.a.B.val, n.a.E.val, .int .i64 n.nodes, .slice n.la n.ln n.lc]
def NetM.val (n : NetM) : Value := .agg n.cells
def NetM.net (n : NetM) : Net := ⟨n.a.alg, n.nodes, n.ln, n.F, n.T, n.E⟩

structure NetM.In (n : NetM) (N : Nat) (w : World) : Prop where
 a : n.a.In N w
 la : 0 < n.ln → n.la = some ⟨n.lb, n.lo, none⟩
 lb : 0 < n.ln → n.lb < N
 f : ∀ i, i < n.ln → w.cell? ⟨n.lb, n.lo + i * 3, none⟩ = some (.int .i64 (n.F i))
 t : ∀ i, i < n.ln → w.cell? ⟨n.lb, n.lo + i * 3 + 1, none⟩ = some (.int .i64 (n.T i))
 e : ∀ i, i < n.ln → w.cell? ⟨n.lb, n.lo + i * 3 + 2, none⟩ = some (.int .i64 (n.E i))
 len : n.ln ≤ maxLen

theorem NetM.In.below {n : NetM} {N k : Nat} {w w' : World} (h : n.In N w) (hb : Below k w w') (hk : N ≤ k) : n.In N w' where
 a := h.a.below hb hk
 la := h.la
 lb := h.lb
 f := fun i hi => by rw [hb.cell (p := ⟨n.lb, n.lo + i * 3, none⟩) (Nat.lt_of_lt_of_le (h.lb (by omega)) hk)]; exact h.f i hi
 t := fun i hi => by rw [hb.cell (p := ⟨n.lb, n.lo + i * 3 + 1, none⟩) (Nat.lt_of_lt_of_le (h.lb (by omega)) hk)]; exact h.t i hi
 e := fun i hi => by rw [hb.cell (p := ⟨n.lb, n.lo + i * 3 + 2, none⟩) (Nat.lt_of_lt_of_le (h.lb (by omega)) hk)]; exact h.e i hi
 len := h.len
theorem NetM.In.mono {n : NetM} {N k : Nat} {w : World} (h : n.In N w) (hk : N ≤ k) : n.In k w where
 a := h.a.mono hk
 la := h.la
 lb := fun h0 => Nat.lt_of_lt_of_le (h.lb h0) hk
 f := h.f
 t := h.t
 e := h.e
 len := h.len
theorem NetM.In.grown {n : NetM} {w w' : World} (h : n.In w.heap.size w) (hb : Below w.heap.size w w') : n.In w'.heap.size w' :=
 (h.below hb (Nat.le_refl _)).mono hb.size
theorem Mat.In.grown {m : Mat} {w w' : World} (h : m.In w.heap.size w) (hb : Below w.heap.size w w') : m.In w'.heap.size w' :=
 (h.below hb (Nat.le_refl _)).mono hb.size

set_option maxHeartbeats 400000 in
theorem own_any (n : NetM) (i j : Nat) (w : World) (h0 : 2 ≤ n.a.size) (h1 : n.a.size ≤ 24) :
  Calls Tryz.prog 49 #[n.val, .int .i64 i, .int .i64 j] w fun e w' => e = .returned (.int .i64 (n.net.begin i j)) ∧ Below w.heap.size w w' := by
 have Hd : Hid (n.net.begin i j = if i = j then 0 else n.a.size - 1) := hide rfl
 have hb0 : ∀ o, Below w.heap.size w (w.alloc o) := fun o => (Below.refl _ _).alloc (Nat.le_refl _) _
 simp only [NetM.val, NetM.cells, Mat.val]
 by_cases e : i = j
 ·have Hd2 : Hid (n.net.begin i j = 0) := hide (by rw [Hd.out, if_pos e])
  subst e
  clear Hd
  go_enter Tryz.func49, Tryz.ntmps49
  go_wp2
  go_ret
  exact ⟨by rw [Hd2.out]; rfl, hb0 _⟩
 ·have he : ((i : Int) == (j : Int)) = false := by simp; omega
  have Hd2 : Hid (n.net.begin i j = n.a.size - 1) := hide (by rw [Hd.out, if_neg e])
  clear e Hd
  go_enter Tryz.func49, Tryz.ntmps49
  go_wp2
  go_ret
  exact ⟨by rw [Hd2.out]; rfl, hb0 _⟩

end Go.Proofs.YtjhkadffaephmabGreat

/-
 plan.table: a table that a function makes.
-/
namespace Go.Proofs.YtjhkadffaephmabGreat
set_option maxRecDepth 100000
open Go.RowKit

theorem Tryz.infoInt : (Tryz.prog.info? 3).map (fun i => (i.zero, i.size, i.bytes)) = some (some (.int .i64 0), 1, 8) := by kernel_rfl
theorem Tryz.infoInts : (Tryz.prog.info? 32).map (fun i => (i.zero, i.size, i.bytes)) = some (some (.slice none 0 0), 1, 24) := by kernel_rfl

/-- The cells of a row of which c are made. -/
def rowArr (Z : Nat → Int) (n c : Nat) : Array Value := ((List.range n).map fun j => if j < c then Value.int .i64 (Z j) else .int .i64 0).toArray
theorem rowArr_get {Z : Nat → Int} {n c j : Nat} (h : j < n) : (rowArr Z n c)[j]? = some (if j < c then Value.int .i64 (Z j) else .int .i64 0) := by
 simp [rowArr, h]
theorem rowArr_set {Z : Nat → Int} {n c : Nat} : (rowArr Z n c).setIfInBounds c (.int .i64 (Z c)) = rowArr Z n (c + 1) := by
 apply Array.ext
 ·simp [rowArr]
 ·intro j h1 h2
  have hn : j < n := by simpa [rowArr] using h2
  by_cases e : c = j
  ·subst e
   simp [rowArr]
  ·rw [Array.getElem_setIfInBounds_ne (by simpa [rowArr] using hn) e]
   simp only [rowArr, List.getElem_toArray, List.getElem_map, List.getElem_range]
   by_cases h : j < c
   ·rw [if_pos h, if_pos (by omega)]
   ·rw [if_neg h, if_neg (by omega)]
theorem rowArr_zero (Z : Nat → Int) (n : Nat) : madeCells #[.int .i64 0] n = rowArr Z n 0 := by
 apply Array.ext'
 rw [toList_madeCells_one]
 simp [rowArr, List.map_const']

theorem Blk.other {W : World} {B C : Nat} {vs : Array Value} {t : TypeId} (h : Blk W B vs t) (hne : B ≠ C) (i : Nat) (v : Value) : Blk (W.setCell ⟨C, i, none⟩ v) B vs t := by
 unfold Blk
 rw [show (W.setCell ⟨C, i, none⟩ v).heap[B]? = (W.heap.modify C _)[B]? from rfl, Array.getElem?_modify, if_neg (Ne.symm hne)]
 exact h
theorem Blk.drewN {W : World} {B : Nat} {vs : Array Value} {t : TypeId} (h : Blk W B vs t) (n : Nat) : Blk (W.drewN n) B vs t := h

end Go.Proofs.YtjhkadffaephmabGreat

/-
 A region that draws its order, by what each operation leaves: one obligation an operation, not one an order.
-/
namespace Go.Proofs.YtjhkadffaephmabGreat
open Go

section
variable {P : Program} {ops : Array Oper} {Q : Exit → Act → World → Prop} {md : Region.Mode}

/-- t, but v at i. -/
def upd (t : Nat → Value) (i : Nat) (v : Value) : Nat → Value := fun j => if j = i then v else t j
theorem upd_same (t : Nat → Value) (i : Nat) (v : Value) : upd t i v i = v := by simp [upd]
theorem upd_other (t : Nat → Value) {i j : Nat} (v : Value) (h : j ≠ i) : upd t i v j = t j := by simp [upd, h]

/-- The frame with the operations' values in their slots. -/
def fill : List Oper → Nat → (Nat → Value) → Act → Act
 | [], _, _, a => a
 | o :: os, i, t, a => fill os (i + 1) t (a.put o.dst (t i))

/-- No two operations write one slot. -/
def apartFrom (d : Option Tmp) : List Oper → Bool
 | [] => true
 | o :: os => (match d, o.dst with | some x, some y => !(x == y) | _, _ => true) && apartFrom d os
def allApart : List Oper → Bool
 | [] => true
 | o :: os => apartFrom o.dst os && allApart os

theorem put_put (a : Act) (d : Option Tmp) (u v : Value) : (a.put d u).put d v = a.put d v := by
 cases d <;> simp [Act.put]

theorem fill_put (d : Option Tmp) (v : Value) : ∀ (os : List Oper) (i : Nat) (t : Nat → Value) (a : Act), apartFrom d os = true →
  fill os i t (a.put d v) = (fill os i t a).put d v
 | [], _, _, _, _ => rfl
 | o :: os, i, t, a, h => by
  simp only [apartFrom, Bool.and_eq_true] at h
  have hc : (a.put d v).put o.dst (t i) = (a.put o.dst (t i)).put d v := Act.put_comm a v (t i) (fun x hx hy => by
   subst hx
   rw [hy] at h
   simp at h)
  simp only [fill]
  rw [hc]
  exact fill_put d v os (i + 1) t _ h.2

theorem fill_same : ∀ (os : List Oper) (i k : Nat) (t : Nat → Value) (v : Value) (a : Act), k < i → fill os i (upd t k v) a = fill os i t a
 | [], _, _, _, _, _, _ => rfl
 | o :: os, i, k, t, v, a, h => by
  simp only [fill]
  rw [upd_other t v (by omega)]
  exact fill_same os (i + 1) k t v _ (by omega)

theorem fill_upd : ∀ (os : List Oper) (k i : Nat) (o : Oper) (t : Nat → Value) (v : Value) (a : Act), allApart os = true → os[i]? = some o →
  fill os k (upd t (k + i) v) a = (fill os k t a).put o.dst v
 | [], _, _, _, _, _, _, _, h => by simp at h
 | o' :: os, k, 0, o, t, v, a, hd, h => by
  simp only [allApart, Bool.and_eq_true] at hd
  simp at h
  subst h
  simp only [fill, Nat.add_zero]
  rw [upd_same, fill_same os (k + 1) k t v _ (by omega), ← fill_put _ v os (k + 1) t _ hd.1, put_put]
 | o' :: os, k, i + 1, o, t, v, a, hd, h => by
  simp only [allApart, Bool.and_eq_true] at hd
  simp at h
  simp only [fill]
  rw [upd_other t v (by omega)]
  have := fill_upd os (k + 1) i o t v (a.put o'.dst (t k)) hd.2 h
  rw [show k + (i + 1) = k + 1 + i by omega]
  exact this

/-- What lies in the operation's slot as the region begins. -/
def first (os : List Oper) (a : Act) (i : Nat) : Value :=
 match os[i]? with
 | some o => match o.dst with
  | some d => a.tmps.getD d undef
  | none => undef
 | none => undef

theorem put_self (a : Act) (d : Nat) : a.put (some d) (a.tmps.getD d undef) = a := by
 have h : a.tmps.setIfInBounds d (a.tmps.getD d undef) = a.tmps := by
  apply Array.ext
  ·simp
  ·intro j h1 h2
   by_cases hj : d = j
   ·subst hj; simp [h2]
   ·exact Array.getElem_setIfInBounds_ne h2 hj
 cases a
 simp only [Act.put] at h ⊢
 simp only [h]

theorem fill_self : ∀ (os : List Oper) (k : Nat) (t : Nat → Value) (a : Act), (∀ i o, os[i]? = some o → a.put o.dst (t (k + i)) = a) → fill os k t a = a
 | [], _, _, _, _ => rfl
 | o :: os, k, t, a, h => by
  simp only [fill]
  have h0 := h 0 o rfl
  rw [Nat.add_zero] at h0
  rw [h0]
  exact fill_self os (k + 1) t a (fun i o' hi => by
   have := h (i + 1) o' (by simpa using hi)
   rw [show k + 1 + i = k + (i + 1) by omega]
   exact this)

theorem fill_first (os : List Oper) (a : Act) : fill os 0 (first os a) a = a := fill_self os 0 _ a (fun i o hi => by
 rw [Nat.zero_add]
 unfold first
 simp only [hi]
 cases hd : o.dst with
 | none => rfl
 | some d => exact put_self a d)

/-- Edges lead back. -/
def backOnly : List Oper → Nat → Bool
 | [], _ => true
 | o :: os, i => o.after.all (fun e => decide (e.on < i)) && backOnly os (i + 1)
theorem backOnly_spec : ∀ (os : List Oper) (k i : Nat) (o : Oper), backOnly os k = true → os[i]? = some o → ∀ e ∈ o.after, e.on < k + i
 | [], _, _, _, _, h => by simp at h
 | o' :: os, k, 0, o, hb, h => fun e he => by
  simp only [backOnly, Bool.and_eq_true, Array.all_eq_true_iff_forall_mem] at hb
  simp at h
  subst h
  simpa using hb.1 e he
 | o' :: os, k, i + 1, o, hb, h => fun e he => by
  simp only [backOnly, Bool.and_eq_true] at hb
  have := backOnly_spec os (k + 1) i o hb.2 (by simpa using h) e he
  omega

/-- What an operation waits for. -/
def waits (md : Region.Mode) (o : Oper) : List Nat := (o.after.toList.filter (fun e => Region.binds md e)).map (·.on)

/-- Each operation, from what those that it waits for have left: it keeps what the others have left, and leaves its own. -/
def EachOp (P : Program) (md : Region.Mode) (ops : Array Oper) (Q : Exit → Act → World → Prop) (G : World → Prop) (E : Nat → Value → World → Prop) (a0 : Act) : List Oper → Nat → Prop
 | [], _ => True
 | o :: os, i => (∀ (t : Nat → Value) (w : World), G w → (∀ j ∈ waits md o, E j (t j) w) →
   ∀ K : Act → World → Prop, (∀ v w', G w' → E i v w' → (∀ j u, j ≠ i → E j u w → E j u w') → K ((fill ops.toList 0 t a0).put o.dst v) w') →
    if Region.wanted o (yielded ops (fill ops.toList 0 t a0).tmps) = true then Oper.wp P o (fill ops.toList 0 t a0) w K Q else K ((fill ops.toList 0 t a0).put o.dst undef) w) ∧
  EachOp P md ops Q G E a0 os (i + 1)

theorem EachOp.at {G : World → Prop} {E : Nat → Value → World → Prop} {a0 : Act} : ∀ (os : List Oper) (k i : Nat) (o : Oper), EachOp P md ops Q G E a0 os k → os[i]? = some o →
  ∀ (t : Nat → Value) (w : World), G w → (∀ j ∈ waits md o, E j (t j) w) →
   ∀ K : Act → World → Prop, (∀ v w', G w' → E (k + i) v w' → (∀ j u, j ≠ k + i → E j u w → E j u w') → K ((fill ops.toList 0 t a0).put o.dst v) w') →
    if Region.wanted o (yielded ops (fill ops.toList 0 t a0).tmps) = true then Oper.wp P o (fill ops.toList 0 t a0) w K Q else K ((fill ops.toList 0 t a0).put o.dst undef) w
 | [], _, _, _, _, h => by simp at h
 | o' :: os, k, 0, o, he, h => by
  simp at h
  subst h
  exact he.1
 | o' :: os, k, i + 1, o, he, h => by
  have := EachOp.at os (k + 1) i o he.2 (by simpa using h)
  rw [show k + 1 + i = k + (i + 1) by omega] at this
  exact this

theorem wpAny_each {G : World → Prop} {E : Nat → Value → World → Prop} {a0 : Act} (hap : allApart ops.toList = true) (hb : backOnly ops.toList 0 = true)
  (hs : EachOp P md ops Q G E a0 ops.toList 0)
  (hend : ∀ (t : Nat → Value) (w : World), G w → (∀ i, i < ops.size → E i (t i) w) → Q .normal (fill ops.toList 0 t a0) w) :
  ∀ (fuel : Nat) (l : Array Bool) (t : Nat → Value) (w : World), l.size = ops.size → (l.toList.filter (· == false)).length ≤ fuel → G w →
   (∀ i, i < ops.size → l.getD i false = true → E i (t i) w) → wpAny P md ops Q fuel l (fill ops.toList 0 t a0) w := by
 have hall : ∀ (l : Array Bool), l.size = ops.size → Region.ready md ops l = [] → ∀ i, i < ops.size → l.getD i false = true := by
  intro l hl hr i
  induction i using Nat.strongRecOn with
  | _ i ih =>
   intro hi
   cases hg : l.getD i false with
   | true => rfl
   | false =>
    exfalso
    have hm : i ∈ Region.ready md ops l := by
     refine mem_ready.2 ⟨?_, ops[i], by simp [hi], fun e he _ => ?_⟩
     ·simp [hl, hi] at hg ⊢; exact hg
     ·have := backOnly_spec ops.toList 0 i ops[i] hb (by simp [hi]) e he
      exact ih e.on (by omega) (by omega)
    rw [hr] at hm
    cases hm
 intro fuel
 induction fuel with
 | zero =>
  intro l t w hl hf hG hE
  have hr : Region.ready md ops l = [] := by
   apply List.eq_nil_iff_forall_not_mem.2
   intro i hi
   obtain ⟨h0, o, ho, -⟩ := mem_ready.1 hi
   have hlt : i < l.size := by rw [hl]; exact (Array.getElem?_eq_some_iff.1 ho).1
   have hz : l.toList.filter (· == false) = [] := List.eq_nil_of_length_eq_zero (by omega)
   have : l[i] ∈ l.toList.filter (· == false) := by
    rw [List.mem_filter]
    refine ⟨by simp, ?_⟩
    simpa [hlt] using h0
   rw [hz] at this
   cases this
  exact ⟨hr, hend t w hG (fun i hi => hE i hi (hall l hl hr i hi))⟩
 | succ fuel ih =>
  intro l t w hl hf hG hE
  refine ⟨fun hr => hend t w hG (fun i hi => hE i hi (hall l hl hr i hi)), fun i hi => ?_⟩
  obtain ⟨h0, o, ho, haf⟩ := mem_ready.1 hi
  have hlt : i < ops.size := (Array.getElem?_eq_some_iff.1 ho).1
  refine wpOp_step ho (fun K' hK => ?_)
  have hat := EachOp.at ops.toList 0 i o hs (by simpa using ho) t w hG (fun j hj => by
   simp only [waits, List.mem_map, List.mem_filter] at hj
   obtain ⟨e, ⟨he, hbi⟩, rfl⟩ := hj
   have h1 := haf e (by simpa using he) hbi
   refine hE e.on ?_ h1
   rcases Nat.lt_or_ge e.on l.size with h' | h'
   ·omega
   ·simp [Array.getElem?_eq_none h'] at h1) K'
  refine hat (fun v w' hG' hEi hkeep => hK _ _ ?_)
  rw [Nat.zero_add] at hEi hkeep
  have hfu := fill_upd ops.toList 0 i o t v a0 hap (by simpa using ho)
  rw [Nat.zero_add] at hfu
  rw [← hfu]
  refine ih (l.setIfInBounds i true) (upd t i v) w' (by simp [hl]) ?_ hG' (fun j hj hlj => ?_)
  ·have hcount : ∀ (ls : List Bool) (k : Nat), ls[k]? = some false → ((ls.set k true).filter (· == false)).length + 1 = (ls.filter (· == false)).length := by
    intro ls
    induction ls with
    | nil => intro k h; simp at h
    | cons b bs ihl =>
     intro k h
     cases k with
     | zero => simp at h; subst h; simp
     | succ k =>
      have := ihl k (by simpa using h)
      cases b <;> simp_all
   have := hcount l.toList i (by
    have hli : i < l.size := by omega
    simp [hli] at h0 ⊢
    exact h0)
   rw [Array.toList_setIfInBounds]
   omega
  ·by_cases hji : j = i
   ·subst hji; rw [upd_same]; exact hEi
   ·rw [upd_other t v hji]
    rw [getD_set_ne false (Ne.symm hji)] at hlj
    exact hkeep j (t j) hji (hE j hj hlj)

theorem wp_region_each {id : Nat} {a : Act} {w : World} (G : World → Prop) (E : Nat → Value → World → Prop) (hm : P.follows .mixedOrders = true)
  (hap : allApart ops.toList = true) (hb : backOnly ops.toList 0 = true) (hG : G w.drew)
  (hs : EachOp P .any ops Q G E a ops.toList 0)
  (hend : ∀ (t : Nat → Value) (w : World), G w → (∀ i, i < ops.size → E i (t i) w) → Q .normal (fill ops.toList 0 t a) w) :
  (Code.region id ops true).wp P Q a w := by
 refine wp_region_any hm ?_
 have := wpAny_each (md := .any) hap hb hs hend ops.size (Array.replicate ops.size false) (first ops.toList a) w.drew (by simp) (by simp) hG (fun i hi h => by simp [hi] at h)
 rw [fill_first] at this
 exact this

/-- d, but true at i. -/
def updB (d : Nat → Bool) (i : Nat) : Nat → Bool := fun j => if j = i then true else d j

/-- Edges that bind lead back. -/
def backBinds (md : Region.Mode) : List Oper → Nat → Bool
 | [], _ => true
 | o :: os, i => o.after.all (fun e => !(Region.binds md e) || decide (e.on < i)) && backBinds md os (i + 1)
theorem backBinds_spec (md : Region.Mode) : ∀ (os : List Oper) (k i : Nat) (o : Oper), backBinds md os k = true → os[i]? = some o → ∀ e ∈ o.after, Region.binds md e = true → e.on < k + i
 | [], _, _, _, _, h => by simp at h
 | o' :: os, k, 0, o, hb, h => fun e he hbi => by
  simp only [backBinds, Bool.and_eq_true, Array.all_eq_true_iff_forall_mem] at hb
  simp at h
  subst h
  have := hb.1 e he
  simpa [hbi] using this
 | o' :: os, k, i + 1, o, hb, h => fun e he hbi => by
  simp only [backBinds, Bool.and_eq_true] at hb
  have := backBinds_spec md os (k + 1) i o hb.2 (by simpa using h) e he hbi
  omega

/-- Each operation, from what holds of all that were carried out: d tells which, t what they left. -/
def EachI (P : Program) (md : Region.Mode) (ops : Array Oper) (Q : Exit → Act → World → Prop) (I : (Nat → Bool) → (Nat → Value) → World → Prop) (a0 : Act) : List Oper → Nat → Prop
 | [], _ => True
 | o :: os, i => (∀ (d : Nat → Bool) (t : Nat → Value) (w : World), I d t w → d i = false → (∀ j ∈ waits md o, d j = true) →
   ∀ K : Act → World → Prop, (∀ v w', I (updB d i) (upd t i v) w' → K ((fill ops.toList 0 t a0).put o.dst v) w') →
    if Region.wanted o (yielded ops (fill ops.toList 0 t a0).tmps) = true then Oper.wp P o (fill ops.toList 0 t a0) w K Q else K ((fill ops.toList 0 t a0).put o.dst undef) w) ∧
  EachI P md ops Q I a0 os (i + 1)

theorem EachI.at {I : (Nat → Bool) → (Nat → Value) → World → Prop} {a0 : Act} : ∀ (os : List Oper) (k i : Nat) (o : Oper), EachI P md ops Q I a0 os k → os[i]? = some o →
  ∀ (d : Nat → Bool) (t : Nat → Value) (w : World), I d t w → d (k + i) = false → (∀ j ∈ waits md o, d j = true) →
   ∀ K : Act → World → Prop, (∀ v w', I (updB d (k + i)) (upd t (k + i) v) w' → K ((fill ops.toList 0 t a0).put o.dst v) w') →
    if Region.wanted o (yielded ops (fill ops.toList 0 t a0).tmps) = true then Oper.wp P o (fill ops.toList 0 t a0) w K Q else K ((fill ops.toList 0 t a0).put o.dst undef) w
 | [], _, _, _, _, h => by simp at h
 | o' :: os, k, 0, o, he, h => by
  simp at h
  subst h
  exact he.1
 | o' :: os, k, i + 1, o, he, h => by
  have := EachI.at os (k + 1) i o he.2 (by simpa using h)
  rw [show k + 1 + i = k + (i + 1) by omega] at this
  exact this

theorem wpAny_inv {I : (Nat → Bool) → (Nat → Value) → World → Prop} {a0 : Act} (hap : allApart ops.toList = true) (hb : backBinds md ops.toList 0 = true)
  (hs : EachI P md ops Q I a0 ops.toList 0)
  (hend : ∀ (d : Nat → Bool) (t : Nat → Value) (w : World), I d t w → (∀ i, i < ops.size → d i = true) → Q .normal (fill ops.toList 0 t a0) w) :
  ∀ (fuel : Nat) (l : Array Bool) (t : Nat → Value) (w : World), l.size = ops.size → (l.toList.filter (· == false)).length ≤ fuel →
   I (fun i => l.getD i false) t w → wpAny P md ops Q fuel l (fill ops.toList 0 t a0) w := by
 have hall : ∀ (l : Array Bool), l.size = ops.size → Region.ready md ops l = [] → ∀ i, i < ops.size → l.getD i false = true := by
  intro l hl hr i
  induction i using Nat.strongRecOn with
  | _ i ih =>
   intro hi
   cases hg : l.getD i false with
   | true => rfl
   | false =>
    exfalso
    have hm : i ∈ Region.ready md ops l := by
     refine mem_ready.2 ⟨?_, ops[i], by simp [hi], fun e he hbi => ?_⟩
     ·simp [hl, hi] at hg ⊢; exact hg
     ·have := backBinds_spec md ops.toList 0 i ops[i] hb (by simp [hi]) e he hbi
      exact ih e.on (by omega) (by omega)
    rw [hr] at hm
    cases hm
 intro fuel
 induction fuel with
 | zero =>
  intro l t w hl hf hI
  have hr : Region.ready md ops l = [] := by
   apply List.eq_nil_iff_forall_not_mem.2
   intro i hi
   obtain ⟨h0, o, ho, -⟩ := mem_ready.1 hi
   have hlt : i < l.size := by rw [hl]; exact (Array.getElem?_eq_some_iff.1 ho).1
   have hz : l.toList.filter (· == false) = [] := List.eq_nil_of_length_eq_zero (by omega)
   have : l[i] ∈ l.toList.filter (· == false) := by
    rw [List.mem_filter]
    refine ⟨by simp, ?_⟩
    simpa [hlt] using h0
   rw [hz] at this
   cases this
  exact ⟨hr, hend _ t w hI (fun i hi => hall l hl hr i hi)⟩
 | succ fuel ih =>
  intro l t w hl hf hI
  refine ⟨fun hr => hend _ t w hI (fun i hi => hall l hl hr i hi), fun i hi => ?_⟩
  obtain ⟨h0, o, ho, haf⟩ := mem_ready.1 hi
  have hlt : i < ops.size := (Array.getElem?_eq_some_iff.1 ho).1
  have hli : i < l.size := by omega
  refine wpOp_step ho (fun K' hK => ?_)
  have hat := EachI.at ops.toList 0 i o hs (by simpa using ho) _ t w hI (by simp [hli] at h0 ⊢; exact h0) (fun j hj => by
   simp only [waits, List.mem_map, List.mem_filter] at hj
   obtain ⟨e, ⟨he, hbi⟩, rfl⟩ := hj
   exact haf e (by simpa using he) hbi) K'
  refine hat (fun v w' hI' => hK _ _ ?_)
  rw [Nat.zero_add] at hI'
  have hfu := fill_upd ops.toList 0 i o t v a0 hap (by simpa using ho)
  rw [Nat.zero_add] at hfu
  rw [← hfu]
  have hd : (fun j => (l.setIfInBounds i true).getD j false) = updB (fun j => l.getD j false) i := by
   funext j
   unfold updB
   by_cases e : j = i
   ·subst e; simp [hli]
   ·rw [getD_set_ne false (Ne.symm e), if_neg e]
  refine ih (l.setIfInBounds i true) (upd t i v) w' (by simp [hl]) ?_ (by rw [hd]; exact hI')
  have hcount : ∀ (ls : List Bool) (k : Nat), ls[k]? = some false → ((ls.set k true).filter (· == false)).length + 1 = (ls.filter (· == false)).length := by
   intro ls
   induction ls with
   | nil => intro k h; simp at h
   | cons b bs ihl =>
    intro k h
    cases k with
    | zero => simp at h; subst h; simp
    | succ k =>
     have := ihl k (by simpa using h)
     cases b <;> simp_all
  have := hcount l.toList i (by
   simp [hli] at h0 ⊢
   exact h0)
  rw [Array.toList_setIfInBounds]
  omega

end
end Go.Proofs.YtjhkadffaephmabGreat

/-
 plan.lesser, buildHops, buildWide.
-/
namespace Go.Proofs.YtjhkadffaephmabGreat
set_option maxRecDepth 100000
open Go.RowKit

/-- It lies in blocks from b on. -/
structure Mat.From (m : Mat) (b : Nat) : Prop where
 gb : 0 < m.t.len → b ≤ m.gb
 rows : ∀ r, r < m.t.len → 0 < m.t.L r → b ≤ m.RB r
theorem Mat.From.mono {m : Mat} {b c : Nat} (h : m.From b) (hc : c ≤ b) : m.From c := ⟨fun h0 => Nat.le_trans hc (h.gb h0), fun r hr h0 => Nat.le_trans hc (h.rows r hr h0)⟩
theorem cell_other {W : World} {B C i j : Nat} (hne : B ≠ C) (v : Value) : (W.setCell ⟨C, i, none⟩ v).cell? ⟨B, j, none⟩ = W.cell? ⟨B, j, none⟩ :=
 World.cell?_of_block (by
  show (W.heap.modify C _)[B]? = _
  rw [Array.getElem?_modify, if_neg (Ne.symm hne)])

theorem Mat.In.other {m : Mat} {n b C i : Nat} {w : World} (h : m.In n w) (hf : m.From b) (hC : C < b) (v : Value) : m.In n (w.setCell ⟨C, i, none⟩ v) where
 ga := h.ga
 gb := h.gb
 row := fun r hr => by rw [cell_other (by have := hf.gb (by omega); omega)]; exact h.row r hr
 addr := h.addr
 cell := fun r hr c hc => by rw [cell_other (by have := hf.rows r hr (by omega); omega)]; exact h.cell r hr c hc
 len := h.len
 lens := h.lens

/-- Three stores into a block of three cells. -/
def set3 (W : World) (B : Nat) (v0 v1 v2 : Value) : World := ((W.setCell ⟨B, 0, none⟩ v0).setCell ⟨B, 1, none⟩ v1).setCell ⟨B, 2, none⟩ v2
theorem Blk.set3 {W : World} {B : Nat} {t : TypeId} {u0 u1 u2 : Value} (h : Blk W B #[u0, u1, u2] t) (v0 v1 v2 : Value) : Blk (set3 W B v0 v1 v2) B #[v0, v1, v2] t := by
 have := ((h.set 0 v0).set 1 v1).set 2 v2
 unfold YtjhkadffaephmabGreat.set3
 simpa using this
theorem below3 {W W' : World} {k B : Nat} (h : Below k W W') (hk : k ≤ B) (v0 v1 v2 : Value) : Below k W (set3 W' B v0 v1 v2) :=
 ((h.setCell (p := ⟨B, 0, none⟩) hk _).setCell (p := ⟨B, 1, none⟩) hk _).setCell (p := ⟨B, 2, none⟩) hk _

end Go.Proofs.YtjhkadffaephmabGreat

/-
 Tables that were made by append: each row in a block of its own.
-/
namespace Go.Proofs.YtjhkadffaephmabGreat
set_option maxRecDepth 100000
open Go.RowKit

theorem below_grown {w w' : World} (h : Below w.heap.size w w') : w.grownBy w' none := ⟨h.os, h.tape, h.output, h.size, fun i hi _ => h.block i hi⟩
theorem owns_below {w w' : World} {base : Nat} {e : TypeId} {size : Nat} {v : Value} {n : Nat} {xs : List Value} (h : w.ownsRow base e size v n xs) (hb : Below w.heap.size w w') : w'.ownsRow base e size v n xs :=
 h.kept (below_grown hb) (by cases v.ownBlock <;> simp)
theorem grown_below {w w' : World} {row : Option Nat} {B : Nat} (h : w.grownBy w' row) (hr : ∀ g, row = some g → B ≤ g) (hB : B ≤ w.heap.size) : Below B w w' where
 os := h.os
 tape := h.tape
 output := h.output
 size := h.size
 block := fun k hk => h.block k (by omega) (fun e => by have := hr k e.symm; omega)

/-- n numbers, as values. -/
def intsL (f : Nat → Int) (n : Nat) : List Value := (List.range n).map fun j => Value.int .i64 (f j)
theorem intsL_succ (f : Nat → Int) (n : Nat) : intsL f (n + 1) = intsL f n ++ [.int .i64 (f n)] := by simp [intsL, List.range_succ]
theorem intsL_len (f : Nat → Int) (n : Nat) : (intsL f n).length = n := by simp [intsL]
theorem intsL_get {f : Nat → Int} {n j : Nat} (h : j < n) : (intsL f n)[j]? = some (.int .i64 (f j)) := by simp [intsL, h]
end Go.Proofs.YtjhkadffaephmabGreat
