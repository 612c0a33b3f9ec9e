/-
  Our own texts, bundled: a claim holds few files.
-/
import Derived.Test.YtjhkadffaephmabBundleAE
import Derived.Test.YtjhkadffaephmabBundleAH
import Derived.Laws.MakeOwn
import Derived.Laws.OwnMore
import Derived.Deep.RegionHeld3
import Derived.RegionTactic
import Derived.Deep.RegionWith
import Derived.Test.YtjhkadffaephmabBundleAI
import Derived.Deep.AppendLies
import Derived.Lib.SmallJoins
import Derived.Maps.Range
/-
  signpostref.SameInts, SameState, SameAlgebra.
-/
namespace Go.Proofs.Ytjhkadffaephmab
open Go.RowKit

/-- A list of numbers in memory. -/
structure Ints (a : Option Addr) (l b o : Nat) (f : Nat → Int) (w : World) : Prop where
  addr : 0 < l → a = some ⟨b, o, none⟩
  cell : ∀ i, i < l → w.cell? ⟨b, o + i, none⟩ = some (.int .i64 (f i))
  len : l ≤ maxLen

theorem ints_drewN {a : Option Addr} {l b o : Nat} {f : Nat → Int} {w : World} (h : Ints a l b o f w) (n : Nat) : Ints a l b o f (w.drewN n) := ⟨h.addr, h.cell, h.len⟩

def sameInts (l m : Nat) (f g : Nat → Int) : Bool := (l == m) && (List.range l).all fun i => f i == g i
theorem sameInts_iff {l m : Nat} {f g : Nat → Int} : sameInts l m f g = true ↔ l = m ∧ ∀ i, i < l → f i = g i := by
  simp [sameInts]
theorem sameInts_false {l m : Nat} {f g : Nat → Int} {i : Nat} (hi : i < l) (h : f i ≠ g i) : sameInts l m f g = false := by
  rw [Bool.eq_false_iff]; intro hw; exact h ((sameInts_iff.1 hw).2 i hi)

set_option maxHeartbeats 1000000 in
theorem sameInts_any (a1 a2 : Option Addr) (l1 l2 q1 q2 b1 o1 b2 o2 : Nat) (f g : Nat → Int) (w : World) (h1 : Ints a1 l1 b1 o1 f w) (h2 : Ints a2 l2 b2 o2 g w) :
    Calls Try.prog 58 #[.slice a1 l1 q1, .slice a2 l2 q2] w fun e w' => e = .returned (.bool (sameInts l1 l2 f g)) ∧ ∃ m, w' = w.drewN m := by
  have hl1 := h1.len
  have hl2 := h2.len
  unfold maxLen at hl1 hl2
  by_cases hl : l1 = l2
  · subst hl
    go_enter Try.func58, Try.ntmps58
    go_wp2
    go_loopw [5] (fun i wr => ∃ k : Nat, k ≤ l1 ∧ i = .int .i64 k ∧ Hid (∀ r, r < k → f r = g r) ∧ Hid (∃ m, wr = w.drewN m)) (fun i _ => l1 - (intOf i).toNat)
    case atStart => exact ⟨0, Nat.zero_le _, rfl, hide (fun r hr => absurd hr (Nat.not_lt_zero _)), hide ⟨0, rfl⟩⟩
    case round =>
      obtain ⟨k, hk, rfl, Hall, HD⟩ := hrel
      by_cases hlt : k < l1
      · have ha1 := h1.addr (by omega)
        have ha2 := h2.addr (by omega)
        have hc1 : wr.cell? ⟨b1, o1 + k, none⟩ = some (.int .i64 (f k)) := by obtain ⟨m, rfl⟩ := HD.out; exact h1.cell k hlt
        have hc2 : wr.cell? ⟨b2, o2 + k, none⟩ = some (.int .i64 (g k)) := by obtain ⟨m, rfl⟩ := HD.out; exact h2.cell k hlt
        have hki : (k : Int) < (l1 : Int) := by omega
        by_cases he : f k = g k
        · have he' : (f k != g k) = false := by simp [he]
          have He := hide he
          clear he
          go_wp2_with fail
          go_quiet (fail)
          go_wp2
          go_roundw
          case rel =>
            have hn : ∀ r, r < k + 1 → f r = g r := fun r hr => by
              by_cases e : r = k
              · subst e; exact He.out
              · exact Hall.out r (by omega)
            exact ⟨k + 1, by omega, by go_num, hide hn, hide (by obtain ⟨m, rfl⟩ := HD.out; exact ⟨_, by rw [World.drewN_drewN]⟩)⟩
          case measure => simp [intOf]; omega
        · have he' : (f k != g k) = true := by simp [he]
          have Hw := hide (sameInts_false (m := l1) hlt he)
          clear he
          go_wp2_with fail
          go_quiet (fail)
          go_wp2
          go_ret
          exact ⟨by rw [Hw.out]; rfl, by obtain ⟨m, rfl⟩ := HD.out; exact ⟨_, by rw [World.drewN_drewN]⟩⟩
      · have Hw : Hid (sameInts l1 l1 f g = true) := hide (sameInts_iff.2 ⟨rfl, fun i hi => Hall.out i (by omega)⟩)
        go_wp2
        go_ret
        exact ⟨by rw [Hw.out]; rfl, HD.out⟩
  · have hne : ((l1 : Int) != (l2 : Int)) = true := by simp; omega
    have Hw : Hid (sameInts l1 l2 f g = false) := hide (by simp [sameInts, hl])
    clear hl
    go_enter Try.func58, Try.ntmps58
    go_wp2
    go_ret
    exact ⟨by rw [Hw.out]; rfl, 0, rfl⟩

/-- Are two tables the same? -/
def Tab.same (s t : Tab) : Bool := (s.len == t.len) && (List.range s.len).all fun r => sameInts (s.L r) (t.L r) (s.Z r) (t.Z r)
theorem Tab.same_iff {s t : Tab} : s.same t = true ↔ s.len = t.len ∧ ∀ r, r < s.len → s.L r = t.L r ∧ ∀ c, c < s.L r → s.Z r c = t.Z r c := by
  simp only [Tab.same, Bool.and_eq_true, beq_iff_eq, List.all_eq_true, List.mem_range, sameInts_iff]
theorem Tab.same_false {s t : Tab} {r : Nat} (hr : r < s.len) (h : sameInts (s.L r) (t.L r) (s.Z r) (t.Z r) = false) : s.same t = false := by
  rw [Bool.eq_false_iff]; intro hw
  simp only [Tab.same, Bool.and_eq_true, List.all_eq_true, List.mem_range] at hw
  rw [hw.2 r hr] at h
  cases h
theorem Tab.same_true {s t : Tab} (hl : s.len = t.len) (h : ∀ r, r < s.len → sameInts (s.L r) (t.L r) (s.Z r) (t.Z r) = true) : s.same t = true := by
  simp only [Tab.same, Bool.and_eq_true, List.all_eq_true, List.mem_range]
  exact ⟨by simp [hl], h⟩
theorem Tab.same_refl (s : Tab) : s.same s = true := Tab.same_iff.2 ⟨rfl, fun _ _ => ⟨rfl, fun _ _ => rfl⟩⟩

theorem Mat.In.ints {m : Mat} {n : Nat} {w : World} (h : m.In n w) {r : Nat} (hr : r < m.t.len) : Ints (m.A r) (m.t.L r) (m.RB r) (m.RO r) (m.t.Z r) w :=
  ⟨fun h0 => (h.addr r hr h0).1, fun i hi => h.cell r hr i hi, h.lens r hr⟩

set_option maxHeartbeats 1000000 in
theorem sameState_any (x y : Mat) (n : Nat) (w : World) (h1 : x.In n w) (h2 : y.In n w) :
    Calls Try.prog 30 #[x.val, y.val] w fun e w' => e = .returned (.bool (x.t.same y.t)) ∧ ∃ m, w' = w.drewN m := by
  have hl1 := h1.len
  have hl2 := h2.len
  unfold maxLen at hl1 hl2
  simp only [Mat.val]
  by_cases hl : x.t.len = y.t.len
  · have Hl := hide hl
    have hne : ((x.t.len : Int) != (y.t.len : Int)) = false := by simp [hl]
    clear hl
    go_enter Try.func30, Try.ntmps30
    go_wp2
    go_loopw [5] (fun i wr => ∃ k : Nat, k ≤ x.t.len ∧ i = .int .i64 k ∧ Hid (∀ r, r < k → sameInts (x.t.L r) (y.t.L r) (x.t.Z r) (y.t.Z r) = true) ∧ Hid (∃ m, wr = w.drewN m)) (fun i _ => x.t.len - (intOf i).toNat)
    case atStart => exact ⟨0, Nat.zero_le _, rfl, hide (fun r hr => absurd hr (Nat.not_lt_zero _)), hide ⟨0, rfl⟩⟩
    case round =>
      obtain ⟨k, hk, rfl, Hall, HD⟩ := hrel
      by_cases hlt : k < x.t.len
      · have hlt2 : k < y.t.len := by have := Hl.out; omega
        have ha1 := h1.ga (by omega)
        have ha2 := h2.ga (by omega)
        have hc1 : wr.cell? ⟨x.gb, x.go + k, none⟩ = some (.slice (x.A k) (x.t.L k) (x.C k)) := by obtain ⟨m, rfl⟩ := HD.out; exact h1.row k hlt
        have hc2 : wr.cell? ⟨y.gb, y.go + k, none⟩ = some (.slice (y.A k) (y.t.L k) (y.C k)) := by obtain ⟨m, rfl⟩ := HD.out; exact h2.row k hlt2
        have hki : (k : Int) < (x.t.len : Int) := by omega
        have hki2 : (k : Int) < (y.t.len : Int) := by omega
        have hS := hide (fun q => sameInts_any (x.A k) (y.A k) (x.t.L k) (y.t.L k) (x.C k) (y.C k) _ _ _ _ _ _ (wr.drewN q) (ints_drewN (w := wr) (by obtain ⟨m, rfl⟩ := HD.out; exact ints_drewN (h1.ints hlt) m) q) (ints_drewN (w := wr) (by obtain ⟨m, rfl⟩ := HD.out; exact ints_drewN (h2.ints hlt2) m) q))
        cases hs : sameInts (x.t.L k) (y.t.L k) (x.t.Z k) (y.t.Z k) with
        | true =>
          simp only [hs] at hS
          have Hs := hide hs
          clear hs
          go_wp2_with fail
          go_quiet ((go_at_call 58; exact Calls.quiet_of (hS.out _)))
          go_wp2
          go_roundw
          case rel =>
            have hn : ∀ r, r < k + 1 → sameInts (x.t.L r) (y.t.L r) (x.t.Z r) (y.t.Z r) = true := fun r hr => by
              by_cases e : r = k
              · subst e; exact Hs.out
              · exact Hall.out r (by omega)
            exact ⟨k + 1, by omega, by go_num, hide hn, hide (by obtain ⟨m, rfl⟩ := HD.out; exact ⟨_, by rw [World.drewN_drewN]⟩)⟩
          case measure => simp [intOf]; omega
        | false =>
          simp only [hs] at hS
          have Hw := hide (Tab.same_false hlt hs)
          clear hs
          go_wp2_with fail
          go_quiet ((go_at_call 58; exact Calls.quiet_of (hS.out _)))
          go_wp2
          go_ret
          exact ⟨by rw [Hw.out]; rfl, by obtain ⟨m, rfl⟩ := HD.out; exact ⟨_, by rw [World.drewN_drewN]⟩⟩
      · have Hw : Hid (x.t.same y.t = true) := hide (Tab.same_true Hl.out (fun i hi => Hall.out i (by omega)))
        go_wp2
        go_ret
        exact ⟨by rw [Hw.out]; rfl, HD.out⟩
  · have hne : ((x.t.len : Int) != (y.t.len : Int)) = true := by simp; omega
    have Hw : Hid (x.t.same y.t = false) := hide (by simp [Tab.same, hl])
    clear hl
    go_enter Try.func30, Try.ntmps30
    go_wp2
    go_ret
    exact ⟨by rw [Hw.out]; rfl, 0, rfl⟩

end Go.Proofs.Ytjhkadffaephmab

/-
  plan.table: a table that a function makes.
-/
namespace Go.Proofs.Ytjhkadffaephmab
set_option maxRecDepth 100000
open Go.RowKit

theorem Try.infoInt : (Try.prog.info? 3).map (fun i => (i.zero, i.size, i.bytes)) = some (some (.int .i64 0), 1, 8) := by kernel_rfl
theorem Try.infoInts : (Try.prog.info? 22).map (fun i => (i.zero, i.size, i.bytes)) = some (some (.slice none 0 0), 1, 24) := by kernel_rfl

/-- The cells of a row of which c are made. -/
def rowArr (Z : Nat → Int) (n c : Nat) : Array Value := ((List.range n).map fun j => if j < c then Value.int .i64 (Z j) else .int .i64 0).toArray
theorem rowArr_get {Z : Nat → Int} {n c j : Nat} (h : j < n) : (rowArr Z n c)[j]? = some (if j < c then Value.int .i64 (Z j) else .int .i64 0) := by
  simp [rowArr, h]
theorem rowArr_set {Z : Nat → Int} {n c : Nat} : (rowArr Z n c).setIfInBounds c (.int .i64 (Z c)) = rowArr Z n (c + 1) := by
  apply Array.ext
  · simp [rowArr]
  · intro j h1 h2
    have hn : j < n := by simpa [rowArr] using h2
    by_cases e : c = j
    · subst e
      simp [rowArr]
    · rw [Array.getElem_setIfInBounds_ne (by simpa [rowArr] using hn) e]
      simp only [rowArr, List.getElem_toArray, List.getElem_map, List.getElem_range]
      by_cases h : j < c
      · rw [if_pos h, if_pos (by omega)]
      · rw [if_neg h, if_neg (by omega)]
theorem rowArr_zero (Z : Nat → Int) (n : Nat) : madeCells #[.int .i64 0] n = rowArr Z n 0 := by
  apply Array.ext'
  rw [toList_madeCells_one]
  simp [rowArr, List.map_const']

/-- The cells of a table of which i rows are made: they lie in the blocks behind it. -/
def outArr (b p n i : Nat) : Array Value := ((List.range n).map fun r => if r < i then Value.slice (some ⟨b + r, 0, none⟩) p p else .slice none 0 0).toArray
theorem outArr_get {b p n i r : Nat} (h : r < n) : (outArr b p n i)[r]? = some (if r < i then Value.slice (some ⟨b + r, 0, none⟩) p p else .slice none 0 0) := by
  simp [outArr, h]
theorem outArr_set {b p n i : Nat} : (outArr b p n i).setIfInBounds i (.slice (some ⟨b + i, 0, none⟩) p p) = outArr b p n (i + 1) := by
  apply Array.ext
  · simp [outArr]
  · intro j h1 h2
    have hn : j < n := by simpa [outArr] using h2
    by_cases e : i = j
    · subst e
      simp [outArr]
    · rw [Array.getElem_setIfInBounds_ne (by simpa [outArr] using hn) e]
      simp only [outArr, List.getElem_toArray, List.getElem_map, List.getElem_range]
      by_cases h : j < i
      · rw [if_pos h, if_pos (by omega)]
      · rw [if_neg h, if_neg (by omega)]
theorem outArr_zero (b p n : Nat) : madeCells #[.slice none 0 0] n = outArr b p n 0 := by
  apply Array.ext'
  rw [toList_madeCells_one]
  simp [outArr, List.map_const']

theorem Blk.other {W : World} {B C : Nat} {vs : Array Value} {t : TypeId} (h : Blk W B vs t) (hne : B ≠ C) (i : Nat) (v : Value) : Blk (W.setCell ⟨C, i, none⟩ v) B vs t := by
  unfold Blk
  rw [show (W.setCell ⟨C, i, none⟩ v).heap[B]? = (W.heap.modify C _)[B]? from rfl, Array.getElem?_modify, if_neg (Ne.symm hne)]
  exact h
theorem Blk.drewN {W : World} {B : Nat} {vs : Array Value} {t : TypeId} (h : Blk W B vs t) (n : Nat) : Blk (W.drewN n) B vs t := h

/-- i rows are made. -/
structure TabI (w : World) (n p : Nat) (Z : Nat → Nat → Int) (i : Nat) (W : World) : Prop where
  size : W.heap.size = w.heap.size + 1 + i
  below : Below w.heap.size w W
  out : Blk W w.heap.size (outArr (w.heap.size + 1) p n i) 22
  rows : ∀ r, r < i → Blk W (w.heap.size + 1 + r) (rowArr (Z r) p p) 3
/-- i rows are made, and c numbers of the next. -/
structure TabJ (w : World) (n p : Nat) (Z : Nat → Nat → Int) (i c : Nat) (W : World) : Prop where
  size : W.heap.size = w.heap.size + 1 + i + 1
  below : Below w.heap.size w W
  out : Blk W w.heap.size (outArr (w.heap.size + 1) p n (i + 1)) 22
  rows : ∀ r, r < i → Blk W (w.heap.size + 1 + r) (rowArr (Z r) p p) 3
  cur : Blk W (w.heap.size + 1 + i) (rowArr (Z i) p c) 3

theorem TabI.start (w : World) (n p : Nat) (Z : Nat → Nat → Int) : TabI w n p Z 0 (w.alloc (.cells (madeCells #[.slice none 0 0] n) 22)) where
  size := by simp
  below := (Below.refl _ _).alloc (Nat.le_refl _) _
  out := by rw [outArr_zero (w.heap.size + 1) p n]; exact Blk.new w _ _
  rows := fun r hr => absurd hr (Nat.not_lt_zero _)

theorem TabI.row {w : World} {n p : Nat} {Z : Nat → Nat → Int} {i : Nat} {W : World} (h : TabI w n p Z i W) :
    TabJ w n p Z i 0 ((W.alloc (.cells (madeCells #[.int .i64 0] p) 3)).setCell ⟨w.heap.size, i, none⟩ (.slice (some ⟨w.heap.size + 1 + i, 0, none⟩) p p)) where
  size := by simp [h.size]
  below := (h.below.alloc (by simp [h.size]; omega) _).setCell (p := ⟨w.heap.size, i, none⟩) (Nat.le_refl _) _
  out := by have := (h.out.alloc (.cells (madeCells #[.int .i64 0] p) 3)).set i (.slice (some ⟨w.heap.size + 1 + i, 0, none⟩) p p); rw [outArr_set] at this; exact this
  rows := fun r hr => ((h.rows r hr).alloc _).other (by omega) _ _
  cur := by rw [rowArr_zero (Z i) p]; exact (Blk.new' (by simp [h.size])).other (by omega) _ _

theorem TabJ.put {w : World} {n p : Nat} {Z : Nat → Nat → Int} {i c : Nat} {W : World} (h : TabJ w n p Z i c W) (q : Nat) :
    TabJ w n p Z i (c + 1) ((W.drewN q).setCell ⟨w.heap.size + 1 + i, c, none⟩ (.int .i64 (Z i c))) where
  size := by simpa using h.size
  below := (below_drewN h.below q).setCell (p := ⟨w.heap.size + 1 + i, c, none⟩) (by show w.heap.size ≤ w.heap.size + 1 + i; omega) _
  out := (h.out.drewN q).other (by omega) _ _
  rows := fun r hr => ((h.rows r hr).drewN q).other (by omega) _ _
  cur := by have := (h.cur.drewN q).set c (.int .i64 (Z i c)); rw [rowArr_set] at this; exact this

theorem TabJ.done {w : World} {n p : Nat} {Z : Nat → Nat → Int} {i : Nat} {W : World} (h : TabJ w n p Z i p W) : TabI w n p Z (i + 1) W where
  size := by rw [h.size]; omega
  below := h.below
  out := h.out
  rows := fun r hr => by
    by_cases e : r = i
    · subst e; exact h.cur
    · exact h.rows r (by omega)

/-- The table as it lies. -/
def madeMat (b n p : Nat) (Z : Nat → Nat → Int) : Mat where
  ga := some ⟨b, 0, none⟩
  gb := b
  go := 0
  cap := n
  A := fun r => some ⟨b + 1 + r, 0, none⟩
  C := fun _ => p
  RB := fun r => b + 1 + r
  RO := fun _ => 0
  t := ⟨n, fun _ => p, Z⟩

theorem TabI.mat {w : World} {n p : Nat} {Z : Nat → Nat → Int} {W : World} (h : TabI w n p Z n W) (hn : n ≤ 24) (hp : p ≤ 24) : (madeMat w.heap.size n p Z).In W.heap.size W where
  ga := fun _ => rfl
  gb := fun _ => by show w.heap.size < _; rw [h.size]; omega
  row := fun r hr => by
    have hr' : r < n := hr
    show W.cell? ⟨w.heap.size, 0 + r, none⟩ = _
    rw [h.out.cell (0 + r), Nat.zero_add, outArr_get hr', if_pos hr']
    rfl
  addr := fun r hr _ => ⟨rfl, by show w.heap.size + 1 + r < _; have hr' : r < n := hr; rw [h.size]; omega⟩
  cell := fun r hr c hc => by
    have hc' : c < p := hc
    show W.cell? ⟨w.heap.size + 1 + r, 0 + c, none⟩ = _
    rw [(h.rows r hr).cell (0 + c), Nat.zero_add, rowArr_get hc', if_pos hc']
    rfl
  len := by show n ≤ maxLen; unfold maxLen; omega
  lens := fun _ _ => by show p ≤ maxLen; unfold maxLen; omega

end Go.Proofs.Ytjhkadffaephmab

/-
  A region that draws its order, by what each operation leaves: one obligation an operation, not one an order.
-/
namespace Go.Proofs.Ytjhkadffaephmab
open Go

section
variable {P : Program} {ops : Array Oper} {Q : Exit → Act → World → Prop} {md : Region.Mode}

/-- t, but v at i. -/
def upd (t : Nat → Value) (i : Nat) (v : Value) : Nat → Value := fun j => if j = i then v else t j
theorem upd_same (t : Nat → Value) (i : Nat) (v : Value) : upd t i v i = v := by simp [upd]
theorem upd_other (t : Nat → Value) {i j : Nat} (v : Value) (h : j ≠ i) : upd t i v j = t j := by simp [upd, h]

/-- The frame with the operations' values in their slots. -/
def fill : List Oper → Nat → (Nat → Value) → Act → Act
  | [], _, _, a => a
  | o :: os, i, t, a => fill os (i + 1) t (a.put o.dst (t i))

/-- No two operations write one slot. -/
def apartFrom (d : Option Tmp) : List Oper → Bool
  | [] => true
  | o :: os => (match d, o.dst with | some x, some y => !(x == y) | _, _ => true) && apartFrom d os
def allApart : List Oper → Bool
  | [] => true
  | o :: os => apartFrom o.dst os && allApart os

theorem put_put (a : Act) (d : Option Tmp) (u v : Value) : (a.put d u).put d v = a.put d v := by
  cases d <;> simp [Act.put]

theorem fill_put (d : Option Tmp) (v : Value) : ∀ (os : List Oper) (i : Nat) (t : Nat → Value) (a : Act), apartFrom d os = true →
    fill os i t (a.put d v) = (fill os i t a).put d v
  | [], _, _, _, _ => rfl
  | o :: os, i, t, a, h => by
    simp only [apartFrom, Bool.and_eq_true] at h
    have hc : (a.put d v).put o.dst (t i) = (a.put o.dst (t i)).put d v := Act.put_comm a v (t i) (fun x hx hy => by
      subst hx
      rw [hy] at h
      simp at h)
    simp only [fill]
    rw [hc]
    exact fill_put d v os (i + 1) t _ h.2

theorem fill_same : ∀ (os : List Oper) (i k : Nat) (t : Nat → Value) (v : Value) (a : Act), k < i → fill os i (upd t k v) a = fill os i t a
  | [], _, _, _, _, _, _ => rfl
  | o :: os, i, k, t, v, a, h => by
    simp only [fill]
    rw [upd_other t v (by omega)]
    exact fill_same os (i + 1) k t v _ (by omega)

theorem fill_upd : ∀ (os : List Oper) (k i : Nat) (o : Oper) (t : Nat → Value) (v : Value) (a : Act), allApart os = true → os[i]? = some o →
    fill os k (upd t (k + i) v) a = (fill os k t a).put o.dst v
  | [], _, _, _, _, _, _, _, h => by simp at h
  | o' :: os, k, 0, o, t, v, a, hd, h => by
    simp only [allApart, Bool.and_eq_true] at hd
    simp at h
    subst h
    simp only [fill, Nat.add_zero]
    rw [upd_same, fill_same os (k + 1) k t v _ (by omega), ← fill_put _ v os (k + 1) t _ hd.1, put_put]
  | o' :: os, k, i + 1, o, t, v, a, hd, h => by
    simp only [allApart, Bool.and_eq_true] at hd
    simp at h
    simp only [fill]
    rw [upd_other t v (by omega)]
    have := fill_upd os (k + 1) i o t v (a.put o'.dst (t k)) hd.2 h
    rw [show k + (i + 1) = k + 1 + i by omega]
    exact this

/-- What lies in the operation's slot as the region begins. -/
def first (os : List Oper) (a : Act) (i : Nat) : Value :=
  match os[i]? with
  | some o => match o.dst with
    | some d => a.tmps.getD d undef
    | none => undef
  | none => undef

theorem put_self (a : Act) (d : Nat) : a.put (some d) (a.tmps.getD d undef) = a := by
  have h : a.tmps.setIfInBounds d (a.tmps.getD d undef) = a.tmps := by
    apply Array.ext
    · simp
    · intro j h1 h2
      by_cases hj : d = j
      · subst hj; simp [h2]
      · exact Array.getElem_setIfInBounds_ne h2 hj
  cases a
  simp only [Act.put] at h ⊢
  simp only [h]

theorem fill_self : ∀ (os : List Oper) (k : Nat) (t : Nat → Value) (a : Act), (∀ i o, os[i]? = some o → a.put o.dst (t (k + i)) = a) → fill os k t a = a
  | [], _, _, _, _ => rfl
  | o :: os, k, t, a, h => by
    simp only [fill]
    have h0 := h 0 o rfl
    rw [Nat.add_zero] at h0
    rw [h0]
    exact fill_self os (k + 1) t a (fun i o' hi => by
      have := h (i + 1) o' (by simpa using hi)
      rw [show k + 1 + i = k + (i + 1) by omega]
      exact this)

theorem fill_first (os : List Oper) (a : Act) : fill os 0 (first os a) a = a := fill_self os 0 _ a (fun i o hi => by
  rw [Nat.zero_add]
  unfold first
  simp only [hi]
  cases hd : o.dst with
  | none => rfl
  | some d => exact put_self a d)

/-- Edges lead back. -/
def backOnly : List Oper → Nat → Bool
  | [], _ => true
  | o :: os, i => o.after.all (fun e => decide (e.on < i)) && backOnly os (i + 1)
theorem backOnly_spec : ∀ (os : List Oper) (k i : Nat) (o : Oper), backOnly os k = true → os[i]? = some o → ∀ e ∈ o.after, e.on < k + i
  | [], _, _, _, _, h => by simp at h
  | o' :: os, k, 0, o, hb, h => fun e he => by
    simp only [backOnly, Bool.and_eq_true, Array.all_eq_true_iff_forall_mem] at hb
    simp at h
    subst h
    simpa using hb.1 e he
  | o' :: os, k, i + 1, o, hb, h => fun e he => by
    simp only [backOnly, Bool.and_eq_true] at hb
    have := backOnly_spec os (k + 1) i o hb.2 (by simpa using h) e he
    omega

/-- What an operation waits for. -/
def waits (md : Region.Mode) (o : Oper) : List Nat := (o.after.toList.filter (fun e => Region.binds md e)).map (·.on)

/-- Each operation, from what those that it waits for have left: it keeps what the others have left, and leaves its own. -/
def EachOp (P : Program) (md : Region.Mode) (ops : Array Oper) (Q : Exit → Act → World → Prop) (G : World → Prop) (E : Nat → Value → World → Prop) (a0 : Act) : List Oper → Nat → Prop
  | [], _ => True
  | o :: os, i => (∀ (t : Nat → Value) (w : World), G w → (∀ j ∈ waits md o, E j (t j) w) →
      ∀ K : Act → World → Prop, (∀ v w', G w' → E i v w' → (∀ j u, j ≠ i → E j u w → E j u w') → K ((fill ops.toList 0 t a0).put o.dst v) w') →
        if Region.wanted o (yielded ops (fill ops.toList 0 t a0).tmps) = true then Oper.wp P o (fill ops.toList 0 t a0) w K Q else K ((fill ops.toList 0 t a0).put o.dst undef) w) ∧
    EachOp P md ops Q G E a0 os (i + 1)

theorem EachOp.at {G : World → Prop} {E : Nat → Value → World → Prop} {a0 : Act} : ∀ (os : List Oper) (k i : Nat) (o : Oper), EachOp P md ops Q G E a0 os k → os[i]? = some o →
    ∀ (t : Nat → Value) (w : World), G w → (∀ j ∈ waits md o, E j (t j) w) →
      ∀ K : Act → World → Prop, (∀ v w', G w' → E (k + i) v w' → (∀ j u, j ≠ k + i → E j u w → E j u w') → K ((fill ops.toList 0 t a0).put o.dst v) w') →
        if Region.wanted o (yielded ops (fill ops.toList 0 t a0).tmps) = true then Oper.wp P o (fill ops.toList 0 t a0) w K Q else K ((fill ops.toList 0 t a0).put o.dst undef) w
  | [], _, _, _, _, h => by simp at h
  | o' :: os, k, 0, o, he, h => by
    simp at h
    subst h
    exact he.1
  | o' :: os, k, i + 1, o, he, h => by
    have := EachOp.at os (k + 1) i o he.2 (by simpa using h)
    rw [show k + 1 + i = k + (i + 1) by omega] at this
    exact this

theorem wpAny_each {G : World → Prop} {E : Nat → Value → World → Prop} {a0 : Act} (hap : allApart ops.toList = true) (hb : backOnly ops.toList 0 = true)
    (hs : EachOp P md ops Q G E a0 ops.toList 0)
    (hend : ∀ (t : Nat → Value) (w : World), G w → (∀ i, i < ops.size → E i (t i) w) → Q .normal (fill ops.toList 0 t a0) w) :
    ∀ (fuel : Nat) (l : Array Bool) (t : Nat → Value) (w : World), l.size = ops.size → (l.toList.filter (· == false)).length ≤ fuel → G w →
      (∀ i, i < ops.size → l.getD i false = true → E i (t i) w) → wpAny P md ops Q fuel l (fill ops.toList 0 t a0) w := by
  have hall : ∀ (l : Array Bool), l.size = ops.size → Region.ready md ops l = [] → ∀ i, i < ops.size → l.getD i false = true := by
    intro l hl hr i
    induction i using Nat.strongRecOn with
    | _ i ih =>
      intro hi
      cases hg : l.getD i false with
      | true => rfl
      | false =>
        exfalso
        have hm : i ∈ Region.ready md ops l := by
          refine mem_ready.2 ⟨?_, ops[i], by simp [hi], fun e he _ => ?_⟩
          · simp [hl, hi] at hg ⊢; exact hg
          · have := backOnly_spec ops.toList 0 i ops[i] hb (by simp [hi]) e he
            exact ih e.on (by omega) (by omega)
        rw [hr] at hm
        cases hm
  intro fuel
  induction fuel with
  | zero =>
    intro l t w hl hf hG hE
    have hr : Region.ready md ops l = [] := by
      apply List.eq_nil_iff_forall_not_mem.2
      intro i hi
      obtain ⟨h0, o, ho, -⟩ := mem_ready.1 hi
      have hlt : i < l.size := by rw [hl]; exact (Array.getElem?_eq_some_iff.1 ho).1
      have hz : l.toList.filter (· == false) = [] := List.eq_nil_of_length_eq_zero (by omega)
      have : l[i] ∈ l.toList.filter (· == false) := by
        rw [List.mem_filter]
        refine ⟨by simp, ?_⟩
        simpa [hlt] using h0
      rw [hz] at this
      cases this
    exact ⟨hr, hend t w hG (fun i hi => hE i hi (hall l hl hr i hi))⟩
  | succ fuel ih =>
    intro l t w hl hf hG hE
    refine ⟨fun hr => hend t w hG (fun i hi => hE i hi (hall l hl hr i hi)), fun i hi => ?_⟩
    obtain ⟨h0, o, ho, haf⟩ := mem_ready.1 hi
    have hlt : i < ops.size := (Array.getElem?_eq_some_iff.1 ho).1
    refine wpOp_step ho (fun K' hK => ?_)
    have hat := EachOp.at ops.toList 0 i o hs (by simpa using ho) t w hG (fun j hj => by
      simp only [waits, List.mem_map, List.mem_filter] at hj
      obtain ⟨e, ⟨he, hbi⟩, rfl⟩ := hj
      have h1 := haf e (by simpa using he) hbi
      refine hE e.on ?_ h1
      rcases Nat.lt_or_ge e.on l.size with h' | h'
      · omega
      · simp [Array.getElem?_eq_none h'] at h1) K'
    refine hat (fun v w' hG' hEi hkeep => hK _ _ ?_)
    rw [Nat.zero_add] at hEi hkeep
    have hfu := fill_upd ops.toList 0 i o t v a0 hap (by simpa using ho)
    rw [Nat.zero_add] at hfu
    rw [← hfu]
    refine ih (l.setIfInBounds i true) (upd t i v) w' (by simp [hl]) ?_ hG' (fun j hj hlj => ?_)
    · have hcount : ∀ (ls : List Bool) (k : Nat), ls[k]? = some false → ((ls.set k true).filter (· == false)).length + 1 = (ls.filter (· == false)).length := by
        intro ls
        induction ls with
        | nil => intro k h; simp at h
        | cons b bs ihl =>
          intro k h
          cases k with
          | zero => simp at h; subst h; simp
          | succ k =>
            have := ihl k (by simpa using h)
            cases b <;> simp_all
      have := hcount l.toList i (by
        have hli : i < l.size := by omega
        simp [hli] at h0 ⊢
        exact h0)
      rw [Array.toList_setIfInBounds]
      omega
    · by_cases hji : j = i
      · subst hji; rw [upd_same]; exact hEi
      · rw [upd_other t v hji]
        rw [getD_set_ne false (Ne.symm hji)] at hlj
        exact hkeep j (t j) hji (hE j hj hlj)

theorem wp_region_each {id : Nat} {a : Act} {w : World} (G : World → Prop) (E : Nat → Value → World → Prop) (hm : P.follows .mixedOrders = true)
    (hap : allApart ops.toList = true) (hb : backOnly ops.toList 0 = true) (hG : G w.drew)
    (hs : EachOp P .any ops Q G E a ops.toList 0)
    (hend : ∀ (t : Nat → Value) (w : World), G w → (∀ i, i < ops.size → E i (t i) w) → Q .normal (fill ops.toList 0 t a) w) :
    (Code.region id ops true).wp P Q a w := by
  refine wp_region_any hm ?_
  have := wpAny_each (md := .any) hap hb hs hend ops.size (Array.replicate ops.size false) (first ops.toList a) w.drew (by simp) (by simp) hG (fun i hi h => by simp [hi] at h)
  rw [fill_first] at this
  exact this

/-- d, but true at i. -/
def updB (d : Nat → Bool) (i : Nat) : Nat → Bool := fun j => if j = i then true else d j

/-- Edges that bind lead back. -/
def backBinds (md : Region.Mode) : List Oper → Nat → Bool
  | [], _ => true
  | o :: os, i => o.after.all (fun e => !(Region.binds md e) || decide (e.on < i)) && backBinds md os (i + 1)
theorem backBinds_spec (md : Region.Mode) : ∀ (os : List Oper) (k i : Nat) (o : Oper), backBinds md os k = true → os[i]? = some o → ∀ e ∈ o.after, Region.binds md e = true → e.on < k + i
  | [], _, _, _, _, h => by simp at h
  | o' :: os, k, 0, o, hb, h => fun e he hbi => by
    simp only [backBinds, Bool.and_eq_true, Array.all_eq_true_iff_forall_mem] at hb
    simp at h
    subst h
    have := hb.1 e he
    simpa [hbi] using this
  | o' :: os, k, i + 1, o, hb, h => fun e he hbi => by
    simp only [backBinds, Bool.and_eq_true] at hb
    have := backBinds_spec md os (k + 1) i o hb.2 (by simpa using h) e he hbi
    omega

/-- Each operation, from what holds of all that were carried out: d tells which, t what they left. -/
def EachI (P : Program) (md : Region.Mode) (ops : Array Oper) (Q : Exit → Act → World → Prop) (I : (Nat → Bool) → (Nat → Value) → World → Prop) (a0 : Act) : List Oper → Nat → Prop
  | [], _ => True
  | o :: os, i => (∀ (d : Nat → Bool) (t : Nat → Value) (w : World), I d t w → d i = false → (∀ j ∈ waits md o, d j = true) →
      ∀ K : Act → World → Prop, (∀ v w', I (updB d i) (upd t i v) w' → K ((fill ops.toList 0 t a0).put o.dst v) w') →
        if Region.wanted o (yielded ops (fill ops.toList 0 t a0).tmps) = true then Oper.wp P o (fill ops.toList 0 t a0) w K Q else K ((fill ops.toList 0 t a0).put o.dst undef) w) ∧
    EachI P md ops Q I a0 os (i + 1)

theorem EachI.at {I : (Nat → Bool) → (Nat → Value) → World → Prop} {a0 : Act} : ∀ (os : List Oper) (k i : Nat) (o : Oper), EachI P md ops Q I a0 os k → os[i]? = some o →
    ∀ (d : Nat → Bool) (t : Nat → Value) (w : World), I d t w → d (k + i) = false → (∀ j ∈ waits md o, d j = true) →
      ∀ K : Act → World → Prop, (∀ v w', I (updB d (k + i)) (upd t (k + i) v) w' → K ((fill ops.toList 0 t a0).put o.dst v) w') →
        if Region.wanted o (yielded ops (fill ops.toList 0 t a0).tmps) = true then Oper.wp P o (fill ops.toList 0 t a0) w K Q else K ((fill ops.toList 0 t a0).put o.dst undef) w
  | [], _, _, _, _, h => by simp at h
  | o' :: os, k, 0, o, he, h => by
    simp at h
    subst h
    exact he.1
  | o' :: os, k, i + 1, o, he, h => by
    have := EachI.at os (k + 1) i o he.2 (by simpa using h)
    rw [show k + 1 + i = k + (i + 1) by omega] at this
    exact this

theorem wpAny_inv {I : (Nat → Bool) → (Nat → Value) → World → Prop} {a0 : Act} (hap : allApart ops.toList = true) (hb : backBinds md ops.toList 0 = true)
    (hs : EachI P md ops Q I a0 ops.toList 0)
    (hend : ∀ (d : Nat → Bool) (t : Nat → Value) (w : World), I d t w → (∀ i, i < ops.size → d i = true) → Q .normal (fill ops.toList 0 t a0) w) :
    ∀ (fuel : Nat) (l : Array Bool) (t : Nat → Value) (w : World), l.size = ops.size → (l.toList.filter (· == false)).length ≤ fuel →
      I (fun i => l.getD i false) t w → wpAny P md ops Q fuel l (fill ops.toList 0 t a0) w := by
  have hall : ∀ (l : Array Bool), l.size = ops.size → Region.ready md ops l = [] → ∀ i, i < ops.size → l.getD i false = true := by
    intro l hl hr i
    induction i using Nat.strongRecOn with
    | _ i ih =>
      intro hi
      cases hg : l.getD i false with
      | true => rfl
      | false =>
        exfalso
        have hm : i ∈ Region.ready md ops l := by
          refine mem_ready.2 ⟨?_, ops[i], by simp [hi], fun e he hbi => ?_⟩
          · simp [hl, hi] at hg ⊢; exact hg
          · have := backBinds_spec md ops.toList 0 i ops[i] hb (by simp [hi]) e he hbi
            exact ih e.on (by omega) (by omega)
        rw [hr] at hm
        cases hm
  intro fuel
  induction fuel with
  | zero =>
    intro l t w hl hf hI
    have hr : Region.ready md ops l = [] := by
      apply List.eq_nil_iff_forall_not_mem.2
      intro i hi
      obtain ⟨h0, o, ho, -⟩ := mem_ready.1 hi
      have hlt : i < l.size := by rw [hl]; exact (Array.getElem?_eq_some_iff.1 ho).1
      have hz : l.toList.filter (· == false) = [] := List.eq_nil_of_length_eq_zero (by omega)
      have : l[i] ∈ l.toList.filter (· == false) := by
        rw [List.mem_filter]
        refine ⟨by simp, ?_⟩
        simpa [hlt] using h0
      rw [hz] at this
      cases this
    exact ⟨hr, hend _ t w hI (fun i hi => hall l hl hr i hi)⟩
  | succ fuel ih =>
    intro l t w hl hf hI
    refine ⟨fun hr => hend _ t w hI (fun i hi => hall l hl hr i hi), fun i hi => ?_⟩
    obtain ⟨h0, o, ho, haf⟩ := mem_ready.1 hi
    have hlt : i < ops.size := (Array.getElem?_eq_some_iff.1 ho).1
    have hli : i < l.size := by omega
    refine wpOp_step ho (fun K' hK => ?_)
    have hat := EachI.at ops.toList 0 i o hs (by simpa using ho) _ t w hI (by simp [hli] at h0 ⊢; exact h0) (fun j hj => by
      simp only [waits, List.mem_map, List.mem_filter] at hj
      obtain ⟨e, ⟨he, hbi⟩, rfl⟩ := hj
      exact haf e (by simpa using he) hbi) K'
    refine hat (fun v w' hI' => hK _ _ ?_)
    rw [Nat.zero_add] at hI'
    have hfu := fill_upd ops.toList 0 i o t v a0 hap (by simpa using ho)
    rw [Nat.zero_add] at hfu
    rw [← hfu]
    have hd : (fun j => (l.setIfInBounds i true).getD j false) = updB (fun j => l.getD j false) i := by
      funext j
      unfold updB
      by_cases e : j = i
      · subst e; simp [hli]
      · rw [getD_set_ne false (Ne.symm e), if_neg e]
    refine ih (l.setIfInBounds i true) (upd t i v) w' (by simp [hl]) ?_ (by rw [hd]; exact hI')
    have hcount : ∀ (ls : List Bool) (k : Nat), ls[k]? = some false → ((ls.set k true).filter (· == false)).length + 1 = (ls.filter (· == false)).length := by
      intro ls
      induction ls with
      | nil => intro k h; simp at h
      | cons b bs ihl =>
        intro k h
        cases k with
        | zero => simp at h; subst h; simp
        | succ k =>
          have := ihl k (by simpa using h)
          cases b <;> simp_all
    have := hcount l.toList i (by
      simp [hli] at h0 ⊢
      exact h0)
    rw [Array.toList_setIfInBounds]
    omega

theorem wp_region_inv {id : Nat} {a : Act} {w : World} (I : (Nat → Bool) → (Nat → Value) → World → Prop) (hm : P.follows .mixedOrders = true)
    (hap : allApart ops.toList = true) (hb : backBinds .any ops.toList 0 = true) (h0 : ∀ t, I (fun _ => false) t w.drew)
    (hs : EachI P .any ops Q I a ops.toList 0)
    (hend : ∀ (d : Nat → Bool) (t : Nat → Value) (w : World), I d t w → (∀ i, i < ops.size → d i = true) → Q .normal (fill ops.toList 0 t a) w) :
    (Code.region id ops true).wp P Q a w := by
  refine wp_region_any hm ?_
  have hz : (fun i => (Array.replicate ops.size false).getD i false) = fun _ => false := by
    funext i
    by_cases hi : i < ops.size
    · simp [hi]
    · simp [hi]
  have := wpAny_inv (md := .any) hap hb hs hend ops.size (Array.replicate ops.size false) (first ops.toList a) w.drew (by simp) (by simp) (by rw [hz]; exact h0 _)
  rw [fill_first] at this
  exact this

end
end Go.Proofs.Ytjhkadffaephmab

/-
  plan.lesser, buildHops, buildWide.
-/
namespace Go.Proofs.Ytjhkadffaephmab
set_option maxRecDepth 100000
open Go.RowKit

/-- It lies in blocks from b on. -/
structure Mat.From (m : Mat) (b : Nat) : Prop where
  gb : 0 < m.t.len → b ≤ m.gb
  rows : ∀ r, r < m.t.len → 0 < m.t.L r → b ≤ m.RB r
structure AlgM.From (m : AlgM) (b : Nat) : Prop where
  B : m.B.From b
  E : m.E.From b
theorem Mat.From.mono {m : Mat} {b c : Nat} (h : m.From b) (hc : c ≤ b) : m.From c := ⟨fun h0 => Nat.le_trans hc (h.gb h0), fun r hr h0 => Nat.le_trans hc (h.rows r hr h0)⟩
theorem AlgM.From.mono {m : AlgM} {b c : Nat} (h : m.From b) (hc : c ≤ b) : m.From c := ⟨h.B.mono hc, h.E.mono hc⟩
theorem made_from (b n p : Nat) (Z : Nat → Nat → Int) : (madeMat b n p Z).From b := ⟨fun _ => Nat.le_refl _, fun r _ _ => by show b ≤ b + 1 + r; omega⟩

theorem cell_other {W : World} {B C i j : Nat} (hne : B ≠ C) (v : Value) : (W.setCell ⟨C, i, none⟩ v).cell? ⟨B, j, none⟩ = W.cell? ⟨B, j, none⟩ :=
  World.cell?_of_block (by
    show (W.heap.modify C _)[B]? = _
    rw [Array.getElem?_modify, if_neg (Ne.symm hne)])

theorem Mat.In.other {m : Mat} {n b C i : Nat} {w : World} (h : m.In n w) (hf : m.From b) (hC : C < b) (v : Value) : m.In n (w.setCell ⟨C, i, none⟩ v) where
  ga := h.ga
  gb := h.gb
  row := fun r hr => by rw [cell_other (by have := hf.gb (by omega); omega)]; exact h.row r hr
  addr := h.addr
  cell := fun r hr c hc => by rw [cell_other (by have := hf.rows r hr (by omega); omega)]; exact h.cell r hr c hc
  len := h.len
  lens := h.lens

/-- What a call that builds returns: an algebra of its own, in blocks from b on. -/
def Made (x : NAlg) (b : Nat) (e : Ending) (w' : World) : Prop := ∃ m : AlgM, e = .returned m.val ∧ m.alg = x.alg ∧ m.In w'.heap.size w' ∧ m.From b

/-- Three stores into a block of three cells. -/
def set3 (W : World) (B : Nat) (v0 v1 v2 : Value) : World := ((W.setCell ⟨B, 0, none⟩ v0).setCell ⟨B, 1, none⟩ v1).setCell ⟨B, 2, none⟩ v2
theorem Blk.set3 {W : World} {B : Nat} {t : TypeId} {u0 u1 u2 : Value} (h : Blk W B #[u0, u1, u2] t) (v0 v1 v2 : Value) : Blk (set3 W B v0 v1 v2) B #[v0, v1, v2] t := by
  have := ((h.set 0 v0).set 1 v1).set 2 v2
  unfold Ytjhkadffaephmab.set3
  simpa using this
theorem Blk.far3 {W : World} {B C : Nat} {vs : Array Value} {t : TypeId} (h : Blk W B vs t) (hne : B ≠ C) (v0 v1 v2 : Value) : Blk (((W.setCell ⟨C, 0, none⟩ v0).setCell ⟨C, 1, none⟩ v1).setCell ⟨C, 2, none⟩ v2) B vs t :=
  ((h.other hne _ _).other hne _ _).other hne _ _
theorem below3 {W W' : World} {k B : Nat} (h : Below k W W') (hk : k ≤ B) (v0 v1 v2 : Value) : Below k W (set3 W' B v0 v1 v2) :=
  ((h.setCell (p := ⟨B, 0, none⟩) hk _).setCell (p := ⟨B, 1, none⟩) hk _).setCell (p := ⟨B, 2, none⟩) hk _

theorem mat_in {W : World} {b n p : Nat} {Z : Nat → Nat → Int} (hn : n ≤ 24) (hp : p ≤ 24) (hout : Blk W b (outArr (b + 1) p n n) 22) (hrows : ∀ r, r < n → Blk W (b + 1 + r) (rowArr (Z r) p p) 3) : (madeMat b n p Z).In W.heap.size W where
  ga := fun _ => rfl
  gb := fun _ => hout.lt
  row := fun r hr => by
    have hr' : r < n := hr
    show W.cell? ⟨b, 0 + r, none⟩ = _
    rw [hout.cell (0 + r), Nat.zero_add, outArr_get hr', if_pos hr']
    rfl
  addr := fun r hr _ => ⟨rfl, (hrows r hr).lt⟩
  cell := fun r hr c hc => by
    have hc' : c < p := hc
    show W.cell? ⟨b + 1 + r, 0 + c, none⟩ = _
    rw [(hrows r hr).cell (0 + c), Nat.zero_add, rowArr_get hc', if_pos hc']
    rfl
  len := by show n ≤ maxLen; unfold maxLen; omega
  lens := fun _ _ => by show p ≤ maxLen; unfold maxLen; omega

theorem made_end {x : NAlg} {W1 w1 w2 : World} {B b : Nat} (hx : x.Ok) (h1 : TabI W1 x.size x.size (fun a b => (x.best a b : Int)) x.size w1) (h2 : TabI w1 x.el x.size (fun e a => (x.edge e a : Int)) x.el w2) (hB : B < W1.heap.size) (hb : b ≤ W1.heap.size) (v0 v1 v2 : Value) :
    Made x b (.returned (.agg #[.int .i64 x.size, .slice (some ⟨W1.heap.size, 0, none⟩) x.size x.size, .slice (some ⟨w1.heap.size, 0, none⟩) x.el x.el])) (((w2.setCell ⟨B, 0, none⟩ v0).setCell ⟨B, 1, none⟩ v1).setCell ⟨B, 2, none⟩ v2) := by
  have hi := hx.hi
  have he := hx.el
  have s1 := h1.size
  refine ⟨⟨x.size, madeMat W1.heap.size x.size x.size (fun a b => (x.best a b : Int)), madeMat w1.heap.size x.el x.size (fun e a => (x.edge e a : Int))⟩, rfl, rfl, ⟨?_, ?_⟩, ⟨(made_from _ _ _ _).mono hb, (made_from _ _ _ _).mono (by omega)⟩⟩
  · exact mat_in hi hi ((h1.out.below h2.below h1.out.lt).far3 (by omega) _ _ _) (fun r hr => ((h1.rows r hr).below h2.below (h1.rows r hr).lt).far3 (by omega) _ _ _)
  · exact mat_in (by omega) hi (h2.out.far3 (by omega) _ _ _) (fun r hr => (h2.rows r hr).far3 (by omega) _ _ _)

end Go.Proofs.Ytjhkadffaephmab

/-
  Tables that were made by append: each row in a block of its own.
-/
namespace Go.Proofs.Ytjhkadffaephmab
set_option maxRecDepth 100000
open Go.RowKit

theorem below_grown {w w' : World} (h : Below w.heap.size w w') : w.grownBy w' none := ⟨h.os, h.tape, h.output, h.size, fun i hi _ => h.block i hi⟩
theorem owns_below {w w' : World} {base : Nat} {e : TypeId} {size : Nat} {v : Value} {n : Nat} {xs : List Value} (h : w.ownsRow base e size v n xs) (hb : Below w.heap.size w w') : w'.ownsRow base e size v n xs :=
  h.kept (below_grown hb) (by cases v.ownBlock <;> simp)
theorem grown_below {w w' : World} {row : Option Nat} {B : Nat} (h : w.grownBy w' row) (hr : ∀ g, row = some g → B ≤ g) (hB : B ≤ w.heap.size) : Below B w w' where
  os := h.os
  tape := h.tape
  output := h.output
  size := h.size
  block := fun k hk => h.block k (by omega) (fun e => by have := hr k e.symm; omega)

/-- n numbers, as values. -/
def intsL (f : Nat → Int) (n : Nat) : List Value := (List.range n).map fun j => Value.int .i64 (f j)
theorem intsL_succ (f : Nat → Int) (n : Nat) : intsL f (n + 1) = intsL f n ++ [.int .i64 (f n)] := by simp [intsL, List.range_succ]
theorem intsL_len (f : Nat → Int) (n : Nat) : (intsL f n).length = n := by simp [intsL]
theorem intsL_get {f : Nat → Int} {n j : Nat} (h : j < n) : (intsL f n)[j]? = some (.int .i64 (f j)) := by simp [intsL, h]
theorem intsL_congr {f g : Nat → Int} {n : Nat} (h : ∀ j, j < n → f j = g j) : intsL f n = intsL g n := by
  unfold intsL
  apply List.map_congr_left
  intro j hj
  rw [h j (by simpa using hj)]
theorem intsL_set {f : Nat → Int} {n j : Nat} {z : Int} : (intsL f n).set j (.int .i64 z) = intsL (fun i => if i = j then z else f i) n := by
  apply List.ext_getElem?
  intro i
  by_cases hi : i < n
  · rw [intsL_get hi]
    by_cases e : i = j
    · subst e
      rw [List.getElem?_set_self (by rw [intsL_len]; exact hi)]
      simp
    · rw [List.getElem?_set_ne (Ne.symm e), intsL_get hi]
      simp [e]
  · rw [List.getElem?_eq_none (by rw [List.length_set, intsL_len]; omega), List.getElem?_eq_none (by rw [intsL_len]; omega)]

/-- The slices of n rows. -/
def rowsL (g c : Nat → Nat) (p n : Nat) : List Value := (List.range n).map fun r => Value.slice (some ⟨g r, 0, none⟩) p (c r)
theorem rowsL_len (g c : Nat → Nat) (p n : Nat) : (rowsL g c p n).length = n := by simp [rowsL]
theorem rowsL_get {g c : Nat → Nat} {p n r : Nat} (h : r < n) : (rowsL g c p n)[r]? = some (.slice (some ⟨g r, 0, none⟩) p (c r)) := by simp [rowsL, h]
theorem rowsL_congr {g c g' c' : Nat → Nat} {p n : Nat} (h : ∀ r, r < n → g r = g' r ∧ c r = c' r) : rowsL g c p n = rowsL g' c' p n := by
  unfold rowsL
  apply List.map_congr_left
  intro r hr
  obtain ⟨h1, h2⟩ := h r (by simpa using hr)
  rw [h1, h2]
theorem rowsL_succ (g c : Nat → Nat) (p n : Nat) : rowsL g c p (n + 1) = rowsL g c p n ++ [.slice (some ⟨g n, 0, none⟩) p (c n)] := by simp [rowsL, List.range_succ]

/-- A table in blocks of its own, from lo on and below hi. -/
def OwnTab (lo hi : Nat) (V : Value) (n p : Nat) (Z : Nat → Nat → Int) (w : World) : Prop :=
  ∃ g c : Nat → Nat, w.ownsRow lo 22 1 V n (rowsL g c p n) ∧ (∀ k, V.ownBlock = some k → k < hi) ∧
    (∀ r, r < n → w.ownsRow lo 3 1 (.slice (some ⟨g r, 0, none⟩) p (c r)) p (intsL (Z r) p) ∧ g r < hi ∧ V.ownBlock ≠ some (g r)) ∧
    (∀ r s, r < n → s < n → r ≠ s → g r ≠ g s)

theorem OwnTab.nil (lo hi p : Nat) (Z : Nat → Nat → Int) (w : World) : OwnTab lo hi (.slice none 0 0) 0 p Z w :=
  ⟨fun _ => 0, fun _ => 0, World.ownsRow_nil w lo _ 1, fun k hk => by simp [Value.ownBlock] at hk, fun r hr => absurd hr (Nat.not_lt_zero _), fun r s hr => absurd hr (Nat.not_lt_zero _)⟩

theorem OwnTab.kept {lo hi : Nat} {V : Value} {n p : Nat} {Z : Nat → Nat → Int} {w w' : World} {row : Option Nat} (h : OwnTab lo hi V n p Z w) (hg : w.grownBy w' row) (hr : ∀ k, row = some k → k < lo ∨ hi ≤ k) : OwnTab lo hi V n p Z w' := by
  obtain ⟨g, c, h1, h2, h3, h4⟩ := h
  refine ⟨g, c, h1.kept hg ?_, h2, fun r hr' => ⟨(h3 r hr').1.kept hg (Or.inr ?_), (h3 r hr').2⟩, h4⟩
  · cases hv : V.ownBlock with
    | none => exact Or.inl rfl
    | some k =>
      refine Or.inr (fun e => ?_)
      have hk1 := (h1.lt k hv).1
      have hk2 := h2 k hv
      rcases hr k e.symm with h | h <;> omega
  · intro e
    have hk1 := ((h3 r hr').1.lt (g r) rfl).1
    have hk2 := (h3 r hr').2.1
    rcases hr (g r) e.symm with h | h <;> omega

theorem OwnTab.below {lo hi : Nat} {V : Value} {n p : Nat} {Z : Nat → Nat → Int} {w w' : World} (h : OwnTab lo hi V n p Z w) (hb : Below w.heap.size w w') : OwnTab lo hi V n p Z w' :=
  h.kept (below_grown hb) (fun k hk => by cases hk)
theorem OwnTab.alloc {lo hi : Nat} {V : Value} {n p : Nat} {Z : Nat → Nat → Int} {w : World} (h : OwnTab lo hi V n p Z w) (o : Obj) : OwnTab lo hi V n p Z (w.alloc o) :=
  h.kept (World.grownBy_alloc w o none) (fun k hk => by cases hk)
theorem OwnTab.mono {lo hi lo' hi' : Nat} {V : Value} {n p : Nat} {Z : Nat → Nat → Int} {w : World} (h : OwnTab lo hi V n p Z w) (h1 : lo' ≤ lo) (h2 : hi ≤ hi') : OwnTab lo' hi' V n p Z w := by
  obtain ⟨g, c, k1, k2, k3, k4⟩ := h
  exact ⟨g, c, Go.Joins.ownsRow_le k1 h1, fun k hk => Nat.lt_of_lt_of_le (k2 k hk) h2, fun r hr => ⟨Go.Joins.ownsRow_le (k3 r hr).1 h1, Nat.lt_of_lt_of_le (k3 r hr).2.1 h2, (k3 r hr).2.2⟩, k4⟩
theorem OwnTab.congr {lo hi : Nat} {V : Value} {n p : Nat} {Z Z' : Nat → Nat → Int} {w : World} (h : OwnTab lo hi V n p Z w) (hz : ∀ r, r < n → ∀ j, j < p → Z r j = Z' r j) : OwnTab lo hi V n p Z' w := by
  obtain ⟨g, c, k1, k2, k3, k4⟩ := h
  exact ⟨g, c, k1, k2, fun r hr => ⟨by rw [← intsL_congr (hz r hr)]; exact (k3 r hr).1, (k3 r hr).2⟩, k4⟩

/-- One row more. -/
theorem OwnTab.push {lo H0 : Nat} {V : Value} {n p : Nat} {Z : Nat → Nat → Int} {w1 : World} {g c : Nat → Nat}
    (k1 : w1.ownsRow lo 22 1 V n (rowsL g c p n)) (k2 : ∀ k, V.ownBlock = some k → k < H0)
    (k3 : ∀ r, r < n → w1.ownsRow lo 3 1 (.slice (some ⟨g r, 0, none⟩) p (c r)) p (intsL (Z r) p) ∧ g r < H0 ∧ V.ownBlock ≠ some (g r)) (k4 : ∀ r s, r < n → s < n → r ≠ s → g r ≠ g s)
    (hlo : lo ≤ H0) {gn cn : Nat} (hrow : w1.ownsRow H0 3 1 (.slice (some ⟨gn, 0, none⟩) p cn) p (intsL (Z n) p))
    {w2 : World} {g' cap' : Nat} (hown : w2.ownsRow lo 22 1 (.slice (some ⟨g', 0, none⟩) (n + 1) cap') (n + 1) (rowsL g c p n ++ [.slice (some ⟨gn, 0, none⟩) p cn])) (hgrow : w1.grownBy w2 V.ownBlock)
    (hat : V.ownBlock = some g' ∨ g' = w1.heap.size) : OwnTab lo w2.heap.size (.slice (some ⟨g', 0, none⟩) (n + 1) cap') (n + 1) p Z w2 := by
  have hgn := hrow.lt gn rfl
  have hg' : g' < w2.heap.size := (hown.lt g' rfl).2
  have hneV : ∀ k, V.ownBlock = some k → k ≠ gn := fun k hk e => by have := k2 k hk; omega
  have hgne : g' ≠ gn := by
    rcases hat with h | h
    · exact hneV g' h
    · omega
  refine ⟨fun r => if r = n then gn else g r, fun r => if r = n then cn else c r, ?_, ?_, ?_, ?_⟩
  · rw [rowsL_succ]
    simp only [if_true]
    rw [rowsL_congr (g := fun r => if r = n then gn else g r) (c := fun r => if r = n then cn else c r) (g' := g) (c' := c) (fun r hr => by simp [show r ≠ n by omega])]
    exact hown
  · intro k hk
    have : k = g' := by simpa [Value.ownBlock] using hk.symm
    omega
  · intro r hr
    by_cases e : r = n
    · subst e
      simp only [if_true]
      refine ⟨(Go.Joins.ownsRow_le hrow hlo).kept hgrow (Or.inr (fun e' => ?_)), by have := hgrow.size; omega, fun e' => ?_⟩
      · exact hneV gn (by rw [← e']; rfl) rfl
      · exact hgne (by simpa [Value.ownBlock] using e')
    · simp only [if_neg e]
      obtain ⟨q1, q2, q3⟩ := k3 r (by omega)
      refine ⟨q1.kept hgrow (Or.inr (fun e' => q3 (by rw [← e']; rfl))), ?_, fun e' => ?_⟩
      · have := (q1.lt (g r) rfl).2
        have := hgrow.size
        omega
      · have e2 : g' = g r := by simpa [Value.ownBlock] using e'
        rcases hat with h | h
        · exact q3 (by rw [h, e2])
        · have := (q1.lt (g r) rfl).2
          omega
  · intro r s hr hs hne
    by_cases e1 : r = n
    · subst e1
      have e2 : s ≠ r := Ne.symm hne
      simp only [if_true, if_neg e2]
      have := (k3 s (by omega)).2.1
      omega
    · by_cases e2 : s = n
      · subst e2
        simp only [if_true, if_neg e1]
        have := (k3 r (by omega)).2.1
        omega
      · simp only [if_neg e1, if_neg e2]
        exact k4 r s (by omega) (by omega) hne

/-- As a table in memory. -/
theorem OwnTab.mat {lo hi : Nat} {V : Value} {n p : Nat} {Z : Nat → Nat → Int} {w : World} (h : OwnTab lo hi V n p Z w) (hn : n ≤ 100) (hp : p ≤ 100) :
    ∃ m : Mat, V = m.val ∧ m.t = ⟨n, fun _ => p, Z⟩ ∧ m.In w.heap.size w ∧ m.From lo := by
  obtain ⟨g, c, k1, _, k3, _⟩ := h
  rcases Go.Joins.ownsRow_forms k1 with ⟨rfl, rfl⟩ | ⟨gb, cap, rfl⟩
  · refine ⟨⟨none, 0, 0, 0, fun _ => none, fun _ => 0, fun _ => 0, fun _ => 0, ⟨0, fun _ => p, Z⟩⟩, rfl, rfl, ⟨?_, ?_, ?_, ?_, ?_, Nat.zero_le _, ?_⟩, ⟨?_, ?_⟩⟩
    · exact fun h => absurd h (Nat.not_lt_zero _)
    · exact fun h => absurd h (Nat.not_lt_zero _)
    · exact fun _ h => absurd h (Nat.not_lt_zero _)
    · exact fun _ h => absurd h (Nat.not_lt_zero _)
    · exact fun _ h => absurd h (Nat.not_lt_zero _)
    · exact fun _ h => absurd h (Nat.not_lt_zero _)
    · exact fun h => absurd h (Nat.not_lt_zero _)
    · exact fun _ h => absurd h (Nat.not_lt_zero _)
  · refine ⟨⟨some ⟨gb, 0, none⟩, gb, 0, cap, fun r => some ⟨g r, 0, none⟩, c, g, fun _ => 0, ⟨n, fun _ => p, Z⟩⟩, rfl, rfl, ⟨fun _ => rfl, fun _ => (k1.lt gb rfl).2, ?_, ?_, ?_, ?_, ?_⟩, ⟨fun _ => (k1.lt gb rfl).1, ?_⟩⟩
    · intro r hr
      have hr' : r < n := hr
      show w.cell? ⟨gb, 0 + r, none⟩ = _
      rw [Nat.zero_add, k1.cellAt r (by omega), rowsL_get hr']
    · intro r hr _
      exact ⟨rfl, ((k3 r hr).1.lt (g r) rfl).2⟩
    · intro r hr j hj
      have hj' : j < p := hj
      show w.cell? ⟨g r, 0 + j, none⟩ = _
      rw [Nat.zero_add, (k3 r hr).1.cellAt j (by omega), intsL_get hj']
    · show n ≤ maxLen; unfold maxLen; omega
    · intro r _; show p ≤ maxLen; unfold maxLen; omega
    · intro r hr _
      exact ((k3 r hr).1.lt (g r) rfl).1

/-- One number of a row is set anew. -/
theorem OwnTab.set {lo hi : Nat} {V : Value} {n p : Nat} {Z : Nat → Nat → Int} {w : World} {g c : Nat → Nat}
    (k1 : w.ownsRow lo 22 1 V n (rowsL g c p n)) (k2 : ∀ k, V.ownBlock = some k → k < hi)
    (k3 : ∀ r, r < n → w.ownsRow lo 3 1 (.slice (some ⟨g r, 0, none⟩) p (c r)) p (intsL (Z r) p) ∧ g r < hi ∧ V.ownBlock ≠ some (g r)) (k4 : ∀ r s, r < n → s < n → r ≠ s → g r ≠ g s)
    {r j : Nat} (hr : r < n) (z : Int) : OwnTab lo hi V n p (fun a b => if a = r ∧ b = j then z else Z a b) (w.setCell ⟨g r, j, none⟩ (.int .i64 z)) := by
  obtain ⟨q1, q2, q3⟩ := k3 r hr
  obtain ⟨s1, s2⟩ := q1.stored j (.int .i64 z)
  refine ⟨g, c, k1.kept s2 ?_, k2, fun s hs => ⟨?_, (k3 s hs).2⟩, k4⟩
  · cases hv : V.ownBlock with
    | none => exact Or.inl rfl
    | some k => exact Or.inr (by rw [← hv]; exact q3)
  · by_cases e : s = r
    · subst e
      rw [intsL_set] at s1
      have e2 : intsL (fun i => if i = j then z else Z s i) p = intsL (fun b => if s = s ∧ b = j then z else Z s b) p := intsL_congr (fun b _ => by simp)
      rw [← e2]
      exact s1
    · have e2 : intsL (fun b => if s = r ∧ b = j then z else Z s b) p = intsL (Z s) p := intsL_congr (fun b _ => by simp [e])
      show (World.setCell w _ _).ownsRow lo 3 1 _ p (intsL (fun b => if s = r ∧ b = j then z else Z s b) p)
      rw [e2]
      exact (k3 s hs).1.kept s2 (Or.inr (fun e' => k4 s r hs hr e (by simpa [Value.ownBlock] using e')))

end Go.Proofs.Ytjhkadffaephmab

/-
  A region that draws its order and whose last operation alone turns what the others stand on.
-/
namespace Go.Proofs.Ytjhkadffaephmab
open Go

section
variable {P : Program} {ops : Array Oper} {Q : Exit → Act → World → Prop} {md : Region.Mode}

/-- Each operation ahead of number L is waited for by one behind it, up to L. -/
def coversTo (md : Region.Mode) (ops : Array Oper) (L : Nat) : Bool :=
  (List.range L).all fun k => (List.range (L + 1)).any fun i => decide (k < i) && (match ops[i]? with | some o => (waits md o).contains k | none => false)
/-- Each operation behind number L waits for it. -/
def waitsFor (md : Region.Mode) (ops : Array Oper) (L : Nat) : Bool :=
  (List.range ops.size).all fun i => decide (i ≤ L) || (match ops[i]? with | some o => (waits md o).contains L | none => false)

/-- What is done was waited for. -/
def Shut (md : Region.Mode) (ops : Array Oper) (d : Nat → Bool) : Prop := ∀ i o, ops[i]? = some o → d i = true → ∀ j ∈ waits md o, d j = true

theorem coversTo_spec {L : Nat} (h : coversTo md ops L = true) {d : Nat → Bool} (hs : Shut md ops d) {oL : Oper} (hL : ops[L]? = some oL) (hw : ∀ j ∈ waits md oL, d j = true) : ∀ k, k < L → d k = true := by
  have key : ∀ m k, L - k ≤ m → k < L → d k = true := by
    intro m
    induction m with
    | zero => intro k h1 h2; omega
    | succ m ih =>
      intro k h1 h2
      unfold coversTo at h
      rw [List.all_eq_true] at h
      have := h k (by simpa using h2)
      rw [List.any_eq_true] at this
      obtain ⟨i, hi, hx⟩ := this
      simp only [List.mem_range, Bool.and_eq_true, decide_eq_true_eq] at hi hx
      obtain ⟨hx1, hx2⟩ := hx
      cases ho : ops[i]? with
      | none => rw [ho] at hx2; cases hx2
      | some o =>
        rw [ho] at hx2
        have hm : k ∈ waits md o := by simpa using hx2
        by_cases e : i = L
        · subst e
          rw [hL] at ho
          cases ho
          exact hw k hm
        · exact hs i o ho (ih i (by omega) (by omega)) k hm
  exact fun k hk => key (L - k) k (Nat.le_refl _) hk

theorem Shut.upd {d : Nat → Bool} (h : Shut md ops d) {i : Nat} {o : Oper} (ho : ops[i]? = some o) (hw : ∀ j ∈ waits md o, d j = true) : Shut md ops (updB d i) := by
  intro k o' hk hd j hj
  unfold updB at hd ⊢
  by_cases e : k = i
  · subst e
    rw [hk] at ho
    cases ho
    split
    · rfl
    · exact hw j hj
  · rw [if_neg e] at hd
    split
    · rfl
    · exact h k o' hk hd j hj

/-- Those ahead of number L: as EachOp, and what lies in the slots of the others is what lay there. -/
def EachAhead (P : Program) (md : Region.Mode) (ops : Array Oper) (Q : Exit → Act → World → Prop) (L : Nat) (G : World → Prop) (E : Nat → Value → World → Prop) (a0 : Act) : List Oper → Nat → Prop
  | [], _ => True
  | o :: os, i => (∀ (t : Nat → Value) (w : World), G w → (∀ j ∈ waits md o, E j (t j) w) → (∀ k, L ≤ k → t k = first ops.toList a0 k) →
      ∀ K : Act → World → Prop, (∀ v w', G w' → E i v w' → (∀ j u, j ≠ i → E j u w → E j u w') → K ((fill ops.toList 0 t a0).put o.dst v) w') →
        if Region.wanted o (yielded ops (fill ops.toList 0 t a0).tmps) = true then Oper.wp P o (fill ops.toList 0 t a0) w K Q else K ((fill ops.toList 0 t a0).put o.dst undef) w) ∧
    EachAhead P md ops Q L G E a0 os (i + 1)

theorem EachAhead.at {L : Nat} {G : World → Prop} {E : Nat → Value → World → Prop} {a0 : Act} : ∀ (os : List Oper) (k i : Nat) (o : Oper), EachAhead P md ops Q L G E a0 os k → os[i]? = some o →
    ∀ (t : Nat → Value) (w : World), G w → (∀ j ∈ waits md o, E j (t j) w) → (∀ k, L ≤ k → t k = first ops.toList a0 k) →
      ∀ K : Act → World → Prop, (∀ v w', G w' → E (k + i) v w' → (∀ j u, j ≠ k + i → E j u w → E j u w') → K ((fill ops.toList 0 t a0).put o.dst v) w') →
        if Region.wanted o (yielded ops (fill ops.toList 0 t a0).tmps) = true then Oper.wp P o (fill ops.toList 0 t a0) w K Q else K ((fill ops.toList 0 t a0).put o.dst undef) w
  | [], _, _, _, _, h => by simp at h
  | o' :: os, k, 0, o, he, h => by
    simp at h
    subst h
    exact he.1
  | o' :: os, k, i + 1, o, he, h => by
    have := EachAhead.at os (k + 1) i o he.2 (by simpa using h)
    rw [show k + 1 + i = k + (i + 1) by omega] at this
    exact this

/-- Those behind number L: what each leaves, as L has left it. -/
def EachAfter (P : Program) (ops : Array Oper) (Q : Exit → Act → World → Prop) (L : Nat) (G' : Value → World → Prop) (E' : Nat → Value → Value → Prop) (a0 : Act) : List Oper → Nat → Prop
  | [], _ => True
  | o :: os, i => (∀ (t : Nat → Value) (w : World), G' (t L) w →
      ∀ K : Act → World → Prop, (∀ v, E' i v (t L) → K ((fill ops.toList 0 t a0).put o.dst v) w) →
        if Region.wanted o (yielded ops (fill ops.toList 0 t a0).tmps) = true then Oper.wp P o (fill ops.toList 0 t a0) w K Q else K ((fill ops.toList 0 t a0).put o.dst undef) w) ∧
    EachAfter P ops Q L G' E' a0 os (i + 1)

theorem EachAfter.at {L : Nat} {G' : Value → World → Prop} {E' : Nat → Value → Value → Prop} {a0 : Act} : ∀ (os : List Oper) (k i : Nat) (o : Oper), EachAfter P ops Q L G' E' a0 os k → os[i]? = some o →
    ∀ (t : Nat → Value) (w : World), G' (t L) w →
      ∀ K : Act → World → Prop, (∀ v, E' (k + i) v (t L) → K ((fill ops.toList 0 t a0).put o.dst v) w) →
        if Region.wanted o (yielded ops (fill ops.toList 0 t a0).tmps) = true then Oper.wp P o (fill ops.toList 0 t a0) w K Q else K ((fill ops.toList 0 t a0).put o.dst undef) w
  | [], _, _, _, _, h => by simp at h
  | o' :: os, k, 0, o, he, h => by
    simp at h
    subst h
    exact he.1
  | o' :: os, k, i + 1, o, he, h => by
    have := EachAfter.at os (k + 1) i o he.2 (by simpa using h)
    rw [show k + 1 + i = k + (i + 1) by omega] at this
    exact this

structure LastI (md : Region.Mode) (ops : Array Oper) (a0 : Act) (L : Nat) (G : World → Prop) (E : Nat → Value → World → Prop) (G' : Value → World → Prop) (E' : Nat → Value → Value → Prop) (d : Nat → Bool) (t : Nat → Value) (w : World) : Prop where
  shut : Shut md ops d
  ahead : d L = false → G w ∧ (∀ k, k < L → d k = true → E k (t k) w) ∧ ∀ k, L ≤ k → t k = first ops.toList a0 k
  behind : d L = true → G' (t L) w ∧ ∀ k, L < k → k < ops.size → d k = true → E' k (t k) (t L)

theorem each_of_last {L : Nat} {G : World → Prop} {E : Nat → Value → World → Prop} {G' : Value → World → Prop} {E' : Nat → Value → Value → Prop} {a0 : Act}
    (hb : backBinds md ops.toList 0 = true) (hc : coversTo md ops L = true) (hf : waitsFor md ops L = true) {oL : Oper} (hoL : ops[L]? = some oL)
    (hs : EachAhead P md ops Q L G E a0 (ops.toList.take L) 0)
    (hL : ∀ (t : Nat → Value) (w : World), G w → (∀ k, k < L → E k (t k) w) → (∀ k, L ≤ k → t k = first ops.toList a0 k) → ∀ K : Act → World → Prop, (∀ v w', G' v w' → K ((fill ops.toList 0 t a0).put oL.dst v) w') →
        if Region.wanted oL (yielded ops (fill ops.toList 0 t a0).tmps) = true then Oper.wp P oL (fill ops.toList 0 t a0) w K Q else K ((fill ops.toList 0 t a0).put oL.dst undef) w)
    (ha : EachAfter P ops Q L G' E' a0 (ops.toList.drop (L + 1)) (L + 1)) :
    ∀ (os : List Oper) (i : Nat), (∀ j o, os[j]? = some o → ops[i + j]? = some o) → EachI P md ops Q (LastI md ops a0 L G E G' E') a0 os i
  | [], _, _ => trivial
  | o :: os, i, hos => by
    refine ⟨?_, each_of_last hb hc hf hoL hs hL ha os (i + 1) (fun j o' hj => by rw [show i + 1 + j = i + (j + 1) by omega]; exact hos (j + 1) o' (by simpa using hj))⟩
    have ho : ops[i]? = some o := by simpa using hos 0 o rfl
    intro d t w hI hd hp K hK
    have hsh := hI.shut.upd ho hp
    rcases Nat.lt_trichotomy i L with hlt | heq | hgt
    · have hdL : d L = false := by
        cases e : d L with
        | false => rfl
        | true =>
          have := coversTo_spec hc hI.shut hoL (hI.shut L oL hoL e) i hlt
          rw [hd] at this
          cases this
      obtain ⟨hG, hE, hT⟩ := hI.ahead hdL
      have hat := EachAhead.at (ops.toList.take L) 0 i o hs (by rw [List.getElem?_take, if_pos hlt]; simpa using ho) t w hG (fun j hj => by
        have hdj := hp j hj
        refine hE j ?_ hdj
        rcases Nat.lt_trichotomy j L with h | h | h
        · exact h
        · subst h; rw [hdL] at hdj; cases hdj
        · exfalso
          have hji : j < i := by
            simp only [waits, List.mem_map, List.mem_filter] at hj
            obtain ⟨e, ⟨he, hbi⟩, rfl⟩ := hj
            have := backBinds_spec md ops.toList 0 i o hb (by simpa using ho) e (by simpa using he) hbi
            omega
          omega) hT K
      refine hat (fun v w' hG' hEi hkeep => hK v w' ⟨hsh, fun _ => ⟨hG', fun k hk hdk => ?_, fun k hk => by rw [upd_other t v (by omega)]; exact hT k hk⟩, fun e => ?_⟩)
      · rw [Nat.zero_add] at hEi hkeep
        by_cases e : k = i
        · subst e; rw [upd_same]; exact hEi
        · rw [upd_other t v e]
          have : d k = true := by simpa [updB, e] using hdk
          exact hkeep k (t k) e (hE k hk this)
      · have : d L = true := by simpa [updB, Nat.ne_of_gt hlt] using e
        rw [hdL] at this; cases this
    · subst heq
      rw [hoL] at ho
      cases ho
      obtain ⟨hG, hE, hT⟩ := hI.ahead hd
      have hcov := coversTo_spec hc hI.shut hoL hp
      refine hL t w hG (fun k hk => hE k hk (hcov k hk)) hT K (fun v w' hG' => hK v w' ⟨hsh, fun e => ?_, fun _ => ⟨by rw [upd_same]; exact hG', fun k hk hks hdk => ?_⟩⟩)
      · simp [updB] at e
      · exfalso
        have hdk' : d k = true := by simpa [updB, Nat.ne_of_gt hk] using hdk
        unfold waitsFor at hf
        rw [List.all_eq_true] at hf
        have := hf k (by simpa using hks)
        rw [Array.getElem?_eq_getElem hks] at this
        simp only [Bool.or_eq_true, decide_eq_true_eq] at this
        rcases this with h | h
        · omega
        · have := hI.shut k ops[k] (Array.getElem?_eq_getElem hks) hdk' i (by simpa using h)
          rw [hd] at this; cases this
    · have hdL : d L = true := by
        unfold waitsFor at hf
        rw [List.all_eq_true] at hf
        have := hf i (by simpa using (Array.getElem?_eq_some_iff.1 ho).1)
        rw [ho] at this
        simp only [Bool.or_eq_true, decide_eq_true_eq] at this
        rcases this with h | h
        · omega
        · exact hp L (by simpa using h)
      obtain ⟨hG', hE'⟩ := hI.behind hdL
      have hat := EachAfter.at (ops.toList.drop (L + 1)) (L + 1) (i - (L + 1)) o ha (by rw [List.getElem?_drop, show L + 1 + (i - (L + 1)) = i by omega]; simpa using ho) t w hG' K
      rw [show L + 1 + (i - (L + 1)) = i by omega] at hat
      refine hat (fun v hv => hK v w ⟨hsh, fun e => ?_, fun _ => ?_⟩)
      · have : d L = false := by simpa [updB, Nat.ne_of_lt hgt] using e
        rw [hdL] at this; cases this
      · rw [upd_other t v (Nat.ne_of_lt hgt)]
        refine ⟨hG', fun k hk hks hdk => ?_⟩
        by_cases e : k = i
        · subst e; rw [upd_same]; exact hv
        · rw [upd_other t v e]
          exact hE' k hk hks (by simpa [updB, e] using hdk)

theorem wp_region_last {id : Nat} {a : Act} {w : World} (L : Nat) (oL : Oper) (G : World → Prop) (E : Nat → Value → World → Prop) (G' : Value → World → Prop) (E' : Nat → Value → Value → Prop) (hm : P.follows .mixedOrders = true)
    (hap : allApart ops.toList = true) (hb : backBinds .any ops.toList 0 = true) (hc : coversTo .any ops L = true) (hf : waitsFor .any ops L = true) (hoL : ops[L]? = some oL) (hG : G w.drew)
    (hs : EachAhead P .any ops Q L G E a (ops.toList.take L) 0)
    (hL : ∀ (t : Nat → Value) (w : World), G w → (∀ k, k < L → E k (t k) w) → (∀ k, L ≤ k → t k = first ops.toList a k) → ∀ K : Act → World → Prop, (∀ v w', G' v w' → K ((fill ops.toList 0 t a).put oL.dst v) w') →
        if Region.wanted oL (yielded ops (fill ops.toList 0 t a).tmps) = true then Oper.wp P oL (fill ops.toList 0 t a) w K Q else K ((fill ops.toList 0 t a).put oL.dst undef) w)
    (ha : EachAfter P ops Q L G' E' a (ops.toList.drop (L + 1)) (L + 1))
    (hend : ∀ (t : Nat → Value) (w : World), G' (t L) w → (∀ k, L < k → k < ops.size → E' k (t k) (t L)) → Q .normal (fill ops.toList 0 t a) w) :
    (Code.region id ops true).wp P Q a w := by
  have hLs : L < ops.size := (Array.getElem?_eq_some_iff.1 hoL).1
  refine wp_region_any hm ?_
  have hz : (fun i => (Array.replicate ops.size false).getD i false) = fun _ => false := by
    funext i
    by_cases hi : i < ops.size
    · simp [hi]
    · simp [hi]
  have := wpAny_inv (md := .any) (I := LastI .any ops a L G E G' E') hap hb (each_of_last hb hc hf hoL hs hL ha ops.toList 0 (fun j o hj => by simpa using hj)) (fun d t w hI hall => by
    obtain ⟨h1, h2⟩ := hI.behind (hall L hLs)
    exact hend t w h1 (fun k hk hks => h2 k hk hks (hall k hks))) ops.size (Array.replicate ops.size false) (first ops.toList a) w.drew (by simp) (by simp)
    (by rw [hz]; exact ⟨fun i o _ h => by simp at h, fun _ => ⟨hG, fun k _ h => by simp at h, fun _ _ => rfl⟩, fun h => by simp at h⟩)
  rw [fill_first] at this
  exact this
end

end Go.Proofs.Ytjhkadffaephmab
