/-
  plan.table: a table that a function makes.
-/
import Derived.Test.YtjhkadffaephmaaBroken
import Derived.Test.YtjhkadffaephmaaHops
import Derived.Laws.MakeOwn
import Derived.Laws.OwnMore
import Derived.Deep.RegionHeld3
namespace Go.Proofs.Ytjhkadffaephmaa
set_option maxRecDepth 100000
open Go.RowKit

theorem Try.infoInt : (Try.prog.info? 3).map (fun i => (i.zero, i.size, i.bytes)) = some (some (.int .i64 0), 1, 8) := by kernel_rfl
theorem Try.infoInts : (Try.prog.info? 32).map (fun i => (i.zero, i.size, i.bytes)) = some (some (.slice none 0 0), 1, 24) := by kernel_rfl

/-- The cells of a row of which c are made. -/
def rowArr (Z : Nat → Int) (n c : Nat) : Array Value := ((List.range n).map fun j => if j < c then Value.int .i64 (Z j) else .int .i64 0).toArray
theorem rowArr_get {Z : Nat → Int} {n c j : Nat} (h : j < n) : (rowArr Z n c)[j]? = some (if j < c then Value.int .i64 (Z j) else .int .i64 0) := by
  simp [rowArr, h]
theorem rowArr_set {Z : Nat → Int} {n c : Nat} : (rowArr Z n c).setIfInBounds c (.int .i64 (Z c)) = rowArr Z n (c + 1) := by
  apply Array.ext
  · simp [rowArr]
  · intro j h1 h2
    have hn : j < n := by simpa [rowArr] using h2
    by_cases e : c = j
    · subst e
      simp [rowArr]
    · rw [Array.getElem_setIfInBounds_ne (by simpa [rowArr] using hn) e]
      simp only [rowArr, List.getElem_toArray, List.getElem_map, List.getElem_range]
      by_cases h : j < c
      · rw [if_pos h, if_pos (by omega)]
      · rw [if_neg h, if_neg (by omega)]
theorem rowArr_zero (Z : Nat → Int) (n : Nat) : madeCells #[.int .i64 0] n = rowArr Z n 0 := by
  apply Array.ext'
  rw [toList_madeCells_one]
  simp [rowArr, List.map_const']

/-- The cells of a table of which i rows are made: they lie in the blocks behind it. -/
def outArr (b p n i : Nat) : Array Value := ((List.range n).map fun r => if r < i then Value.slice (some ⟨b + r, 0, none⟩) p p else .slice none 0 0).toArray
theorem outArr_get {b p n i r : Nat} (h : r < n) : (outArr b p n i)[r]? = some (if r < i then Value.slice (some ⟨b + r, 0, none⟩) p p else .slice none 0 0) := by
  simp [outArr, h]
theorem outArr_set {b p n i : Nat} : (outArr b p n i).setIfInBounds i (.slice (some ⟨b + i, 0, none⟩) p p) = outArr b p n (i + 1) := by
  apply Array.ext
  · simp [outArr]
  · intro j h1 h2
    have hn : j < n := by simpa [outArr] using h2
    by_cases e : i = j
    · subst e
      simp [outArr]
    · rw [Array.getElem_setIfInBounds_ne (by simpa [outArr] using hn) e]
      simp only [outArr, List.getElem_toArray, List.getElem_map, List.getElem_range]
      by_cases h : j < i
      · rw [if_pos h, if_pos (by omega)]
      · rw [if_neg h, if_neg (by omega)]
theorem outArr_zero (b p n : Nat) : madeCells #[.slice none 0 0] n = outArr b p n 0 := by
  apply Array.ext'
  rw [toList_madeCells_one]
  simp [outArr, List.map_const']

theorem Blk.other {W : World} {B C : Nat} {vs : Array Value} {t : TypeId} (h : Blk W B vs t) (hne : B ≠ C) (i : Nat) (v : Value) : Blk (W.setCell ⟨C, i, none⟩ v) B vs t := by
  unfold Blk
  rw [show (W.setCell ⟨C, i, none⟩ v).heap[B]? = (W.heap.modify C _)[B]? from rfl, Array.getElem?_modify, if_neg (Ne.symm hne)]
  exact h
theorem Blk.drewN {W : World} {B : Nat} {vs : Array Value} {t : TypeId} (h : Blk W B vs t) (n : Nat) : Blk (W.drewN n) B vs t := h

/-- i rows are made. -/
structure TabI (w : World) (n p : Nat) (Z : Nat → Nat → Int) (i : Nat) (W : World) : Prop where
  size : W.heap.size = w.heap.size + 1 + i
  below : Below w.heap.size w W
  out : Blk W w.heap.size (outArr (w.heap.size + 1) p n i) 32
  rows : ∀ r, r < i → Blk W (w.heap.size + 1 + r) (rowArr (Z r) p p) 3
/-- i rows are made, and c numbers of the next. -/
structure TabJ (w : World) (n p : Nat) (Z : Nat → Nat → Int) (i c : Nat) (W : World) : Prop where
  size : W.heap.size = w.heap.size + 1 + i + 1
  below : Below w.heap.size w W
  out : Blk W w.heap.size (outArr (w.heap.size + 1) p n (i + 1)) 32
  rows : ∀ r, r < i → Blk W (w.heap.size + 1 + r) (rowArr (Z r) p p) 3
  cur : Blk W (w.heap.size + 1 + i) (rowArr (Z i) p c) 3

theorem TabI.start (w : World) (n p : Nat) (Z : Nat → Nat → Int) : TabI w n p Z 0 (w.alloc (.cells (madeCells #[.slice none 0 0] n) 32)) where
  size := by simp
  below := (Below.refl _ _).alloc (Nat.le_refl _) _
  out := by rw [outArr_zero (w.heap.size + 1) p n]; exact Blk.new w _ _
  rows := fun r hr => absurd hr (Nat.not_lt_zero _)

theorem TabI.row {w : World} {n p : Nat} {Z : Nat → Nat → Int} {i : Nat} {W : World} (h : TabI w n p Z i W) :
    TabJ w n p Z i 0 ((W.alloc (.cells (madeCells #[.int .i64 0] p) 3)).setCell ⟨w.heap.size, i, none⟩ (.slice (some ⟨w.heap.size + 1 + i, 0, none⟩) p p)) where
  size := by simp [h.size]
  below := (h.below.alloc (by simp [h.size]; omega) _).setCell (p := ⟨w.heap.size, i, none⟩) (Nat.le_refl _) _
  out := by have := (h.out.alloc (.cells (madeCells #[.int .i64 0] p) 3)).set i (.slice (some ⟨w.heap.size + 1 + i, 0, none⟩) p p); rw [outArr_set] at this; exact this
  rows := fun r hr => ((h.rows r hr).alloc _).other (by omega) _ _
  cur := by rw [rowArr_zero (Z i) p]; exact (Blk.new' (by simp [h.size])).other (by omega) _ _

theorem TabJ.put {w : World} {n p : Nat} {Z : Nat → Nat → Int} {i c : Nat} {W : World} (h : TabJ w n p Z i c W) (q : Nat) :
    TabJ w n p Z i (c + 1) ((W.drewN q).setCell ⟨w.heap.size + 1 + i, c, none⟩ (.int .i64 (Z i c))) where
  size := by simpa using h.size
  below := (below_drewN h.below q).setCell (p := ⟨w.heap.size + 1 + i, c, none⟩) (by show w.heap.size ≤ w.heap.size + 1 + i; omega) _
  out := (h.out.drewN q).other (by omega) _ _
  rows := fun r hr => ((h.rows r hr).drewN q).other (by omega) _ _
  cur := by have := (h.cur.drewN q).set c (.int .i64 (Z i c)); rw [rowArr_set] at this; exact this

theorem TabJ.done {w : World} {n p : Nat} {Z : Nat → Nat → Int} {i : Nat} {W : World} (h : TabJ w n p Z i p W) : TabI w n p Z (i + 1) W where
  size := by rw [h.size]; omega
  below := h.below
  out := h.out
  rows := fun r hr => by
    by_cases e : r = i
    · subst e; exact h.cur
    · exact h.rows r (by omega)

/-- The table as it lies. -/
def madeMat (b n p : Nat) (Z : Nat → Nat → Int) : Mat where
  ga := some ⟨b, 0, none⟩
  gb := b
  go := 0
  cap := n
  A := fun r => some ⟨b + 1 + r, 0, none⟩
  C := fun _ => p
  RB := fun r => b + 1 + r
  RO := fun _ => 0
  t := ⟨n, fun _ => p, Z⟩

theorem TabI.mat {w : World} {n p : Nat} {Z : Nat → Nat → Int} {W : World} (h : TabI w n p Z n W) (hn : n ≤ 24) (hp : p ≤ 24) : (madeMat w.heap.size n p Z).In W.heap.size W where
  ga := fun _ => rfl
  gb := fun _ => by show w.heap.size < _; rw [h.size]; omega
  row := fun r hr => by
    have hr' : r < n := hr
    show W.cell? ⟨w.heap.size, 0 + r, none⟩ = _
    rw [h.out.cell (0 + r), Nat.zero_add, outArr_get hr', if_pos hr']
    rfl
  addr := fun r hr _ => ⟨rfl, by show w.heap.size + 1 + r < _; have hr' : r < n := hr; rw [h.size]; omega⟩
  cell := fun r hr c hc => by
    have hc' : c < p := hc
    show W.cell? ⟨w.heap.size + 1 + r, 0 + c, none⟩ = _
    rw [(h.rows r hr).cell (0 + c), Nat.zero_add, rowArr_get hc', if_pos hc']
    rfl
  len := by show n ≤ maxLen; unfold maxLen; omega
  lens := fun _ _ => by show p ≤ maxLen; unfold maxLen; omega

set_option maxHeartbeats 4000000 in
theorem table_any (fid : Nat) (cap : Array Value) (n p : Nat) (Z : Nat → Nat → Int) (w : World) (hn : n ≤ 24) (hp : p ≤ 24)
    (hcf : ∀ (args : Array Value) (W : World), (callFunc fid args).run Try.prog W = .ok (.enter fid args) W)
    (hat : ∀ (i k : Nat) (W : World), i < n → k < p → Below w.heap.size w W → Calls Try.prog fid (#[.int .i64 i, .int .i64 k] ++ cap) W fun e w' => e = .returned (.int .i64 (Z i k)) ∧ ∃ m, w' = W.drewN m) :
    Calls Try.prog 131 #[.int .i64 n, .int .i64 p, .func (.func fid) #[] cap] w fun e w' => e = .returned (.slice (some ⟨w.heap.size, 0, none⟩) n n) ∧ TabI w n p Z n w' := by
  obtain ⟨i1, hi1, hy0, hy1, hy2⟩ := info_parts Try.infoInt
  obtain ⟨i2, hi2, hx0, hx1, hx2⟩ := info_parts Try.infoInts
  have hmkA : ∀ u : World, (Instr.makeSlice 22 (.int .i64 (n : Int)) (.int .i64 (n : Int))).run Try.prog u = .ok (.slice (some ⟨u.heap.size, 0, none⟩) n n) (u.alloc (.cells (madeCells #[.slice none 0 0] n) 32)) := fun u => by
    have h := run_make (P := Try.prog) u 22 32 i2 (.slice none 0 0) Try.underlying22 hi2 hx0 .i64 .i64 (n : Int) (n : Int) (by omega) (Int.le_refl _) (by rw [hx2]; omega) (by omega)
    simpa [hx1, Value.cells] using h
  have hmkB : ∀ u : World, (Instr.makeSlice 32 (.int .i64 (p : Int)) (.int .i64 (p : Int))).run Try.prog u = .ok (.slice (some ⟨u.heap.size, 0, none⟩) p p) (u.alloc (.cells (madeCells #[.int .i64 0] p) 3)) := fun u => by
    have h := run_make (P := Try.prog) u 32 3 i1 (.int .i64 0) Try.underlying32 hi1 hy0 .i64 .i64 (p : Int) (p : Int) (by omega) (Int.le_refl _) (by rw [hy2]; omega) (by omega)
    simpa [hy1, Value.cells] using h
  have HA := hide hat
  clear hat
  go_enter Try.func131, Try.ntmps131
  go_wp2
  go_loopw [14] (fun i wr => ∃ k : Nat, k ≤ n ∧ i = .int .i64 k ∧ Hid (TabI w n p Z k wr)) (fun i _ => n - (intOf i).toNat)
  case atStart => exact ⟨0, Nat.zero_le _, rfl, hide (TabI.start w n p Z)⟩
  case round =>
    obtain ⟨i, hi, rfl, HT⟩ := hrel
    have hsz := HT.out.size
    by_cases hlt : i < n
    · have o0 := HT.out.out.cell i
      rw [outArr_get hlt, if_neg (Nat.lt_irrefl _)] at o0
      have o0' : ∀ o, (wr.alloc o).cell? ⟨w.heap.size, i, none⟩ = some (.slice none 0 0) := fun o => by
        have := (HT.out.out.alloc o).cell i
        rw [outArr_get hlt, if_neg (Nat.lt_irrefl _)] at this
        exact this
      have of : ∀ o, (wr.alloc o).frozen? ⟨w.heap.size, i, none⟩ = false := fun o => (HT.out.out.alloc o).frozen i
      have hii : (i : Int) < (n : Int) := by omega
      have hm0 := HT.out.row.out.cell i
      rw [outArr_get hlt, if_pos (by omega)] at hm0
      go_wp2_with fail
      have HR := hide HT.out.row
      clear o0 o0' of hm0
      go_loopw [27] (fun k wx => ∃ c : Nat, c ≤ p ∧ k = .int .i64 c ∧ Hid (TabJ w n p Z i c wx)) (fun k _ => p - (intOf k).toNat)
      case atStart => exact ⟨0, Nat.zero_le _, rfl, HR⟩
      case round =>
        obtain ⟨c, hc, rfl, HJ⟩ := hrel
        by_cases hcl : c < p
        · have o1 := HJ.out.out.cell i
          rw [outArr_get hlt, if_pos (by omega)] at o1
          have r1 := HJ.out.cur.cell c
          rw [rowArr_get hcl, if_neg (Nat.lt_irrefl _)] at r1
          have rf := HJ.out.cur.frozen c
          have hci : (c : Int) < (p : Int) := by omega
          have HC := hide (fun q => HA.out i c (wr.drewN q) hlt hcl (below_drewN HJ.out.below q))
          have HK := hide (fun q => by have := (HJ.out.put q).out.cell i; rw [outArr_get hlt, if_pos (by omega)] at this; exact this : ∀ q, ((wr.drewN q).setCell ⟨w.heap.size + 1 + i, c, none⟩ (.int .i64 (Z i c))).cell? ⟨w.heap.size, i, none⟩ = some (.slice (some ⟨w.heap.size + 1 + i, 0, none⟩) p p))
          go_wp2_with fail
          go_region_held3 (fun w' => w'.cell? ⟨w.heap.size, i, none⟩ = some (.slice (some ⟨w.heap.size + 1 + i, 0, none⟩) p p)) (first | go_keep | exact HK.out _)
            (first
              | (refine (HC.out 1).mono ?_; rintro e w' ⟨rfl, m, rfl⟩))
          have HP := hide (HJ.out.put (1 + m))
          go_wp2
          go_roundw
          case rel => exact ⟨c + 1, by omega, by go_num, HP⟩
          case measure => simp [intOf]; omega
        · have hcp : c = p := by omega
          subst hcp
          have HD := hide HJ.out.done
          go_wp2
          go_roundw
          case rel =>
            first
            | exact ⟨i + 1, by omega, by go_num, HD⟩
            | ((repeat apply Exists.intro); exact ⟨⟨i + 1, by omega, by go_num, HD⟩, rfl⟩)
          case measure => simp [intOf]; omega
    · have hin : i = n := by omega
      subst hin
      go_wp2
      go_ret
      exact ⟨rfl, HT.out⟩
end Go.Proofs.Ytjhkadffaephmaa
