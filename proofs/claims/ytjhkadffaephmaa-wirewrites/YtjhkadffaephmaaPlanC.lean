/-
  plan.measure: its parts, by what a plan is.
-/
import Derived.Test.YtjhkadffaephmaaPlanB
namespace Go.Proofs.Ytjhkadffaephmaa
open Go.RowKit

/-- The first of n numbers that is not 0. -/
def firstErr (f : Nat → Int) : Nat → Int
  | 0 => 0
  | n + 1 => if firstErr f n = 0 then f n else firstErr f n
theorem firstErr_zero {f : Nat → Int} {n : Nat} : firstErr f n = 0 ↔ ∀ i, i < n → f i = 0 := by
  induction n with
  | zero => simp [firstErr]
  | succ n ih =>
    simp only [firstErr]
    by_cases h : firstErr f n = 0
    · rw [if_pos h]
      constructor
      · intro h0 i hi
        by_cases e : i = n
        · subst e; exact h0
        · exact ih.1 h i (by omega)
      · intro h0; exact h0 n (by omega)
    · rw [if_neg h]
      constructor
      · intro h0; exact absurd h0 h
      · intro h0; exact absurd (ih.2 (fun i hi => h0 i (by omega))) h
theorem firstErr_at {f : Nat → Int} {n k : Nat} (hk : k < n) (h0 : ∀ i, i < k → f i = 0) (h : f k ≠ 0) : firstErr f n = f k := by
  induction n with
  | zero => omega
  | succ n ih =>
    simp only [firstErr]
    by_cases e : k = n
    · subst e; rw [if_pos (firstErr_zero.2 h0)]
    · rw [ih (by omega), if_neg h]

/-- How many routes the algebra of a plan has, and how many edges. -/
def PlanM.size : PlanM → Nat
  | .node none _ => 0
  | .node (some h) sub => if h.kind = 3 then ((sub rfl 0).size - 1) * ((sub rfl 1).size - 1) + 1 else if h.kind = 4 then (sub rfl 0).size else h.n.toNat + 2
def PlanM.edges : PlanM → Nat
  | .node none _ => 0
  | .node (some h) sub => if h.kind = 3 then (sub rfl 0).edges else if h.kind = 4 then (sub rfl 0).edges else h.en

/-- What is wrong with a plan whose parts are right: s, g: how many routes and edges they have. -/
def numErr (h : PHead) : Int := if h.pn ≠ 0 then 1 else if h.n < 1 ∨ 22 < h.n ∨ within h.ev h.en 1 h.n = false then 3 else 0
def pairErr (h : PHead) (s g : Nat → Nat) : Int :=
  if h.pn ≠ 2 then 1 else if h.n ≠ 0 then 3 else if h.en ≠ 0 then 1 else if g 0 ≠ g 1 then 4 else if 24 < (s 0 - 1) * (s 1 - 1) + 1 then 2 else 0
def filtErr (h : PHead) (s g : Nat → Nat) : Int :=
  if h.pn ≠ 1 then 1 else if h.n ≠ 0 then 3 else if h.en ≠ g 0 then 4 else if within h.ev h.en 0 (2 ^ s 0 - 1) = false then 3 else 0
def headErr (h : PHead) (s g : Nat → Nat) : Int :=
  if h.kind = 1 ∨ h.kind = 2 then numErr h else if h.kind = 3 then pairErr h s g else if h.kind = 4 then filtErr h s g else 7

def PlanM.err : PlanM → Int
  | .node none _ => 1
  | .node (some h) sub => if firstErr (fun i => (sub rfl i).err) h.pn = 0 then headErr h (fun i => (sub rfl i).size) (fun i => (sub rfl i).edges) else firstErr (fun i => (sub rfl i).err) h.pn

theorem err_mk (h : PHead) (sub : Nat → PlanM) : (PlanM.mk h sub).err = if firstErr (fun i => (sub i).err) h.pn = 0 then headErr h (fun i => (sub i).size) (fun i => (sub i).edges) else firstErr (fun i => (sub i).err) h.pn := rfl

/-- What a right plan's size is. -/
theorem size_range {p : PlanM} (h : p.err = 0) : 3 ≤ p.size ∧ p.size ≤ 24 := by
  induction p using PlanM.ind with
  | no => cases h
  | mk h0 sub ih =>
    rw [err_mk] at h
    by_cases hf : firstErr (fun i => (sub i).err) h0.pn = 0
    · rw [if_pos hf] at h
      have hs := firstErr_zero.1 hf
      unfold headErr at h
      simp only [PlanM.size]
      by_cases h12 : h0.kind = 1 ∨ h0.kind = 2
      · rw [if_pos h12] at h
        rw [if_neg (by omega), if_neg (by omega)]
        unfold numErr at h
        split at h
        · cases h
        · split at h
          · cases h
          · rename_i hx
            have : ¬ h0.n < 1 := fun hh => hx (Or.inl hh)
            have : ¬ 22 < h0.n := fun hh => hx (Or.inr (Or.inl hh))
            omega
      · rw [if_neg h12] at h
        by_cases h3 : h0.kind = 3
        · rw [if_pos h3] at h ⊢
          unfold pairErr at h
          split at h
          · cases h
          · rename_i hpn
            have e0 := ih 0 (hs 0 (by omega))
            have e1 := ih 1 (hs 1 (by omega))
            (repeat' split at h) <;> try (cases h)
            rename_i hsz
            simp only at hsz
            have : 2 * 2 ≤ ((sub 0).size - 1) * ((sub 1).size - 1) := Nat.mul_le_mul (by omega) (by omega)
            omega
        · rw [if_neg h3] at h ⊢
          by_cases h4 : h0.kind = 4
          · rw [if_pos h4] at h ⊢
            unfold filtErr at h
            split at h
            · cases h
            · exact ih 0 (hs 0 (by omega))
          · rw [if_neg h4] at h
            cases h
    · rw [if_neg hf] at h
      exact absurd h hf

/-- A list of shapes in memory. -/
structure Shapes (ga : Option Addr) (n gb : Nat) (s g : Nat → Nat) (w : World) : Prop where
  addr : 0 < n → ga = some ⟨gb, 0, none⟩
  lt : 0 < n → gb < w.heap.size
  c0 : ∀ i, i < n → w.cell? ⟨gb, i * 2, none⟩ = some (.int .i64 (s i))
  c1 : ∀ i, i < n → w.cell? ⟨gb, i * 2 + 1, none⟩ = some (.int .i64 (g i))

theorem Shapes.below {ga : Option Addr} {n gb : Nat} {s g : Nat → Nat} {w w' : World} (h : Shapes ga n gb s g w) (hb : Below w.heap.size w w') : Shapes ga n gb s g w' where
  addr := h.addr
  lt := fun h0 => Nat.lt_of_lt_of_le (h.lt h0) hb.size
  c0 := fun i hi => (hb.cell (p := ⟨gb, i * 2, none⟩) (h.lt (by omega))).trans (h.c0 i hi)
  c1 := fun i hi => (hb.cell (p := ⟨gb, i * 2 + 1, none⟩) (h.lt (by omega))).trans (h.c1 i hi)

/-- What a call of the measuring kind returns: a shape, and what is wrong. -/
def Measured (x : Int) (S G : Nat) (e : Ending) : Prop :=
  ∃ s g : Nat, e = .returned (.tuple #[.agg #[.int .i64 s, .int .i64 g], .int .i64 x]) ∧ (x = 0 → s = S ∧ g = G)

theorem measured_err {x : Int} {S G : Nat} (h : x ≠ 0) : Measured x S G (.returned (.tuple #[.agg #[.int .i64 0, .int .i64 0], .int .i64 x])) := ⟨0, 0, rfl, fun e => absurd e h⟩

set_option maxHeartbeats 2000000 in
theorem measureNumbers_any (h : PHead) (w : World) (hh : h.In w.heap.size w) :
    Calls Try.prog 110 #[h.val] w fun e w' => Measured (numErr h) (h.n.toNat + 2) h.en e ∧ Below w.heap.size w w' := by
  have hel := hh.elen
  unfold maxLen at hel
  have hb0 : Below w.heap.size w ((w.alloc (.cells h.cells 42)).alloc (.cells #[.int .i64 0, .int .i64 0] 103)) := ((Below.refl _ w).alloc (Nat.le_refl _) _).alloc (by simp) _
  have HA := hide (allWithin_any h 1 h.n _ _ (hh.below hb0 (Nat.le_refl _)))
  have hb1 : ∀ u v : Value, Below w.heap.size w ((w.alloc (.cells h.cells 42)).alloc (.cells #[u, v] 103)) := fun u v => ((Below.refl _ w).alloc (Nat.le_refl _) _).alloc (by simp) _
  simp only [PHead.val, PHead.cells] at *
  by_cases hpn : h.pn = 0
  · have hpi : ((h.pn : Int) != 0) = false := by simp [hpn]
    by_cases h1 : h.n < 1
    · have e : numErr h = 3 := by unfold numErr; rw [if_neg (by omega), if_pos (Or.inl h1)]
      rw [e]
      clear hpn
      go_enter Try.func110, Try.ntmps110
      go_wp2
      refine bodyPost_ret (v := .tuple #[.agg #[.int .i64 0, .int .i64 0], .int .i64 3]) (by simp [results, Try.results110, go_sem]) rfl ⟨measured_err (by decide), hb1 _ _⟩
    · by_cases h2 : 22 < h.n
      · have e : numErr h = 3 := by unfold numErr; rw [if_neg (by omega), if_pos (Or.inr (Or.inl h2))]
        rw [e]
        clear hpn
        go_enter Try.func110, Try.ntmps110
        go_wp2
        refine bodyPost_ret (v := .tuple #[.agg #[.int .i64 0, .int .i64 0], .int .i64 3]) (by simp [results, Try.results110, go_sem]) rfl ⟨measured_err (by decide), hb1 _ _⟩
      · cases hw : within h.ev h.en 1 h.n with
        | false =>
          have e : numErr h = 3 := by unfold numErr; rw [if_neg (by omega), if_pos (Or.inr (Or.inr hw))]
          rw [e]
          rw [hw] at HA
          clear hpn hw
          go_enter Try.func110, Try.ntmps110
          go_wp2_with (go_at_call 138; refine HA.out.mono ?_; rintro e w' ⟨rfl, rfl⟩)
          refine bodyPost_ret (v := .tuple #[.agg #[.int .i64 0, .int .i64 0], .int .i64 3]) (by simp [results, Try.results110, go_sem]) rfl ⟨measured_err (by decide), hb1 _ _⟩
        | true =>
          have e : numErr h = 0 := by unfold numErr; rw [if_neg (by omega), if_neg (by rw [hw]; simp; omega)]
          rw [e]
          rw [hw] at HA
          have hn2 : ((h.n.toNat + 2 : Nat) : Int) = h.n + 2 := by omega
          have Hn2 := hide hn2
          clear hpn hw hn2
          go_enter Try.func110, Try.ntmps110
          go_wp2_with (go_at_call 138; refine HA.out.mono ?_; rintro e w' ⟨rfl, rfl⟩)
          refine bodyPost_ret (v := .tuple #[.agg #[.int .i64 (h.n + 2), .int .i64 h.en], .int .i64 0]) (by simp [results, Try.results110, go_sem]) rfl ⟨⟨h.n.toNat + 2, h.en, by rw [Hn2.out], fun _ => ⟨rfl, rfl⟩⟩, hb1 _ _⟩
  · have hpi : ((h.pn : Int) != 0) = true := by simp [hpn]
    have e : numErr h = 1 := by unfold numErr; rw [if_pos hpn]
    rw [e]
    clear hpn
    go_enter Try.func110, Try.ntmps110
    go_wp2
    refine bodyPost_ret (v := .tuple #[.agg #[.int .i64 0, .int .i64 0], .int .i64 1]) (by simp [results, Try.results110, go_sem]) rfl ⟨measured_err (by decide), hb1 _ _⟩

end Go.Proofs.Ytjhkadffaephmaa
