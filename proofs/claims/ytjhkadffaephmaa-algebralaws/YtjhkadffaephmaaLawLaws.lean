/-
  signpostlaw.AlgebraLaws: the walk.
-/
import Derived.Test.YtjhkadffaephmaaLawTrue
import Derived.Test.YtjhkadffaephmaaRefBroken
import Derived.Test.YtjhkadffaephmaaDraw
import Derived.Test.YtjhkadffaephmaaRefCheckW
import Derived.Test.YtjhkadffaephmaaRefFirst
namespace Go.Proofs.Ytjhkadffaephmaa
set_option maxRecDepth 100000
open Go.RowKit

set_option maxHeartbeats 400000 in
theorem refAll_any (w : World) :
    Calls Try.prog 20 #[] w fun e w' => e = .returned (.slice (some ⟨w.heap.size, 0, none⟩) 7 7) ∧ w' = w.alloc (.cells #[.int .i64 1, .int .i64 2, .int .i64 3, .int .i64 4, .int .i64 5, .int .i64 6, .int .i64 7] 3) := by
  go_enter Try.func20, Try.ntmps20
  go_wp2
  go_ret
  exact ⟨rfl, rfl⟩

theorem in7 : ∀ i, (hi : i < [(1 : Int), 2, 3, 4, 5, 6, 7].length) → (#[.int .i64 1, .int .i64 2, .int .i64 3, .int .i64 4, .int .i64 5, .int .i64 6, .int .i64 7] : Array Value)[i]? = some (.int .i64 [(1 : Int), 2, 3, 4, 5, 6, 7][i]) := fun i hi => by
  match i, hi with
  | 0, _ => rfl
  | 1, _ => rfl
  | 2, _ => rfl
  | 3, _ => rfl
  | 4, _ => rfl
  | 5, _ => rfl
  | 6, _ => rfl
theorem in8 : ∀ i, (hi : i < [(8 : Int)].length) → (#[.int .i64 8] : Array Value)[i]? = some (.int .i64 [(8 : Int)][i]) := fun i hi => by
  match i, hi with
  | 0, _ => rfl
theorem in9 : ∀ i, (hi : i < [(9 : Int)].length) → (#[.int .i64 9] : Array Value)[i]? = some (.int .i64 [(9 : Int)][i]) := fun i hi => by
  match i, hi with
  | 0, _ => rfl

/-- What holds of the world all through the region of the three calls. -/
structure LawG (n : Nat) (W5 : World) (p : Nat) (cs : Array Value) (W : World) : Prop where
  below : Below n W5 W
  box : Blk W p cs 24
  x : ∃ u0 u1 u2 u3 u4, Blk W n #[u0, u1, u2, u3, u4] 26
  y : ∃ u0 u1 u2 u3 u4, Blk W (n + 1) #[u0, u1, u2, u3, u4] 26
  z : ∃ u0 u1 u2 u3 u4, Blk W (n + 1 + 1) #[u0, u1, u2, u3, u4] 26

/-- What each operation of it leaves. -/
def LawE (n : Nat) (f1 f2 f3 : Brk) (cs : Array Value) (i : Nat) (v : Value) (W : World) : Prop :=
  match i with
  | 0 => v = .agg cs
  | 1 => ∃ bl, v = .slice (some ⟨bl, 0, none⟩) 7 7 ∧ n + 3 ≤ bl ∧ Blk W bl #[.int .i64 1, .int .i64 2, .int .i64 3, .int .i64 4, .int .i64 5, .int .i64 6, .int .i64 7] 3
  | 2 => v = .agg f1.cells
  | 3 => v = .agg cs
  | 4 => ∃ bl, v = .slice (some ⟨bl, 0, none⟩) 1 1 ∧ n + 3 ≤ bl ∧ Blk W bl #[.int .i64 8] 3
  | 5 => v = .agg f2.cells
  | 6 => v = .agg cs
  | 7 => ∃ bl, v = .slice (some ⟨bl, 0, none⟩) 1 1 ∧ n + 3 ≤ bl ∧ Blk W bl #[.int .i64 9] 3
  | 8 => v = .agg f3.cells
  | 9 => Blk W n f1.cells 26
  | 10 => Blk W (n + 1) f2.cells 26
  | 11 => Blk W (n + 1 + 1) f3.cells 26
  | _ => True

theorem LawG.keep {n p : Nat} {W5 W W' : World} {cs : Array Value} (h : LawG n W5 p cs W) (hb : Below W.heap.size W W') : LawG n W5 p cs W' where
  below := h.below.trans (hb.mono (by obtain ⟨_, _, _, _, _, hx⟩ := h.x; have := hx.lt; omega))
  box := h.box.below hb h.box.lt
  x := by obtain ⟨u0, u1, u2, u3, u4, hx⟩ := h.x; exact ⟨u0, u1, u2, u3, u4, hx.below hb hx.lt⟩
  y := by obtain ⟨u0, u1, u2, u3, u4, hx⟩ := h.y; exact ⟨u0, u1, u2, u3, u4, hx.below hb hx.lt⟩
  z := by obtain ⟨u0, u1, u2, u3, u4, hx⟩ := h.z; exact ⟨u0, u1, u2, u3, u4, hx.below hb hx.lt⟩

theorem LawE.keep {n : Nat} {f1 f2 f3 : Brk} {cs : Array Value} {W W' : World} (hb : Below W.heap.size W W') : ∀ (j : Nat) (u : Value), LawE n f1 f2 f3 cs j u W → LawE n f1 f2 f3 cs j u W' := by
  intro j u h
  match j, h with
  | 0, h => exact (show u = .agg cs from h)
  | 1, ⟨bl, h1, h2, h3⟩ => exact ⟨bl, h1, h2, h3.below hb h3.lt⟩
  | 2, h => exact (show u = .agg f1.cells from h)
  | 3, h => exact (show u = .agg cs from h)
  | 4, ⟨bl, h1, h2, h3⟩ => exact ⟨bl, h1, h2, h3.below hb h3.lt⟩
  | 5, h => exact (show u = .agg f2.cells from h)
  | 6, h => exact (show u = .agg cs from h)
  | 7, ⟨bl, h1, h2, h3⟩ => exact ⟨bl, h1, h2, h3.below hb h3.lt⟩
  | 8, h => exact (show u = .agg f3.cells from h)
  | 9, h => exact Blk.below h hb (Blk.lt h)
  | 10, h => exact Blk.below h hb (Blk.lt h)
  | 11, h => exact Blk.below h hb (Blk.lt h)
  | _ + 12, _ => exact trivial

theorem LawE.alloc (n : Nat) (f1 f2 f3 : Brk) (cs : Array Value) (W : World) (o : Obj) : ∀ (j : Nat) (u : Value), LawE n f1 f2 f3 cs j u W → LawE n f1 f2 f3 cs j u (W.alloc o) :=
  LawE.keep ((Below.refl _ _).alloc (Nat.le_refl _) _)

theorem blk_far {W : World} {B C : Nat} {vs : Array Value} {t : TypeId} (h : Blk W B vs t) (hne : B ≠ C) (v0 v1 v2 v3 v4 : Value) : Blk (set5 W C v0 v1 v2 v3 v4) B vs t := by
  have e : ∀ (X : World) (k : Nat) (v : Value), (X.setCell ⟨C, k, none⟩ v).heap[B]? = X.heap[B]? := fun X k v => by
    show (X.heap.modify C _)[B]? = _
    rw [Array.getElem?_modify, if_neg (Ne.symm hne)]
  unfold Blk set5
  rw [e, e, e, e, e]
  exact h

theorem LawG.set {n p C : Nat} {W5 W : World} {cs : Array Value} (h : LawG n W5 p cs W) (hp : p < n) (hC : C = n ∨ C = n + 1 ∨ C = n + 1 + 1) (v0 v1 v2 v3 v4 : Value) : LawG n W5 p cs (set5 W C v0 v1 v2 v3 v4) where
  below := below5 h.below (by omega) _ _ _ _ _
  box := blk_far h.box (by omega) _ _ _ _ _
  x := by
    obtain ⟨u0, u1, u2, u3, u4, hx⟩ := h.x
    by_cases hc : C = n
    · subst hc; exact ⟨_, _, _, _, _, hx.set5 _ _ _ _ _⟩
    · exact ⟨_, _, _, _, _, blk_far hx (Ne.symm hc) _ _ _ _ _⟩
  y := by
    obtain ⟨u0, u1, u2, u3, u4, hx⟩ := h.y
    by_cases hc : C = n + 1
    · subst hc; exact ⟨_, _, _, _, _, hx.set5 _ _ _ _ _⟩
    · exact ⟨_, _, _, _, _, blk_far hx (Ne.symm hc) _ _ _ _ _⟩
  z := by
    obtain ⟨u0, u1, u2, u3, u4, hx⟩ := h.z
    by_cases hc : C = n + 1 + 1
    · subst hc; exact ⟨_, _, _, _, _, hx.set5 _ _ _ _ _⟩
    · exact ⟨_, _, _, _, _, blk_far hx (Ne.symm hc) _ _ _ _ _⟩

theorem LawE.set {n C k : Nat} {f1 f2 f3 : Brk} {cs : Array Value} {W : World} (hC : (C = n ∧ k = 9) ∨ (C = n + 1 ∧ k = 10) ∨ (C = n + 1 + 1 ∧ k = 11)) (v0 v1 v2 v3 v4 : Value) : ∀ (j : Nat) (u : Value), j ≠ k → LawE n f1 f2 f3 cs j u W → LawE n f1 f2 f3 cs j u (set5 W C v0 v1 v2 v3 v4) := by
  intro j u hj h
  match j, h with
  | 0, h => exact (show u = .agg cs from h)
  | 1, ⟨bl, h1, h2, h3⟩ => exact ⟨bl, h1, h2, blk_far h3 (by omega) _ _ _ _ _⟩
  | 2, h => exact (show u = .agg f1.cells from h)
  | 3, h => exact (show u = .agg cs from h)
  | 4, ⟨bl, h1, h2, h3⟩ => exact ⟨bl, h1, h2, blk_far h3 (by omega) _ _ _ _ _⟩
  | 5, h => exact (show u = .agg f2.cells from h)
  | 6, h => exact (show u = .agg cs from h)
  | 7, ⟨bl, h1, h2, h3⟩ => exact ⟨bl, h1, h2, blk_far h3 (by omega) _ _ _ _ _⟩
  | 8, h => exact (show u = .agg f3.cells from h)
  | 9, h => exact (show Blk _ n f1.cells 26 from blk_far (show Blk W n f1.cells 26 from h) (by omega) _ _ _ _ _)
  | 10, h => exact (show Blk _ (n + 1) f2.cells 26 from blk_far (show Blk W (n + 1) f2.cells 26 from h) (by omega) _ _ _ _ _)
  | 11, h => exact (show Blk _ (n + 1 + 1) f3.cells 26 from blk_far (show Blk W (n + 1 + 1) f3.cells 26 from h) (by omega) _ _ _ _ _)
  | _ + 12, _ => exact trivial

set_option maxRecDepth 100000 in
set_option maxHeartbeats 3000000 in
theorem lawLaws_any (a : AlgM) (w : World) (h : a.In w.heap.size w) :
    Calls Try.prog 3 #[a.val] w fun e w' => e = .returned (.bool true) ∧ Below w.heap.size w w' := by
  have bA := Blk.new w #[.int .i64 a.size, a.B.val, a.E.val] 24
  have hB0 : Below w.heap.size w (w.alloc (.cells #[.int .i64 a.size, a.B.val, a.E.val] 24)) := (Below.refl _ _).alloc (Nat.le_refl _) _
  have HL := hide (fun W (hI : a.In W.heap.size W) => laws_any a W hI)
  have HS := hide (fun W (hI : a.In W.heap.size W) => strict_any a W hI)
  have HD := hide (fun W (hI : a.In W.heap.size W) => distributive_any a W hI)
  have HC := hide (fun W (hI : a.In W.heap.size W) => refCheck_any a W hI)
  have HK := hide (fun W (hI : a.In W.heap.size W) => check_any a W.heap.size W hI (Nat.le_refl _))
  have H0 := hide (fun (hc : a.alg.check ≠ 0) => show a.alg.tell [1, 2, 3, 4, 5, 6, 7] = Brk.none ∧ a.alg.tell [8] = Brk.none ∧ a.alg.tell [9] = Brk.none by simp [Alg.tell, hc])
  have H1 := hide (fun (hc : a.alg.check = 0) => show a.alg.firstOf [1, 2, 3, 4, 5, 6, 7] = a.alg.tell [1, 2, 3, 4, 5, 6, 7] ∧ a.alg.firstOf [8] = a.alg.tell [8] ∧ a.alg.firstOf [9] = a.alg.tell [9] by simp [Alg.tell, hc])
  have HG := hide (fun (hc : a.alg.check = 0) => Alg.good_of_check hc)
  generalize a.alg.check = ck at *
  generalize a.alg.tell [1, 2, 3, 4, 5, 6, 7] = f1 at *
  generalize a.alg.tell [8] = f2 at *
  generalize a.alg.tell [9] = f3 at *
  simp only [AlgM.val] at *
  go_enter Try.func3, Try.ntmps3
  go_wp2_with fail
  go_at_call 15
  refine (HL.out _ ((h.below hB0 (Nat.le_refl _)).mono hB0.size)).mono ?_
  rintro e w1 ⟨rfl, hb1⟩
  have bA1 := (bA.below hb1 bA.lt).alloc (.cells f1.cells 26)
  have b1 := Blk.new w1 f1.cells 26
  have hB1 := hB0.trans (hb1.mono hB0.size)
  have hB1 := hB1.alloc hB1.size (.cells f1.cells 26)
  clear hb1 bA hB0 HL
  simp only [Brk.val, Brk.cells] at *
  have x0 := bA1.cell 0
  have x1 := bA1.cell 1
  have x2 := bA1.cell 2
  simp at x0 x1 x2
  go_wp2_with fail
  go_at_call 16
  refine (HS.out _ ((h.below hB1 (Nat.le_refl _)).mono hB1.size)).mono ?_
  rintro e w2 ⟨rfl, hb2⟩
  have bA2 := (bA1.below hb2 bA1.lt).alloc (.cells f2.cells 26)
  have b12 := (b1.below hb2 b1.lt).alloc (.cells f2.cells 26)
  have b2 := Blk.new w2 f2.cells 26
  have hB2 := hB1.trans (hb2.mono hB1.size)
  have hB2 := hB2.alloc hB2.size (.cells f2.cells 26)
  clear hb2 bA1 b1 hB1 HS x0 x1 x2
  simp only [Brk.cells] at *
  have x0 := bA2.cell 0
  have x1 := bA2.cell 1
  have x2 := bA2.cell 2
  simp at x0 x1 x2
  go_wp2_with fail
  go_at_call 17
  refine (HD.out _ ((h.below hB2 (Nat.le_refl _)).mono hB2.size)).mono ?_
  rintro e w3 ⟨rfl, hb3⟩
  have bA3 := (bA2.below hb3 bA2.lt).alloc (.cells f3.cells 26)
  have b13 := (b12.below hb3 b12.lt).alloc (.cells f3.cells 26)
  have b23 := (b2.below hb3 b2.lt).alloc (.cells f3.cells 26)
  have b3 := Blk.new w3 f3.cells 26
  have hB3 := hB2.trans (hb3.mono hB2.size)
  have hB3 := hB3.alloc hB3.size (.cells f3.cells 26)
  clear hb3 bA2 b12 b2 hB2 HD x0 x1 x2
  simp only [Brk.cells] at *
  have x0 := bA3.cell 0
  have x1 := bA3.cell 1
  have x2 := bA3.cell 2
  simp at x0 x1 x2
  go_wp2_with fail
  go_at_call 18
  refine (HC.out _ ((h.below hB3 (Nat.le_refl _)).mono hB3.size)).mono ?_
  rintro e w4 ⟨rfl, hb4⟩
  have bA4 := bA3.below hb4 bA3.lt
  have b14 := b13.below hb4 b13.lt
  have b24 := b23.below hb4 b23.lt
  have b34 := b3.below hb4 b3.lt
  have hB4 := hB3.trans (hb4.mono hB3.size)
  have t1 : w1.heap.size < w4.heap.size := b14.lt
  have t2 : w2.heap.size < w4.heap.size := b24.lt
  have t3 : w3.heap.size < w4.heap.size := b34.lt
  have t0 : w.heap.size < w4.heap.size := bA4.lt
  clear hb4 bA3 b13 b23 b3 hB3 HC x0 x1 x2
  have hZ : Below w4.heap.size w4 (((w4.alloc (.cells #[.int .i64 0, .int .i64 0, .int .i64 0, .int .i64 0, .int .i64 0] 26)).alloc (.cells #[.int .i64 0, .int .i64 0, .int .i64 0, .int .i64 0, .int .i64 0] 26)).alloc (.cells #[.int .i64 0, .int .i64 0, .int .i64 0, .int .i64 0, .int .i64 0] 26)) :=
    (((Below.refl _ w4).alloc (Nat.le_refl _) _).alloc (by simp) _).alloc (by simp; omega) _
  have bX : Blk (((w4.alloc (.cells #[.int .i64 0, .int .i64 0, .int .i64 0, .int .i64 0, .int .i64 0] 26)).alloc (.cells #[.int .i64 0, .int .i64 0, .int .i64 0, .int .i64 0, .int .i64 0] 26)).alloc (.cells #[.int .i64 0, .int .i64 0, .int .i64 0, .int .i64 0, .int .i64 0] 26)) w4.heap.size #[.int .i64 0, .int .i64 0, .int .i64 0, .int .i64 0, .int .i64 0] 26 := ((Blk.new w4 _ _).alloc _).alloc _
  have bY : Blk (((w4.alloc (.cells #[.int .i64 0, .int .i64 0, .int .i64 0, .int .i64 0, .int .i64 0] 26)).alloc (.cells #[.int .i64 0, .int .i64 0, .int .i64 0, .int .i64 0, .int .i64 0] 26)).alloc (.cells #[.int .i64 0, .int .i64 0, .int .i64 0, .int .i64 0, .int .i64 0] 26)) (w4.heap.size + 1) #[.int .i64 0, .int .i64 0, .int .i64 0, .int .i64 0, .int .i64 0] 26 := Blk.alloc (Blk.new' (by simp)) _
  have bW : Blk (((w4.alloc (.cells #[.int .i64 0, .int .i64 0, .int .i64 0, .int .i64 0, .int .i64 0] 26)).alloc (.cells #[.int .i64 0, .int .i64 0, .int .i64 0, .int .i64 0, .int .i64 0] 26)).alloc (.cells #[.int .i64 0, .int .i64 0, .int .i64 0, .int .i64 0, .int .i64 0] 26)) (w4.heap.size + 1 + 1) #[.int .i64 0, .int .i64 0, .int .i64 0, .int .i64 0, .int .i64 0] 26 := Blk.new' (by simp)
  have bA5 := bA4.below hZ bA4.lt
  have b15 := b14.below hZ b14.lt
  have b25 := b24.below hZ b24.lt
  have b35 := b34.below hZ b34.lt
  have hB5 := hB4.trans (hZ.mono hB4.size)
  have hI5 := (h.below hB5 (Nat.le_refl _)).mono hB5.size
  go_upto_if 31 with fail
  generalize (((w4.alloc (.cells #[.int .i64 0, .int .i64 0, .int .i64 0, .int .i64 0, .int .i64 0] 26)).alloc (.cells #[.int .i64 0, .int .i64 0, .int .i64 0, .int .i64 0, .int .i64 0] 26)).alloc (.cells #[.int .i64 0, .int .i64 0, .int .i64 0, .int .i64 0, .int .i64 0] 26)) = W5 at *
  clear hZ bA4 b14 b24 b34 hB4
  go_cut [40] from 30 to 40 (fun _ wx => Hid (Blk wx w4.heap.size f1.cells 26) ∧ Hid (Blk wx (w4.heap.size + 1) f2.cells 26) ∧ Hid (Blk wx (w4.heap.size + 1 + 1) f3.cells 26) ∧ Hid (Below w4.heap.size W5 wx))
  case first =>
    by_cases hc : ck = 0
    · subst hc
      obtain ⟨k1, k2, k3⟩ := H1.out (by trivial)
      have g := HG.out (by trivial)
      have x0 := bA5.cell 0
      have x1 := bA5.cell 1
      have x2 := bA5.cell 2
      have ltA := bA5.lt
      simp at x0 x1 x2
      go_wp2_with fail
      have n0 : w.heap.size ≠ w4.heap.size := by omega
      have n1 : w.heap.size ≠ w4.heap.size + 1 := by omega
      have n2 : w.heap.size ≠ w4.heap.size + 1 + 1 := by omega
      have m0 : ∀ o, (W5.alloc o).cell? ⟨w.heap.size, 0, none⟩ = some (.int .i64 a.size) := fun o => (bA5.alloc o).cell 0
      have m1 : ∀ o, (W5.alloc o).cell? ⟨w.heap.size, 1, none⟩ = some a.B.val := fun o => (bA5.alloc o).cell 1
      have m2 : ∀ o, (W5.alloc o).cell? ⟨w.heap.size, 2, none⟩ = some a.E.val := fun o => (bA5.alloc o).cell 2
      have hsz : ∀ W, LawG w4.heap.size W5 w.heap.size #[.int .i64 a.size, a.B.val, a.E.val] W → w4.heap.size + 3 ≤ W.heap.size := fun W hG => by
        obtain ⟨_, _, _, _, _, hz⟩ := hG.z
        have := hz.lt
        omega
      have hIn : ∀ W, LawG w4.heap.size W5 w.heap.size #[.int .i64 a.size, a.B.val, a.E.val] W → a.In W.heap.size W := fun W hG =>
        (h.below (hB5.trans (hG.below.mono (by omega))) (Nat.le_refl _)).mono (Nat.le_trans hB5.size hG.below.size)
      refine wp_region_each (LawG w4.heap.size W5 w.heap.size #[.int .i64 a.size, a.B.val, a.E.val]) (LawE w4.heap.size f1 f2 f3 #[.int .i64 a.size, a.B.val, a.E.val]) (by kernel_rfl) (by kernel_rfl) (by kernel_rfl) ⟨⟨rfl, rfl, rfl, Nat.le_refl _, fun _ _ => rfl⟩, bA5, ⟨_, _, _, _, _, bX⟩, ⟨_, _, _, _, _, bY⟩, ⟨_, _, _, _, _, bW⟩⟩ ⟨?_, ?_, ?_, ?_, ?_, ?_, ?_, ?_, ?_, ?_, ?_, ?_, trivial⟩ ?_
      all_goals clear m0 m1 m2 n0 n1 n2 x0 x1 x2 b15 b25 b35 bA5 bX bY bW
      rotate_right
      · intro t W hG hE
        have e9 : Blk W w4.heap.size f1.cells 26 := hE 9 (by decide)
        have e10 : Blk W (w4.heap.size + 1) f2.cells 26 := hE 10 (by decide)
        have e11 : Blk W (w4.heap.size + 1 + 1) f3.cells 26 := hE 11 (by decide)
        have hGb := hG.below
        clear hE hG
        simp only [fill, Act.put, List.setIfInBounds_toArray, List.set_cons_zero, List.set_cons_succ]
        go_wp2_with fail
        go_meet
        exact ⟨hide e9, hide e10, hide e11, hide hGb⟩
      all_goals intro t W hG hp K hK
      all_goals simp only [fill, Act.put, List.setIfInBounds_toArray, List.set_cons_zero, List.set_cons_succ] at hK ⊢
      all_goals rw [if_pos (by rfl)]
      · have c0 := hG.box.cell 0
        have c1 := hG.box.cell 1
        have c2 := hG.box.cell 2
        simp at c0 c1 c2
        go_simp
        exact hK _ W hG rfl (fun _ _ _ h => h)
      · go_simp
        go_at_call 20
        refine (refAll_any W).mono ?_
        rintro e W' ⟨rfl, rfl⟩
        go_simp
        refine hK _ _ (hG.keep ((Below.refl _ _).alloc (Nat.le_refl _) _)) ⟨_, rfl, ?_, Blk.new W _ _⟩ (fun j u _ => LawE.alloc _ _ _ _ _ _ _ j u)
        exact hsz W hG
      · obtain ⟨bl, e1, hbl, hb⟩ := hp 1 (by decide)
        have e0 := hp 0 (by decide)
        simp only [LawE] at e0
        simp only [e0, e1] at hK ⊢
        go_simp
        go_at_call 19
        refine (refFirst_any a g [1, 2, 3, 4, 5, 6, 7] (by decide) (by decide) bl W (hIn W hG) hb.lt (fun i hi => by rw [hb.cell i]; exact in7 i hi)).mono ?_
        rintro e W' ⟨rfl, hb'⟩
        rw [k1]
        go_simp
        exact hK _ W' (hG.keep hb') rfl (fun j u _ => LawE.keep hb' j u)
      · have c0 := hG.box.cell 0
        have c1 := hG.box.cell 1
        have c2 := hG.box.cell 2
        simp at c0 c1 c2
        go_simp
        exact hK _ W hG rfl (fun _ _ _ h => h)
      · go_simp
        refine hK _ _ (hG.keep ((Below.refl _ _).alloc (Nat.le_refl _) _)) ⟨_, rfl, ?_, Blk.new W _ _⟩ (fun j u _ => LawE.alloc _ _ _ _ _ _ _ j u)
        exact hsz W hG
      · obtain ⟨bl, e1, hbl, hb⟩ := hp 4 (by decide)
        have e0 := hp 3 (by decide)
        simp only [LawE] at e0
        simp only [e0, e1] at hK ⊢
        go_simp
        go_at_call 19
        refine (refFirst_any a g [8] (by decide) (by decide) bl W (hIn W hG) hb.lt (fun i hi => by rw [hb.cell i]; exact in8 i hi)).mono ?_
        rintro e W' ⟨rfl, hb'⟩
        rw [k2]
        go_simp
        exact hK _ W' (hG.keep hb') rfl (fun j u _ => LawE.keep hb' j u)
      · have c0 := hG.box.cell 0
        have c1 := hG.box.cell 1
        have c2 := hG.box.cell 2
        simp at c0 c1 c2
        go_simp
        exact hK _ W hG rfl (fun _ _ _ h => h)
      · go_simp
        refine hK _ _ (hG.keep ((Below.refl _ _).alloc (Nat.le_refl _) _)) ⟨_, rfl, ?_, Blk.new W _ _⟩ (fun j u _ => LawE.alloc _ _ _ _ _ _ _ j u)
        exact hsz W hG
      · obtain ⟨bl, e1, hbl, hb⟩ := hp 7 (by decide)
        have e0 := hp 6 (by decide)
        simp only [LawE] at e0
        simp only [e0, e1] at hK ⊢
        go_simp
        go_at_call 19
        refine (refFirst_any a g [9] (by decide) (by decide) bl W (hIn W hG) hb.lt (fun i hi => by rw [hb.cell i]; exact in9 i hi)).mono ?_
        rintro e W' ⟨rfl, hb'⟩
        rw [k3]
        go_simp
        exact hK _ W' (hG.keep hb') rfl (fun j u _ => LawE.keep hb' j u)
      · have e0 := hp 2 (by decide)
        simp only [LawE] at e0
        obtain ⟨u0, u1, u2, u3, u4, hx⟩ := hG.x
        have c0 := hx.cell 0
        have c1 := hx.cell 1
        have c2 := hx.cell 2
        have c3 := hx.cell 3
        have c4 := hx.cell 4
        have cf := hx.frozen
        simp at c0 c1 c2 c3 c4
        simp only [e0, Brk.cells] at hK ⊢
        go_simp
        exact hK undef (set5 W w4.heap.size _ _ _ _ _) (hG.set t0 (by omega) _ _ _ _ _) (hx.set5 _ _ _ _ _) (LawE.set (by omega) _ _ _ _ _)
      · have e0 := hp 5 (by decide)
        simp only [LawE] at e0
        obtain ⟨u0, u1, u2, u3, u4, hx⟩ := hG.y
        have c0 := hx.cell 0
        have c1 := hx.cell 1
        have c2 := hx.cell 2
        have c3 := hx.cell 3
        have c4 := hx.cell 4
        have cf := hx.frozen
        simp at c0 c1 c2 c3 c4
        simp only [e0, Brk.cells] at hK ⊢
        go_simp
        exact hK undef (set5 W (w4.heap.size + 1) _ _ _ _ _) (hG.set t0 (by omega) _ _ _ _ _) (hx.set5 _ _ _ _ _) (LawE.set (by omega) _ _ _ _ _)
      · have e0 := hp 8 (by decide)
        simp only [LawE] at e0
        obtain ⟨u0, u1, u2, u3, u4, hx⟩ := hG.z
        have c0 := hx.cell 0
        have c1 := hx.cell 1
        have c2 := hx.cell 2
        have c3 := hx.cell 3
        have c4 := hx.cell 4
        have cf := hx.frozen
        simp at c0 c1 c2 c3 c4
        simp only [e0, Brk.cells] at hK ⊢
        go_simp
        exact hK undef (set5 W (w4.heap.size + 1 + 1) _ _ _ _ _) (hG.set t0 (by omega) _ _ _ _ _) (hx.set5 _ _ _ _ _) (LawE.set (by omega) _ _ _ _ _)
    · obtain ⟨rfl, rfl, rfl⟩ := H0.out hc
      have hne : ((ck : Int) == 0) = false := by simp [hc]
      go_wp2_with fail
      go_meet
      exact ⟨hide bX, hide bY, hide bW, hide (Below.refl _ _)⟩
  case rest =>
    obtain ⟨BX, BY, BW, HB⟩ := hcut
    have hBw := hide (hB5.trans (HB.out.mono (by omega)))
    have bA6 := bA5.below HB.out (by omega)
    have b16 := b15.below HB.out (by omega)
    have b26 := b25.below HB.out (by omega)
    have b36 := b35.below HB.out (by omega)
    clear bX bY bW bA5 b15 b25 b35 hI5 H0 H1 HG
    go_wp2_with fail
    go_at_call 21
    refine (begun_any _).mono ?_
    rintro e w8 ⟨rfl, hb8⟩
    have bA7 := bA6.below hb8 bA6.lt
    have b17 := b16.below hb8 b16.lt
    have b27 := b26.below hb8 b26.lt
    have b37 := b36.below hb8 b36.lt
    have BX7 := BX.out.below hb8 BX.out.lt
    have BY7 := BY.out.below hb8 BY.out.lt
    have BW7 := BW.out.below hb8 BW.out.lt
    have hB8 := hBw.out.trans (hb8.mono hBw.out.size)
    clear hb8 bA6 b16 b26 b36 BX BY BW HB hBw
    have x0 := bA7.cell 0
    have x1 := bA7.cell 1
    have x2 := bA7.cell 2
    simp at x0 x1 x2
    go_wp2_with fail
    go_at_call 22
    refine (HK.out _ ((h.below hB8 (Nat.le_refl _)).mono hB8.size)).mono ?_
    rintro e w9 ⟨rfl, hb9⟩
    have b18 := b17.below hb9 b17.lt
    have b28 := b27.below hb9 b27.lt
    have b38 := b37.below hb9 b37.lt
    have BX8 := BX7.below hb9 BX7.lt
    have BY8 := BY7.below hb9 BY7.lt
    have BW8 := BW7.below hb9 BW7.lt
    have hB9 := hB8.trans (hb9.mono hB8.size)
    clear hb9 bA7 b17 b27 b37 BX7 BY7 BW7 hB8 x0 x1 x2
    simp only [Brk.cells] at BX8 BY8 BW8
    have o0 := b18.cell 0
    have o1 := b18.cell 1
    have o2 := b18.cell 2
    have o3 := b18.cell 3
    have o4 := b18.cell 4
    have p0 := b28.cell 0
    have p1 := b28.cell 1
    have p2 := b28.cell 2
    have p3 := b28.cell 3
    have p4 := b28.cell 4
    have q0 := b38.cell 0
    have q1 := b38.cell 1
    have q2 := b38.cell 2
    have q3 := b38.cell 3
    have q4 := b38.cell 4
    have r0 := BX8.cell 0
    have r1 := BX8.cell 1
    have r2 := BX8.cell 2
    have r3 := BX8.cell 3
    have r4 := BX8.cell 4
    have s0 := BY8.cell 0
    have s1 := BY8.cell 1
    have s2 := BY8.cell 2
    have s3 := BY8.cell 3
    have s4 := BY8.cell 4
    have t0 := BW8.cell 0
    have t1 := BW8.cell 1
    have t2 := BW8.cell 2
    have t3 := BW8.cell 3
    have t4 := BW8.cell 4
    simp at o0 o1 o2 o3 o4 p0 p1 p2 p3 p4 q0 q1 q2 q3 q4 r0 r1 r2 r3 r4 s0 s1 s2 s3 s4 t0 t1 t2 t3 t4
    go_wp2
    go_ret
    exact ⟨rfl, hB9⟩

end Go.Proofs.Ytjhkadffaephmaa
