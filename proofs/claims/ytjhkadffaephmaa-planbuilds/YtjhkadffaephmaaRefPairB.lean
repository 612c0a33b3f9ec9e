/-
  signpostref.PairOf: 'ps, qs = append(ps, p), append(qs, q)': two appends in whatever order.
-/
import Derived.Test.YtjhkadffaephmaaRefPair
namespace Go.Proofs.Ytjhkadffaephmaa
set_option maxRecDepth 100000
open Go.RowKit

/-- One of the two: which of its steps were taken, what they left. -/
structure Half (base B0 bx : Nat) (V : Value) (k : Nat) (f : Nat → Int) (dl dm db da ds : Bool) (tl tm tb ta : Value) (W : World) : Prop where
  c0 : ds = false → Blk W bx #[V] 32
  c1 : ds = true → Blk W bx #[ta] 32
  own : da = false → W.ownsRow base 3 1 V k (intsL f k)
  l : dl = true → tl = V
  m : dm = true → tm = .int .i64 (f k)
  b : db = true → ∃ b, tb = .slice (some ⟨b, 0, none⟩) 1 1 ∧ B0 ≤ b ∧ Blk W b #[.int .i64 (f k)] 3
  a : da = true → ∃ g c, ta = .slice (some ⟨g, 0, none⟩) (k + 1) c ∧ W.ownsRow base 3 1 (.slice (some ⟨g, 0, none⟩) (k + 1) c) (k + 1) (intsL f (k + 1)) ∧ (V.ownBlock = some g ∨ B0 ≤ g)
  sa : ds = true → da = true
  sl : ds = true → dl = true

section
variable {base B0 bx : Nat} {V : Value} {k : Nat} {f : Nat → Int} {dl dm db da ds : Bool} {tl tm tb ta : Value} {W W' : World}

theorem blk_grownP {B : Nat} {vs : Array Value} {t : TypeId} {row : Option Nat} (h : Blk W B vs t) (hg : W.grownBy W' row) (hne : row ≠ some B) : Blk W' B vs t := h.kept hg (Ne.symm hne)

theorem Half.kept (h : Half base B0 bx V k f dl dm db da ds tl tm tb ta W) {row : Option Nat} (hg : W.grownBy W' row) (hr : ∀ j, row = some j → j ≠ bx ∧ j < B0 ∧ V.ownBlock ≠ some j) : Half base B0 bx V k f dl dm db da ds tl tm tb ta W' where
  c0 := fun e => blk_grownP (h.c0 e) hg (fun e' => (hr bx e').1 rfl)
  c1 := fun e => blk_grownP (h.c1 e) hg (fun e' => (hr bx e').1 rfl)
  own := fun e => (h.own e).kept hg (by
    cases hv : V.ownBlock with
    | none => exact Or.inl rfl
    | some j => exact Or.inr (fun e' => (hr j e'.symm).2.2 hv))
  l := h.l
  m := h.m
  b := fun e => by
    obtain ⟨b, h1, h2, h3⟩ := h.b e
    exact ⟨b, h1, h2, blk_grownP h3 hg (fun e' => by have := (hr b e').2.1; omega)⟩
  a := fun e => by
    obtain ⟨g, c, h1, h2, h3⟩ := h.a e
    refine ⟨g, c, h1, h2.kept hg (Or.inr (fun e' => ?_)), h3⟩
    have := hr g e'.symm
    rcases h3 with h3 | h3
    · exact this.2.2 h3
    · have := this.2.1
      omega
  sa := h.sa
  sl := h.sl

theorem Half.stepL (h : Half base B0 bx V k f dl dm db da ds tl tm tb ta W) : Half base B0 bx V k f true dm db da ds V tm tb ta W :=
  ⟨h.c0, h.c1, h.own, fun _ => rfl, h.m, h.b, h.a, h.sa, fun _ => rfl⟩
theorem Half.stepM (h : Half base B0 bx V k f dl dm db da ds tl tm tb ta W) {v : Value} (hv : v = .int .i64 (f k)) : Half base B0 bx V k f dl true db da ds tl v tb ta W :=
  ⟨h.c0, h.c1, h.own, h.l, fun _ => hv, h.b, h.a, h.sa, h.sl⟩
theorem Half.stepB (h : Half base B0 bx V k f dl dm db da ds tl tm tb ta W) (hB : B0 ≤ W.heap.size) : Half base B0 bx V k f dl dm true da ds tl tm (.slice (some ⟨W.heap.size, 0, none⟩) 1 1) ta (W.alloc (.cells #[.int .i64 (f k)] 3)) := by
  have h' := h.kept (World.grownBy_alloc W (.cells #[.int .i64 (f k)] 3) none) (fun j hj => by cases hj)
  exact ⟨h'.c0, h'.c1, h'.own, h'.l, h'.m, fun _ => ⟨_, rfl, hB, Blk.new W _ _⟩, h'.a, h'.sa, h'.sl⟩
theorem Half.stepA (h : Half base B0 bx V k f dl dm db false false tl tm tb ta W) (hbx : bx < base) {g c : Nat} (hg : W.grownBy W' V.ownBlock) (hown : W'.ownsRow base 3 1 (.slice (some ⟨g, 0, none⟩) (k + 1) c) (k + 1) (intsL f k ++ [.int .i64 (f k)])) (hat : V.ownBlock = some g ∨ g = W.heap.size) (hB : B0 ≤ W.heap.size) (hV : ∀ j, V.ownBlock = some j → j < B0) : Half base B0 bx V k f dl dm db true false tl tm tb (.slice (some ⟨g, 0, none⟩) (k + 1) c) W' where
  c0 := fun e => blk_grownP (h.c0 e) hg (fun e' => by have := ((h.own rfl).lt bx e').1; omega)
  c1 := fun e => by cases e
  own := fun e => by cases e
  l := h.l
  m := h.m
  b := fun e => by
    obtain ⟨b, h1, h2, h3⟩ := h.b e
    exact ⟨b, h1, h2, blk_grownP h3 hg (fun e' => by have := hV b e'; omega)⟩
  a := fun _ => ⟨g, c, rfl, by rw [intsL_succ]; exact hown, by rcases hat with h | h; exact Or.inl h; exact Or.inr (by omega)⟩
  sa := fun e => by cases e
  sl := fun e => by cases e
theorem Half.stepS (h : Half base B0 bx V k f dl dm db true false tl tm tb ta W) (hbx : bx < base) (hbB : base ≤ B0) (hdl : dl = true) : Half base B0 bx V k f dl dm db true true tl tm tb ta (W.setCell ⟨bx, 0, none⟩ ta) := by
  have hg : W.grownBy (W.setCell ⟨bx, 0, none⟩ ta) (some bx) := ⟨rfl, rfl, rfl, by simp, fun j _ hne => by
    show (W.heap.modify bx _)[j]? = _
    rw [Array.getElem?_modify, if_neg (fun e => hne (by rw [e]))]⟩
  refine ⟨fun e => (by cases e), fun _ => (by simpa using (h.c0 rfl).set 0 ta), fun e => (by cases e), h.l, h.m, fun e => ?_, fun e => ?_, fun _ => rfl, fun _ => hdl⟩
  · obtain ⟨b, h1, h2, h3⟩ := h.b e
    exact ⟨b, h1, h2, blk_grownP h3 hg (fun e' => by have : bx = b := (by simpa using e'); omega)⟩
  · obtain ⟨g, c, h1, h2, h3⟩ := h.a e
    refine ⟨g, c, h1, h2.kept hg (Or.inr (fun e' => ?_)), h3⟩
    have hb := (h2.lt g rfl).1
    have : g = bx := by simpa [Value.ownBlock] using e'
    omega
end

/-- Both, and that they lie apart. -/
structure PQI (base B0 b5 b6 : Nat) (V5 V6 : Value) (k : Nat) (f5 f6 : Nat → Int) (W0 : World) (d : Nat → Bool) (t : Nat → Value) (W : World) : Prop where
  below : Below b5 W0 W
  size : B0 ≤ W.heap.size
  h5 : Half base B0 b5 V5 k f5 (d 0) (d 1) (d 2) (d 3) (d 8) (t 0) (t 1) (t 2) (t 3) W
  h6 : Half base B0 b6 V6 k f6 (d 4) (d 5) (d 6) (d 7) (d 9) (t 4) (t 5) (t 6) (t 7) W
  ne : d 3 = true → d 7 = true → (t 3).ownBlock ≠ (t 7).ownBlock

/-- The two lists, k numbers each. -/
structure PQ (base b5 b6 : Nat) (V5 V6 : Value) (k : Nat) (f5 f6 : Nat → Int) (W : World) : Prop where
  c5 : Blk W b5 #[V5] 32
  c6 : Blk W b6 #[V6] 32
  o5 : W.ownsRow base 3 1 V5 k (intsL f5 k)
  o6 : W.ownsRow base 3 1 V6 k (intsL f6 k)
  ne : ∀ j, V5.ownBlock = some j → V6.ownBlock ≠ some j

theorem PQ.start {base b5 b6 : Nat} {V5 V6 : Value} {k : Nat} {f5 f6 : Nat → Int} {W0 W : World} (h : PQ base b5 b6 V5 V6 k f5 f6 W) (hb : Below b5 W0 W) (t : Nat → Value) : PQI base W.heap.size b5 b6 V5 V6 k f5 f6 W0 (fun _ => false) t W.drew where
  below := hb.trans ⟨rfl, rfl, rfl, Nat.le_refl _, fun _ _ => rfl⟩
  size := Nat.le_refl _
  h5 := ⟨fun _ => h.c5, fun e => (by cases e), fun _ => h.o5, fun e => (by cases e), fun e => (by cases e), fun e => (by cases e), fun e => (by cases e), fun e => (by cases e), fun e => (by cases e)⟩
  h6 := ⟨fun _ => h.c6, fun e => (by cases e), fun _ => h.o6, fun e => (by cases e), fun e => (by cases e), fun e => (by cases e), fun e => (by cases e), fun e => (by cases e), fun e => (by cases e)⟩
  ne := fun e => (by cases e)

theorem PQI.done {base B0 b5 b6 : Nat} {V5 V6 : Value} {k : Nat} {f5 f6 : Nat → Int} {W0 W : World} {d : Nat → Bool} {t : Nat → Value} (h : PQI base B0 b5 b6 V5 V6 k f5 f6 W0 d t W) (hd : ∀ i, i < 10 → d i = true) : PQ base b5 b6 (t 3) (t 7) (k + 1) f5 f6 W := by
  obtain ⟨g5, q5, e5, o5, _⟩ := h.h5.a (hd 3 (by omega))
  obtain ⟨g6, q6, e6, o6, _⟩ := h.h6.a (hd 7 (by omega))
  refine ⟨h.h5.c1 (hd 8 (by omega)), h.h6.c1 (hd 9 (by omega)), by rw [e5]; exact o5, by rw [e6]; exact o6, fun j h1 h2 => ?_⟩
  exact h.ne (hd 3 (by omega)) (hd 7 (by omega)) (by rw [h1, h2])

/-- Numbers behind another's step. -/
theorem half_other {base B0 bx : Nat} {V V' : Value} {k : Nat} {f : Nat → Int} {dl dm db da ds : Bool} {tl tm tb ta : Value} {W W' : World}
    (h : Half base B0 bx V k f dl dm db da ds tl tm tb ta W) (hg : W.grownBy W' V'.ownBlock) (hV : ∀ j, V'.ownBlock = some j → base ≤ j ∧ j < B0 ∧ V.ownBlock ≠ some j) (hbx : bx < base) : Half base B0 bx V k f dl dm db da ds tl tm tb ta W' :=
  h.kept hg (fun j hj => ⟨by have := hV j hj; omega, (hV j hj).2.1, (hV j hj).2.2⟩)

end Go.Proofs.Ytjhkadffaephmaa
