/-
  Our own texts, bundled: a claim holds few files.
-/
import Derived.Test.YtjhkadffaephmabBundleEI
import Derived.Test.YtjhkadffaephmabBundleAJ
import Derived.Test.YtjhkadffaephmabBundleFC
import Derived.Test.YtjhkadffaephmabBundleBI
import Derived.Test.YtjhkadffaephmabBundleFA
import Derived.Test.YtjhkadffaephmabBundleDI
/-
  Squares of routes that are made by append.
-/
namespace Go.Proofs.Ytjhkadffaephmab
set_option maxRecDepth 100000
open Go.RowKit

/-- Routes, as cells. -/
def rtsL (l : List RtM) : List Value := l.flatMap fun r => [.int .i64 r.w, .slice r.pa r.l r.q]
theorem rtsL_len (l : List RtM) : (rtsL l).length = l.length * 2 := by
  induction l with
  | nil => rfl
  | cons m l ih => simp only [rtsL, List.flatMap_cons, List.length_append, List.length_cons, List.length_nil] at ih ⊢; omega
theorem rtsL_append (l m : List RtM) : rtsL (l ++ m) = rtsL l ++ rtsL m := by simp [rtsL]
theorem rtsL_get : ∀ (l : List RtM) (i : Nat), i < l.length → (rtsL l)[i * 2]? = some (.int .i64 (l.getD i zeroR).w) ∧ (rtsL l)[i * 2 + 1]? = some (.slice (l.getD i zeroR).pa (l.getD i zeroR).l (l.getD i zeroR).q)
  | [], _, h => absurd h (Nat.not_lt_zero _)
  | _ :: _, 0, _ => ⟨rfl, rfl⟩
  | m :: l, i + 1, h => by
    have ih := rtsL_get l i (by simpa using h)
    have e : rtsL (m :: l) = [.int .i64 m.w, .slice m.pa m.l m.q] ++ rtsL l := rfl
    have g : (m :: l).getD (i + 1) zeroR = l.getD i zeroR := rfl
    rw [e, g, show (i + 1) * 2 = i * 2 + 2 by omega]
    refine ⟨?_, ?_⟩
    · rw [List.getElem?_append_right (by simp)]; exact ih.1
    · rw [List.getElem?_append_right (by simp)]; exact ih.2

theorem RtM.In.kept {r : RtM} {k : Nat} {w w' : World} {row : Option Nat} (h : r.In k w) (hg : w.grownBy w' row) (hlt : 0 < r.l → r.b < w.heap.size) (hne : 0 < r.l → row ≠ some r.b) : r.In k w' :=
  ⟨⟨h.ints.addr, fun j hj => by
    rw [World.cell?_of_block (w := w) (show w'.heap[(⟨r.b, r.o + j, none⟩ : Addr).block]? = _ from hg.block r.b (hlt (by omega)) (fun e => hne (by omega) e.symm))]
    exact h.ints.cell j hj, h.ints.len⟩, h.blk⟩
theorem RtM.In.up {r : RtM} {k m : Nat} {w : World} (h : r.In k w) (hk : k ≤ m) : r.In m w := ⟨h.ints, fun h0 => Nat.lt_of_lt_of_le (h.blk h0) hk⟩

/-- A square in blocks of its own, from lo on and below hi. -/
def OwnTabR (lo hi : Nat) (V : Value) (n N : Nat) (Z : Nat → Nat → Rt) (w : World) : Prop :=
  ∃ (g c : Nat → Nat) (L : Nat → List RtM), w.ownsRow lo 94 1 V n (rowsL g c N n) ∧ (∀ k, V.ownBlock = some k → k < hi) ∧
    (∀ r, r < n → (L r).length = N ∧ w.ownsRow lo 71 2 (.slice (some ⟨g r, 0, none⟩) N (c r)) N (rtsL (L r)) ∧ g r < hi ∧ V.ownBlock ≠ some (g r) ∧
      ∀ j, j < N → ((L r).getD j zeroR).In hi w ∧ ((L r).getD j zeroR).rt = Z r j ∧ (0 < ((L r).getD j zeroR).l → V.ownBlock ≠ some ((L r).getD j zeroR).b))

theorem OwnTabR.nil (lo hi N : Nat) (Z : Nat → Nat → Rt) (w : World) : OwnTabR lo hi (.slice none 0 0) 0 N Z w :=
  ⟨fun _ => 0, fun _ => 0, fun _ => [], World.ownsRow_nil w lo _ 1, fun k hk => by simp [Value.ownBlock] at hk, fun r hr => absurd hr (Nat.not_lt_zero _)⟩

theorem OwnTabR.kept {lo hi : Nat} {V : Value} {n N : Nat} {Z : Nat → Nat → Rt} {w w' : World} {row : Option Nat} (h : OwnTabR lo hi V n N Z w) (hg : w.grownBy w' row) (hs : hi ≤ w.heap.size) (hr : ∀ k, row = some k → hi ≤ k) : OwnTabR lo hi V n N Z w' := by
  obtain ⟨g, c, L, h1, h2, h3⟩ := h
  refine ⟨g, c, L, h1.kept hg ?_, h2, fun r hr' => ?_⟩
  · cases hv : V.ownBlock with
    | none => exact Or.inl rfl
    | some k =>
      refine Or.inr (fun e => ?_)
      have hk2 := h2 k hv
      have := hr k e.symm
      omega
  · obtain ⟨q0, q1, q2, q3, q4⟩ := h3 r hr'
    refine ⟨q0, q1.kept hg (Or.inr (fun e => ?_)), q2, q3, fun j hj => ?_⟩
    · have := hr (g r) e.symm
      omega
    · obtain ⟨p1, p2, p3⟩ := q4 j hj
      exact ⟨p1.kept hg (fun h0 => Nat.lt_of_lt_of_le (p1.blk h0) hs) (fun h0 e => by have := hr _ e; have := p1.blk h0; omega), p2, p3⟩

/-- i rows of the square, and j routes of the next. -/
structure RpJ (W0 : World) (N : Nat) (Z : Nat → Nat → Rt) (Vo : Value) (i H : Nat) (Vr : Value) (j : Nat) (W : World) : Prop where
  below : Below W0.heap.size W0 W
  tab : OwnTabR W0.heap.size H Vo i N Z W
  lo : W0.heap.size ≤ H
  hi : H ≤ W.heap.size
  row : ∃ l : List RtM, l.length = j ∧ W.ownsRow H 71 2 Vr j (rtsL l) ∧ ∀ c, c < j → (l.getD c zeroR).In W.heap.size W ∧ (l.getD c zeroR).rt = Z i c ∧ (0 < (l.getD c zeroR).l → H ≤ (l.getD c zeroR).b ∧ Vr.ownBlock ≠ some (l.getD c zeroR).b)
theorem RpJ.keep {W0 : World} {N : Nat} {Z : Nat → Nat → Rt} {Vo : Value} {i H : Nat} {Vr : Value} {j : Nat} {W W' : World} (h : RpJ W0 N Z Vo i H Vr j W) (hb : Below W.heap.size W W') : RpJ W0 N Z Vo i H Vr j W' := by
  obtain ⟨l, h1, h2, h3⟩ := h.row
  exact ⟨h.below.trans (hb.mono h.below.size), h.tab.kept (below_grown hb) h.hi (fun k hk => by cases hk), h.lo, Nat.le_trans h.hi hb.size, l, h1, owns_below h2 hb, fun c hc => ⟨(h3 c hc).1.grown hb, (h3 c hc).2⟩⟩
/-- One route more. -/
theorem RpJ.push {W0 : World} {N : Nat} {Z : Nat → Nat → Rt} {Vo : Value} {i H : Nat} {Vr : Value} {j : Nat} {W W1 W2 : World} {g' cap' : Nat} (h : RpJ W0 N Z Vo i H Vr j W) (hb : Below W.heap.size W W1) {r : RtM} (hr : r.In W.heap.size W) (hz : r.rt = Z i j) (ho : 0 < r.l → H ≤ r.b ∧ Vr.ownBlock ≠ some r.b)
    {l : List RtM} (hl : l.length = j) (hls : ∀ c, c < j → (l.getD c zeroR).In W.heap.size W ∧ (l.getD c zeroR).rt = Z i c ∧ (0 < (l.getD c zeroR).l → H ≤ (l.getD c zeroR).b ∧ Vr.ownBlock ≠ some (l.getD c zeroR).b)) (hVH : ∀ k, Vr.ownBlock = some k → H ≤ k)
    (hown : W2.ownsRow H 71 2 (.slice (some ⟨g', 0, none⟩) (j + 1) cap') (j + 1) (rtsL l ++ [.int .i64 r.w, .slice r.pa r.l r.q])) (hgrow : W1.grownBy W2 Vr.ownBlock) (hat : Vr.ownBlock = some g' ∨ g' = W1.heap.size) :
    RpJ W0 N Z Vo i H (.slice (some ⟨g', 0, none⟩) (j + 1) cap') (j + 1) W2 := by
  have h1 := h.keep hb
  have each : ∀ (s : RtM) (x : Rt), s.In W.heap.size W → s.rt = x → (0 < s.l → H ≤ s.b ∧ Vr.ownBlock ≠ some s.b) → s.In W2.heap.size W2 ∧ s.rt = x ∧ (0 < s.l → H ≤ s.b ∧ (Value.slice (some ⟨g', 0, none⟩) (j + 1) cap').ownBlock ≠ some s.b) := fun s x hs hx hso => by
    have hs1 := hs.grown hb
    refine ⟨(hs1.kept hgrow hs1.blk (fun h0 => (hso h0).2)).up hgrow.size, hx, fun h0 => ⟨(hso h0).1, fun e => ?_⟩⟩
    have e2 : g' = s.b := by simpa [Value.ownBlock] using e
    rcases hat with e3 | e3
    · exact (hso h0).2 (by rw [e3, e2])
    · have := hs.blk h0
      have := hb.size
      omega
  refine ⟨h1.below.trans (grown_below hgrow (fun k hk => by have := hVH k hk; have := h.lo; omega) h1.below.size), h1.tab.kept hgrow h1.hi hVH, h.lo, Nat.le_trans h1.hi hgrow.size, l ++ [r], by simp [hl], ?_, fun c hc => ?_⟩
  · rw [rtsL_append]
    exact hown
  · by_cases e : c = j
    · have : (l ++ [r]).getD c zeroR = r := by rw [List.getD_eq_getElem?_getD, List.getElem?_append_right (by omega), e, hl]; simp
      rw [this, e]
      exact each r _ hr hz ho
    · have : (l ++ [r]).getD c zeroR = l.getD c zeroR := by rw [List.getD_eq_getElem?_getD, List.getElem?_append_left (by omega), List.getD_eq_getElem?_getD]
      rw [this]
      exact each _ _ (hls c (by omega)).1 (hls c (by omega)).2.1 (hls c (by omega)).2.2
/-- One row more. -/
theorem RpJ.rowDone {W0 : World} {N : Nat} {Z : Nat → Nat → Rt} {Vo : Value} {i H : Nat} {gn cn : Nat} {W W1 W2 : World} {g' cap' : Nat} (h : RpJ W0 N Z Vo i H (.slice (some ⟨gn, 0, none⟩) N cn) N W) (hb : Below W.heap.size W W1)
    (hVo : ∀ (g c : Nat → Nat), W1.ownsRow W0.heap.size 94 1 Vo i (rowsL g c N i) → W2.ownsRow W0.heap.size 94 1 (.slice (some ⟨g', 0, none⟩) (i + 1) cap') (i + 1) (rowsL g c N i ++ [.slice (some ⟨gn, 0, none⟩) N cn])) (hgrow : W1.grownBy W2 Vo.ownBlock) (hat : Vo.ownBlock = some g' ∨ g' = W1.heap.size) (hg'2 : g' < W2.heap.size) :
    OwnTabR W0.heap.size W2.heap.size (.slice (some ⟨g', 0, none⟩) (i + 1) cap') (i + 1) N Z W2 := by
  have h1 := h.keep hb
  obtain ⟨g, c, L, t1, t2, t3⟩ := h1.tab
  obtain ⟨l, l1, l2, l3⟩ := h1.row
  have hgn := l2.lt gn rfl
  have hVne : ∀ k, H ≤ k → Vo.ownBlock ≠ some k := fun k hk e => by have := t2 k e; omega
  have hg'ne : ∀ k, k < W1.heap.size → Vo.ownBlock ≠ some k → (Value.slice (some ⟨g', 0, none⟩) (i + 1) cap').ownBlock ≠ some k := fun k hk hV e => by
    have e2 : g' = k := by simpa [Value.ownBlock] using e
    rcases hat with e3 | e3
    · exact hV (by rw [e3, e2])
    · omega
  refine ⟨fun r => if r = i then gn else g r, fun r => if r = i then cn else c r, fun r => if r = i then l else L r, ?_, ?_, ?_⟩
  · rw [rowsL_succ]
    simp only [if_true]
    rw [rowsL_congr (g := fun r => if r = i then gn else g r) (c := fun r => if r = i then cn else c r) (g' := g) (c' := c) (fun r hr => by simp [show r ≠ i by omega])]
    exact hVo g c t1
  · intro k hk
    have : k = g' := by simpa [Value.ownBlock] using hk.symm
    omega
  · intro r hr
    by_cases e : r = i
    · subst e
      simp only [if_true]
      refine ⟨l1, (Go.Joins.ownsRow_le l2 h1.lo).kept hgrow (Or.inr (fun e' => ?_)), by have := hgrow.size; omega, hg'ne gn hgn.2 (hVne gn hgn.1), fun j hj => ?_⟩
      · exact hVne gn hgn.1 (by rw [← e']; rfl)
      · obtain ⟨p1, p2, p3⟩ := l3 j hj
        exact ⟨(p1.kept hgrow p1.blk (fun h0 => hVne _ (p3 h0).1)).up hgrow.size, p2, fun h0 => hg'ne _ (p1.blk h0) (hVne _ (p3 h0).1)⟩
    · simp only [if_neg e]
      obtain ⟨q0, q1, q2, q3, q4⟩ := t3 r (by omega)
      have hglt := (q1.lt (g r) rfl).2
      refine ⟨q0, q1.kept hgrow (Or.inr (fun e' => q3 (by rw [← e']; rfl))), by have := hgrow.size; omega, hg'ne _ hglt q3, fun j hj => ?_⟩
      obtain ⟨p1, p2, p3⟩ := q4 j hj
      have hpl : 0 < ((L r).getD j zeroR).l → ((L r).getD j zeroR).b < W1.heap.size := fun h0 => by have := p1.blk h0; have := h1.hi; omega
      exact ⟨(p1.kept hgrow hpl p3).up (by have := h1.hi; have := hgrow.size; omega), p2, fun h0 => hg'ne _ (hpl h0) (p3 h0)⟩
/-- The same, of the one row's list that was appended to. -/
theorem ownsRow_one {W W2 : World} {lo i : Nat} {V V' : Value} {xs ys : List Value} {e : TypeId} (h1 : W.ownsRow lo e 1 V i xs) (h2 : W.ownsRow lo e 1 V i ys) (hx : xs.length = i) (hy : ys.length = i) {z : Value} (h3 : W2.ownsRow lo e 1 V' (i + 1) (xs ++ [z])) : W2.ownsRow lo e 1 V' (i + 1) (ys ++ [z]) := by
  have : xs = ys := by
    rcases Nat.eq_zero_or_pos i with h0 | h0
    · rw [List.length_eq_zero_iff.1 (hx.trans h0), List.length_eq_zero_iff.1 (hy.trans h0)]
    · obtain ⟨g, c, rfl, _, _⟩ := h1.form h0
      apply List.ext_getElem?
      intro k
      rcases Nat.lt_or_ge k i with hk | hk
      · have a1 := h1.cellAt k (by omega)
        have a2 := h2.cellAt k (by omega)
        rw [← a1, ← a2]
      · rw [List.getElem?_eq_none (by omega), List.getElem?_eq_none (by omega)]
  rw [← this]
  exact h3
theorem RpJ.rowDoneW {W0 : World} {N : Nat} {Z : Nat → Nat → Rt} {Vo : Value} {i H : Nat} {gn cn : Nat} {W W1 W2 : World} {g' cap' : Nat} (h : RpJ W0 N Z Vo i H (.slice (some ⟨gn, 0, none⟩) N cn) N W) (hb : Below W.heap.size W W1) {g0 c0 : Nat → Nat}
    (h0 : W1.ownsRow W0.heap.size 94 1 Vo i (rowsL g0 c0 N i)) (hown : W2.ownsRow W0.heap.size 94 1 (.slice (some ⟨g', 0, none⟩) (i + 1) cap') (i + 1) (rowsL g0 c0 N i ++ [.slice (some ⟨gn, 0, none⟩) N cn])) (hgrow : W1.grownBy W2 Vo.ownBlock) (hat : Vo.ownBlock = some g' ∨ g' = W1.heap.size) (hg'2 : g' < W2.heap.size) :
    OwnTabR W0.heap.size W2.heap.size (.slice (some ⟨g', 0, none⟩) (i + 1) cap') (i + 1) N Z W2 :=
  h.rowDone hb (fun _ _ k1 => ownsRow_one h0 k1 (rowsL_len _ _ _ _) (rowsL_len _ _ _ _) hown) hgrow hat hg'2
/-- As a square in memory. -/
theorem OwnTabR.mat {lo hi : Nat} {V : Value} {N : Nat} {Z : Nat → Nat → Rt} {w : World} (h : OwnTabR lo hi V N N Z w) (hn : N ≤ 100) (hN : 0 < N) (hh : hi ≤ w.heap.size) : ∃ m : RMat, V = m.val ∧ FreshR N Z m w := by
  obtain ⟨g, c, L, k1, _, k3⟩ := h
  obtain ⟨gb, cap, rfl, _, hlt⟩ := k1.form hN
  refine ⟨⟨some ⟨gb, 0, none⟩, gb, 0, cap, fun r => some ⟨g r, 0, none⟩, c, g, fun _ => 0, N, fun _ => N, fun r j => (L r).getD j zeroR⟩, rfl, rfl, fun _ _ => rfl, fun i j hi hj => ((k3 i hi).2.2.2.2 j hj).2.1, ⟨fun _ => rfl, fun _ => hlt, ?_, ?_, ?_, ?_, ?_, ?_, ?_⟩⟩
  · intro r hr
    have hr' : r < N := hr
    show w.cell? ⟨gb, 0 + r, none⟩ = _
    rw [Nat.zero_add, k1.cellAt r (by omega), rowsL_get hr']
  · exact fun r hr _ => ⟨rfl, ((k3 r hr).2.1.lt (g r) rfl).2⟩
  · intro r hr j hj
    have hj' : j < N := hj
    show w.cell? ⟨g r, 0 + j * 2, none⟩ = _
    rw [Nat.zero_add, (k3 r hr).2.1.cellAt (j * 2) (by omega)]
    exact (rtsL_get (L r) j (by rw [(k3 r hr).1]; exact hj')).1
  · intro r hr j hj
    have hj' : j < N := hj
    show w.cell? ⟨g r, 0 + j * 2 + 1, none⟩ = _
    rw [Nat.zero_add, (k3 r hr).2.1.cellAt (j * 2 + 1) (by omega)]
    exact (rtsL_get (L r) j (by rw [(k3 r hr).1]; exact hj')).2
  · exact fun r hr j hj => ((k3 r hr).2.2.2.2 j hj).1.up hh
  · show N ≤ maxLen; unfold maxLen; omega
  · intro r _; show N ≤ maxLen; unfold maxLen; omega

end Go.Proofs.Ytjhkadffaephmab

/-
  signpostref.RoundPaths.
-/
namespace Go.Proofs.Ytjhkadffaephmab
set_option maxRecDepth 100000
open Go.RowKit

/-- A value that is a route, from a block on, and not in that one. -/
def RtUp (x : Rt) (B fb : Nat) (v : Value) (W : World) : Prop := ∃ r : RtM, v = r.val ∧ r.In W.heap.size W ∧ r.rt = x ∧ (0 < r.l → B ≤ r.b ∧ r.b ≠ fb)
theorem RtUp.keep {x : Rt} {B fb : Nat} {v : Value} {W W' : World} (h : RtUp x B fb v W) (hb : Below W.heap.size W W') : RtUp x B fb v W' := by
  obtain ⟨r, h1, h2, h3, h4⟩ := h
  exact ⟨r, h1, h2.grown hb, h3, h4⟩
/-- What stands all through one route. -/
structure RpK (x : Rt) (Wj : World) (rb : Nat) (W : World) : Prop where
  below : Below Wj.heap.size Wj W
  lt : Wj.heap.size ≤ rb
  out : ∃ r : RtM, Blk W rb r.cells 71 ∧ r.In W.heap.size W ∧ r.rt = x ∧ (0 < r.l → Wj.heap.size ≤ r.b ∧ r.b ≠ rb)
theorem RpK.keep {x : Rt} {Wj : World} {rb : Nat} {W W' : World} (h : RpK x Wj rb W) (hb : Below W.heap.size W W') : RpK x Wj rb W' := by
  obtain ⟨r, h1, h2, h3, h4⟩ := h.out
  exact ⟨h.below.trans (hb.mono h.below.size), h.lt, r, h1.below hb h1.lt, h2.grown hb, h3, h4⟩
theorem RpK.put {x y : Rt} {Wj : World} {rb : Nat} {W : World} (h : RpK x Wj rb W) {r : RtM} (hr : r.In W.heap.size W) (hy : r.rt = y) (ho : 0 < r.l → Wj.heap.size ≤ r.b ∧ r.b ≠ rb) :
    RpK y Wj rb ((W.setCell ⟨rb, 0, none⟩ (.int .i64 r.w)).setCell ⟨rb, 1, none⟩ (.slice r.pa r.l r.q)) := by
  obtain ⟨r0, h1, _, _, _⟩ := h.out
  exact ⟨(h.below.setCell (p := ⟨rb, 0, none⟩) h.lt _).setCell (p := ⟨rb, 1, none⟩) h.lt _, h.lt, r, h1.set2 _ _, (hr.off (fun h0 => (ho h0).2) _ _).off (fun h0 => (ho h0).2) _ _, hy, ho⟩
def rpE (vs : List Value) (x z u : Rt) (B fb : Nat) (k : Nat) (v : Value) (W : World) : Prop :=
  match k with
  | 1 => RtUp x B fb v W
  | 12 => RtUp z B fb v W
  | 13 => RtUp u B fb v W
  | k => vs[k]? = some v
theorem rpE.keep {vs : List Value} {x z u : Rt} {B fb : Nat} {W W' : World} (hb : Below W.heap.size W W') (k : Nat) (v : Value) (h : rpE vs x z u B fb k v W) : rpE vs x z u B fb k v W' := by
  unfold rpE at *
  split at h
  · exact h.keep hb
  · exact h.keep hb
  · exact h.keep hb
  · exact h
theorem rpE_get {vs : List Value} {x z u : Rt} {B fb k : Nat} {v t : Value} {W : World} (h : rpE vs x z u B fb k v W) (hk : k ≠ 1 ∧ k ≠ 12 ∧ k ≠ 13) (hu : vs[k]? = some t) : v = t := by
  unfold rpE at h
  split at h
  · exact absurd rfl hk.1
  · exact absurd rfl hk.2.1
  · exact absurd rfl hk.2.2
  · rw [hu] at h
    injection h with h
    exact h.symm

theorem RpK.start {n : Net} (i j : Nat) (Wj : World) {W : World} {v : Int} {pa : Option Addr} {l q b : Nat} {f : Nat → Int} (hb : Below Wj.heap.size Wj W) (hk : Blk W Wj.heap.size #[.int .i64 v, .slice pa l q] 71) (hi : Ints pa l b 0 f W) (hl : 0 < l → Wj.heap.size < b ∧ b < W.heap.size) (hx : Rt.mk v (listOf l f) = n.ownR i j) : RpK (n.ownR i j) Wj Wj.heap.size W :=
  ⟨hb, Nat.le_refl _, RtM.mk v pa l q b 0 f, hk, ⟨hi, fun h0 => (hl h0).2⟩, hx, fun h0 => ⟨by show Wj.heap.size ≤ b; have := (hl h0).1; omega, by show b ≠ Wj.heap.size; have := (hl h0).1; omega⟩⟩

set_option maxHeartbeats 8000000 in
theorem roundPaths_any (n : NetM) (x : RMat) (w : World) (h : n.In w.heap.size w) (hx : x.In w.heap.size w) (hck : n.net.check = 0) (his : n.net.PIs x.t) :
    Calls Try.prog 44 #[n.val, x.val] w fun e w' => (∃ m : RMat, e = .returned m.val ∧ FreshR n.net.N (n.net.pround x.t.Z) m w') ∧ Below w.heap.size w w' := by
  have g := Net.good_of_check hck
  have lo := g.lo
  have hi6 := g.hi
  have hs2 : 2 ≤ n.a.size := g.law.good.lo
  have hs24 : n.a.size ≤ 24 := g.law.good.hi
  obtain ⟨N, hN⟩ : ∃ N : Nat, n.nodes = N := ⟨n.nodes.toNat, by have : n.net.nodes = n.nodes := rfl; omega⟩
  have hNN : n.net.N = N := by show n.nodes.toNat = N; omega
  have hN6 : N ≤ 6 := by have : n.net.nodes = n.nodes := rfl; omega
  have hN1 : 0 < N := by have : n.net.nodes = n.nodes := rfl; omega
  obtain ⟨i1, hi1, hy0, hy1, hy2⟩ := info_parts Try.infoRoute
  obtain ⟨i2, hi2, hx0, hx1, hx2⟩ := info_parts Try.infoRoutes
  have hcells : n.cells = #[.int .i64 n.a.size, .slice n.a.B.ga n.a.B.t.len n.a.B.cap, .slice n.a.E.ga n.a.E.t.len n.a.E.cap, .int .i64 N, .slice n.la n.ln n.lc] := by simp only [NetM.cells, Mat.val, hN]
  have hval : n.val = .agg #[.int .i64 n.a.size, .slice n.a.B.ga n.a.B.t.len n.a.B.cap, .slice n.a.E.ga n.a.E.t.len n.a.E.cap, .int .i64 N, .slice n.la n.ln n.lc] := by rw [NetM.val, hcells]
  have hxl : x.len = N := by rw [← hNN]; exact his.len
  have hxw : ∀ r, r < N → x.L r = N := fun r hr => by rw [← hNN]; exact his.wide r (by rw [hNN]; exact hr)
  have hga : x.ga = some ⟨x.gb, x.go, none⟩ := hx.ga (by omega)
  have HEd := hide (fun (i k : Nat) W (hb : Below w.heap.size w W) => edgeOf_any n i k W (h.grown hb))
  have HXt := hide (fun (k j : Nat) (hk : k < N) (hj : j < N) W (hb : Below w.heap.size w W) => (hx.below hb (Nat.le_refl _)).at (r := k) (c := j) (by omega) (by rw [hxw k hk]; exact hj))
  have HXr := hide (fun (k j : Nat) (hk : k < N) (hj : j < N) W (hb : Below w.heap.size w W) => (hx.grown hb).rt k (by omega) j (by rw [hxw k hk]; exact hj))
  have HRt := hide (fun (k j : Nat) (hk : k < N) (hj : j < N) => (his.state k j (by omega) (by omega)).right)
  have HEx0 := hide (fun (F : Int) (en k j : Nat) (he : en < n.a.E.t.len) (hk : k < N) (hj : j < N) W (hb : Below w.heap.size w W) => extendOf_any n F en (x.R k j) W (h.grown hb) hck (HXr.out k j hk hj W hb) (HRt.out k j hk hj) (by have := Net.Right.short g (HRt.out k j hk hj) (r := x.R k j); omega) he)
  have HBs0 := hide (fun (a b : RtM) W (hb : Below w.heap.size w W) (hIa : a.In W.heap.size W) (hIb : b.In W.heap.size W) (hRa : n.net.Right a.rt) (hRb : n.net.Right b.rt) => bestOf_any n a b W (h.grown hb) hck hIa hIb hRa hRb)
  have HPo := hide (fun (i j : Nat) (hi : i < N) (hj : j < N) => n.net.pout_spec g (f := fun k => x.t.Z k j) (fun k hk => (his.state k j hk (by omega)).right) (i := i) (by omega) j)
  have Hedl : Hid (∀ i k : Nat, 0 ≤ n.net.edge i k → n.net.edge i k < n.a.E.t.len) := hide (fun i k _ => n.net.edge_lt g i k)
  have Hpc := hide (fun (i j k : Nat) (hi : i < N) (hj : j < N) (hk : k < N) (he : 0 ≤ n.net.edge i k) => n.net.pcand g (f := fun k => x.t.Z k j) (fun k hk => (his.state k j hk (by omega)).right) (i := i) (k := k) (by omega) (by omega) he)
  have Hpr : Hid (∀ i j, n.net.pround x.t.Z i j = n.net.pout i j (fun k => x.t.Z k j) N) := hide (fun i j => by rw [← hNN]; rfl)
  have HNN := hide hNN
  have Hval := hide hval
  have Hxl := hide hxl
  have Hxw := hide hxw
  have Hga := hide hga
  simp only [RMat.val, hga, hxl]
  rw [hval] at HEd HEx0 HBs0 ⊢
  obtain ⟨W0, hW0⟩ : ∃ W0, W0 = w.alloc (.cells #[.int .i64 n.a.size, .slice n.a.B.ga n.a.B.t.len n.a.B.cap, .slice n.a.E.ga n.a.E.t.len n.a.E.cap, .int .i64 N, .slice n.la n.ln n.lc] 41) := ⟨_, rfl⟩
  have B0 : Hid (Below w.heap.size w W0) := hide (by rw [hW0]; exact (Below.refl _ w).alloc (Nat.le_refl _) _)
  have Hb0 : Hid (Blk W0 w.heap.size #[.int .i64 n.a.size, .slice n.a.B.ga n.a.B.t.len n.a.B.cap, .slice n.a.E.ga n.a.E.t.len n.a.E.cap, .int .i64 N, .slice n.la n.ln n.lc] 41) := hide (by rw [hW0]; exact Blk.new w _ _)
  clear hN hcells hval h hck hNN lo hi6 g hx his hxl hxw hga
  go_enter Try.func44, Try.ntmps44
  go_wp2_with fail
  rw [← hW0]
  clear hW0
  go_loopw [5, 6, 7, 8, 9, 10, 11] (fun s q _ _ _ _ _ wr => ∃ i : Nat, i ≤ N ∧ q = .int .i64 i ∧ Hid (OwnTabR W0.heap.size wr.heap.size s i N (n.net.pround x.t.Z) wr) ∧ Hid (Below W0.heap.size W0 wr)) (fun _ q _ _ _ _ _ _ => N - (intOf q).toNat)
  case atStart => exact ⟨0, Nat.zero_le _, rfl, hide (OwnTabR.nil _ _ _ _ _), hide (Below.refl _ _)⟩
  case round =>
    obtain ⟨i, hi, rfl, HT, HB⟩ := hrel
    have bN := Hb0.out.below HB.out Hb0.out.lt
    have x3 := bN.cell 3
    simp at x3
    by_cases hlt : i < N
    rotate_left
    · have hin : i = N := by omega
      subst hin
      have hii : (i : Int) ≤ (i : Int) := Int.le_refl _
      obtain ⟨m, e1, e2⟩ := HT.out.mat (by omega) hN1 (Nat.le_refl _)
      have He := hide e1
      have HF : Hid (FreshR n.net.N (n.net.pround x.t.Z) m wr) := hide (by rw [HNN.out]; exact e2)
      have HBw := hide (B0.out.trans (HB.out.mono B0.out.size))
      clear e1 e2 HT bN
      go_wp2
      go_ret
      exact ⟨⟨m, congrArg Ending.returned He.out, HF.out⟩, HBw.out⟩
    have hii : (i : Int) < (N : Int) := by omega
    obtain ⟨Vo, hVo⟩ : ∃ Vo, Vo = u5 := ⟨_, rfl⟩
    obtain ⟨H, hH⟩ : ∃ H, H = wr.heap.size := ⟨_, rfl⟩
    have HI0 : Hid (RpJ W0 N (n.net.pround x.t.Z) Vo i H (.slice none 0 0) 0 wr) := hide (by
      rw [hVo, hH]
      exact ⟨HB.out, HT.out, HB.out.size, Nat.le_refl _, [], rfl, World.ownsRow_nil wr _ _ 2, fun c hc => absurd hc (Nat.not_lt_zero _)⟩)
    clear HT HB bN
    go_wp2_with fail
    rw [← hVo]
    clear hVo hH x3
    go_loopw [7, 8, 9, 10, 11] (fun s q _ _ _ wr => ∃ j : Nat, j ≤ N ∧ q = .int .i64 j ∧ Hid (RpJ W0 N (n.net.pround x.t.Z) Vo i H s j wr)) (fun _ q _ _ _ _ => N - (intOf q).toNat)
    case atStart => exact ⟨0, Nat.zero_le _, rfl, HI0⟩
    case round =>
      clear HI0
      obtain ⟨j, hj, rfl, HJ⟩ := hrel
      have bN := Hb0.out.below HJ.out.below Hb0.out.lt
      have x3 := bN.cell 3
      have x0 := bN.cell 0
      simp at x3 x0
      by_cases hjl : j < N
      rotate_left
      · have hjn : j = N := by omega
        have hji : (N : Int) ≤ (j : Int) := by omega
        subst hjn
        obtain ⟨l0, hl0, hown0, _⟩ := HJ.out.row
        obtain ⟨gn, cn, rfl, _, hgl⟩ := hown0.form (by omega)
        have hJ1 := HJ.out.keep ((Below.refl _ wr).alloc (Nat.le_refl _) (.cells #[.slice (some ⟨gn, 0, none⟩) j cn] 94))
        obtain ⟨g0, c0, L0, k1, k2, k3⟩ := hJ1.tab
        have Hk1 := hide k1
        have hHi := HJ.out.hi
        have hlo := HJ.out.lo
        have hsz := HJ.out.below.size
        clear hown0 hl0 hgl k1 k3 hJ1
        go_wp2_with (at_builtin; refine wpList_append_lies _ rfl _ _ _ rfl W0.heap.size 94 i2 _ 1 24 Try.underlying83 hi2 hx0 hx1 hx2 rfl (by decide) _ i _ rfl Hk1.out ⟨wr.heap.size, 0, none⟩ 1 1 [.slice (some ⟨gn, 0, none⟩) j cn] rfl rfl ?c1 ?c2 (by decide) ?c3 ?c4 ?c5 _ rfl ?_)
        all_goals try (case c1 => exact World.news_of_block (Blk.new' (by simp)))
        all_goals try (case c2 => simp [Value.oneCell'])
        all_goals try (case c3 => unfold maxLen; omega)
        all_goals try (case c4 => omega)
        all_goals try (case c5 => simp; omega)
        intro g' cap' w2 hown2 hgrow hat2 hlt2
        have HT2 : Hid (OwnTabR W0.heap.size w2.heap.size (.slice (some ⟨g', 0, none⟩) (i + 1) cap') (i + 1) j (n.net.pround x.t.Z) w2) := hide (HJ.out.rowDoneW ((Below.refl _ wr).alloc (Nat.le_refl _) _) Hk1.out hown2 hgrow (by simpa using hat2) hlt2)
        have HB2 := hide ((HJ.out.below.alloc HJ.out.below.size _).trans (grown_below hgrow (fun q hq => (Hk1.out.lt q hq).1) (by simp; omega)))
        clear hown2 hgrow hat2 hlt2 Hk1 HJ bN
        go_wp2
        go_roundw
        case rel =>
          first
          | exact ⟨i + 1, by omega, by go_num, HT2, HB2⟩
          | ((repeat apply Exists.intro); refine ⟨?_, rfl⟩; exact ⟨i + 1, by omega, by go_num, HT2, HB2⟩)
        case measure => simp [intOf]; omega
      have hji : (j : Int) < (N : Int) := by omega
      obtain ⟨Vr, hVr⟩ : ∃ Vr, Vr = u7 := ⟨_, rfl⟩
      rw [← hVr] at HJ
      obtain ⟨Wj, hWj⟩ : ∃ Wj, Wj = wr := ⟨wr, rfl⟩
      have HJw : Hid (RpJ W0 N (n.net.pround x.t.Z) Vo i H Vr j Wj) := by rw [hWj]; exact HJ
      have HBj : Hid (∀ W, Below Wj.heap.size Wj W → Below w.heap.size w W) := hide (fun W hb => B0.out.trans ((HJw.out.below.trans (hb.mono HJw.out.below.size)).mono B0.out.size))
      have HbN : Hid (∀ W, Below Wj.heap.size Wj W → Blk W w.heap.size #[.int .i64 n.a.size, .slice n.a.B.ga n.a.B.t.len n.a.B.cap, .slice n.a.E.ga n.a.E.t.len n.a.E.cap, .int .i64 N, .slice n.la n.ln n.lc] 41) := hide (fun W hb => (Hb0.out.below HJw.out.below Hb0.out.lt).below hb (Nat.lt_of_lt_of_le Hb0.out.lt HJw.out.below.size))
      obtain ⟨rb, hrb⟩ : ∃ rb, rb = Wj.heap.size := ⟨_, rfl⟩
      have Hrb := hide hrb
      clear HJ bN
      have key : (i = j ∧ Hid (RpK (n.net.pout i j (fun k => x.t.Z k j) 0) Wj rb ((wr.alloc (.cells #[.int .i64 0, .slice (some ⟨wr.heap.size + 1, 0, none⟩) 1 1] 71)).alloc (.cells #[.int .i64 (i : Int)] 3)))) ∨ (i ≠ j ∧ Hid (RpK (n.net.pout i j (fun k => x.t.Z k j) 0) Wj rb (wr.alloc (.cells #[.int .i64 (n.a.size - 1), .slice none 0 0] 71)))) := by
        by_cases e : i = j
        · refine Or.inl ⟨e, hide ?_⟩
          rw [hrb, ← hWj]
          have bi : Blk ((Wj.alloc (.cells #[.int .i64 0, .slice (some ⟨Wj.heap.size + 1, 0, none⟩) 1 1] 71)).alloc (.cells #[.int .i64 (i : Int)] 3)) (Wj.heap.size + 1) #[.int .i64 (i : Int)] 3 := Blk.new' (by simp)
          refine RpK.start (f := fun _ => (i : Int)) (b := Wj.heap.size + 1) i j Wj (((Below.refl _ Wj).alloc (Nat.le_refl _) _).alloc (by simp) _) ((Blk.new Wj _ _).alloc _) ⟨fun _ => rfl, fun c hc => ?_, by unfold maxLen; omega⟩ (fun _ => ⟨by omega, bi.lt⟩) ?_
          · obtain rfl : c = 0 := by omega
            exact bi.cell 0
          · unfold Net.ownR; rw [if_pos e]; rfl
        · refine Or.inr ⟨e, hide ?_⟩
          rw [hrb, ← hWj]
          refine RpK.start (f := fun _ => 0) (b := 0) i j Wj ((Below.refl _ Wj).alloc (Nat.le_refl _) _) (Blk.new Wj _ _) ⟨fun h => absurd h (Nat.lt_irrefl _), fun _ h => absurd h (Nat.not_lt_zero _), Nat.zero_le _⟩ (fun h => absurd h (Nat.lt_irrefl _)) ?_
          unfold Net.ownR; rw [if_neg e]; rfl
      rw [hWj] at hrb
      rcases key with ⟨hij, HK0⟩ | ⟨hij, HK0⟩
      all_goals
        first
        | (have hij' : ((i : Int) == (j : Int)) = true := by simp [hij])
        | (have hij' : ((i : Int) == (j : Int)) = false := by simp; omega)
        clear hij
        go_wp2_with fail
        (try rw [← hrb] at HK0)
        rw [← hrb]
        rw [← hVr]
        clear hVr hWj hrb x3 x0
        go_loopw [10, 11] (fun q _ wr => ∃ k : Nat, k ≤ N ∧ q = .int .i64 k ∧ Hid (RpK (n.net.pout i j (fun k => x.t.Z k j) k) Wj rb wr)) (fun q _ _ => N - (intOf q).toNat)
        case atStart => exact ⟨0, Nat.zero_le _, rfl, HK0⟩
        case round =>
          clear HK0
          obtain ⟨k, hk, rfl, HK⟩ := hrel
          have bN := HbN.out wr HK.out.below
          have x0 := bN.cell 0
          have x1 := bN.cell 1
          have x2 := bN.cell 2
          have x3 := bN.cell 3
          have x4 := bN.cell 4
          simp at x0 x1 x2 x3 x4
          by_cases hkl : k < N
          rotate_left
          · have hkn : k = N := by omega
            have hki : (N : Int) ≤ (k : Int) := by omega
            subst hkn
            obtain ⟨r, hob, h1, h2, h3⟩ := HK.out.out
            have o0 := hob.cell 0
            have o1 := hob.cell 1
            simp [RtM.cells] at o0 o1
            have hJ1 := HJw.out.keep HK.out.below
            obtain ⟨l, hl, hown, hls⟩ := hJ1.row
            have Hown := hide hown
            have Hls := hide hls
            have hHi := hJ1.hi
            have hlo := hJ1.lo
            have hVlt : ∀ q, Vr.ownBlock = some q → H ≤ q ∧ q < Wj.heap.size := fun q hq => by
              obtain ⟨_, _, hw, _⟩ := HJw.out.row
              exact hw.lt q hq
            have HVlt := hide hVlt
            have HJ1 := hide hJ1
            have Hr3 := hide h3
            have Hr1 := hide h1
            have Hr2 : Hid (r.rt = n.net.pround x.t.Z i j) := hide (by rw [Hpr.out]; exact h2)
            have hHw : H ≤ Wj.heap.size := HJw.out.hi
            clear hob h1 h2 h3 hJ1 hown hls hVlt bN x0 x1 x2 x4
            go_wp2_with (at_builtin; refine wpList_append_lies _ rfl _ _ _ rfl H 71 i1 _ 2 32 Try.underlying94 hi1 hy0 hy1 hy2 rfl (by decide) _ j _ rfl (Hown.out.alloc _) ⟨wr.heap.size, 0, none⟩ 1 1 [.int .i64 r.w, .slice r.pa r.l r.q] rfl rfl ?c1 ?c2 (by decide) ?c3 ?c4 ?c5 _ rfl ?_)
            all_goals try (case c1 => exact World.news_of_block (Blk.new' (by simp)))
            all_goals try (case c2 => simp [Value.oneCell'])
            all_goals try (case c3 => unfold maxLen; omega)
            all_goals try (case c4 => omega)
            all_goals try (case c5 => simp; omega)
            intro g' cap' w2 hown2 hgrow hat2 hlt2
            have HJn : Hid (RpJ W0 k (n.net.pround x.t.Z) Vo i H (.slice (some ⟨g', 0, none⟩) (j + 1) cap') (j + 1) w2) := hide (HJ1.out.push ((Below.refl _ wr).alloc (Nat.le_refl _) _) Hr1.out Hr2.out (fun h0 => ⟨by have := (Hr3.out h0).1; omega, fun e => by have := (HVlt.out _ e).2; have := (Hr3.out h0).1; omega⟩) hl Hls.out (fun q hq => (HVlt.out q hq).1) hown2 hgrow (by simpa using hat2))
            clear hown2 hgrow hat2 hlt2 Hown Hls HJ1 Hr1 Hr2 Hr3 HVlt o0 o1 x3
            go_wp2
            go_roundw
            case rel =>
              first
              | exact ⟨j + 1, by omega, by go_num, HJn⟩
              | ((repeat apply Exists.intro); refine ⟨?_, rfl⟩; exact ⟨j + 1, by omega, by go_num, HJn⟩)
            case measure => simp [intOf]; omega
          have hki : (k : Int) < (N : Int) := by omega
          have HE1 := hide (HEd.out i k wr (HBj.out wr HK.out.below))
          have Hpn : Hid (n.net.pout i j (fun k => x.t.Z k j) (k + 1) = if 0 ≤ n.net.edge i k then n.net.bestR (n.net.pout i j (fun k => x.t.Z k j) k) (n.net.ext i (n.net.edge i k) (x.t.Z k j)) else n.net.pout i j (fun k => x.t.Z k j) k) := hide rfl
          have HKa := hide (HK.out.keep ((Below.refl _ wr).alloc (Nat.le_refl _) (.cells n.cells 41)))
          by_cases hed : 0 ≤ n.net.edge i k
          rotate_left
          · have hed' : ¬ ((0 : Int) ≤ n.net.edge i k) := hed
            have Hn : Hid (RpK (n.net.pout i j (fun k => x.t.Z k j) (k + 1)) Wj rb (wr.alloc (.cells n.cells 41))) := hide (by rw [Hpn.out, if_neg hed]; exact HKa.out)
            generalize n.net.edge i k = ed at *
            clear HK HKa Hpn hed bN
            go_wp2_with fail
            go_at_call 108
            refine HE1.out.mono ?_
            rintro e w2 ⟨rfl, rfl⟩
            go_wp2
            go_roundw
            case rel =>
              first
              | exact ⟨k + 1, by omega, by go_num, Hn⟩
              | ((repeat apply Exists.intro); refine ⟨?_, rfl⟩; exact ⟨k + 1, by omega, by go_num, Hn⟩)
            case measure => simp [intOf]; omega
          obtain ⟨ke, hke⟩ : ∃ ke : Nat, n.net.edge i k = ke := ⟨(n.net.edge i k).toNat, by omega⟩
          have hke8 : ke < n.a.E.t.len := by have := Hedl.out i k hed; omega
          have Hn : Hid (n.net.pout i j (fun k => x.t.Z k j) (k + 1) = n.net.bestR (n.net.pout i j (fun k => x.t.Z k j) k) (n.net.ext i ke (x.t.Z k j))) := hide (by rw [Hpn.out, if_pos hed, hke])
          have Hrx := hide (HPo.out i j hlt hjl k (by have := HNN.out; omega)).1
          have Hrz := hide (Hpc.out i j k hlt hjl hkl hed)
          rw [hke] at Hrz HE1
          have HEx := hide (fun W (hb : Below Wj.heap.size Wj W) => HEx0.out i ke k j hke8 hkl hjl W (HBj.out W hb))
          have HBs := hide (fun (a b : RtM) W (hb : Below Wj.heap.size Wj W) => HBs0.out a b W (HBj.out W hb))
          have HXa : Hid (∀ W, Below Wj.heap.size Wj W → W.cell? ⟨x.gb, x.go + k, none⟩ = some (.slice (some ⟨x.RB k, x.RO k, none⟩) N (x.C k)) ∧ W.cell? ⟨x.RB k, x.RO k + j * 2, none⟩ = some (.int .i64 (x.R k j).w) ∧ W.cell? ⟨x.RB k, x.RO k + j * 2 + 1, none⟩ = some (.slice (x.R k j).pa (x.R k j).l (x.R k j).q) ∧ True) := hide (fun W hb => by
            obtain ⟨_, a1, a2, a3⟩ := HXt.out k j hkl hjl W (HBj.out W hb)
            rw [Hxw.out k hkl] at a1
            exact ⟨a1, a2, a3, trivial⟩)
          have Hxr : Hid ((x.R k j).rt = x.t.Z k j) := hide rfl
          have hkei : ¬ ((ke : Int) < 0) := by omega
          have hkei' : (0 : Int) ≤ (ke : Int) := by omega
          rw [Hxr.out] at HEx
          generalize hpx : n.net.pout i j (fun k => x.t.Z k j) k = px at *
          generalize hpz : n.net.pout i j (fun k => x.t.Z k j) (k + 1) = pz at *
          generalize n.net.ext i ke (x.t.Z k j) = ez at *
          have Hpz := hide hpz
          simp only [RtM.val, RtM.cells] at HEx
          clear HK Hpn hed hke bN hpx hpz HEd HXt HXr HRt HEx0 HBs0 HPo Hedl Hpc Hxr
          go_wp2_with fail
          go_at_call 108
          refine HE1.out.mono ?_
          rintro e w2 ⟨rfl, rfl⟩
          obtain ⟨We, hWe⟩ : ∃ We, We = wr.alloc (.cells n.cells 41) := ⟨_, rfl⟩
          rw [← hWe] at HKa ⊢
          clear hWe x0 x1 x2 x3 x4
          go_wp2_with fail
          refine wp_region_last 14 _ (fun W => RpK px Wj rb W)
            (rpE [n.val, undef, n.val, .int .i64 i, .int .i64 (ke : Int), .slice (some ⟨x.gb, x.go, none⟩) N x.cap, .int .i64 k, .pointer (some ⟨x.gb, x.go + k, none⟩), .slice (some ⟨x.RB k, x.RO k, none⟩) N (x.C k), .int .i64 j, .pointer (some ⟨x.RB k, x.RO k + j * 2, none⟩), (x.R k j).val] px ez (n.net.bestR px ez) Wj.heap.size rb)
            (fun _ W => RpK pz Wj rb W) (fun _ _ _ => True) (by kernel_rfl) (by kernel_rfl) (by kernel_rfl) (by kernel_rfl) (by kernel_rfl) rfl (HKa.out.keep (below_drewN (Below.refl _ _) 1)) ⟨?_, ?_, ?_, ?_, ?_, ?_, ?_, ?_, ?_, ?_, ?_, ?_, ?_, ?_, trivial⟩ ?_ trivial ?_
          rotate_right
          · intro t W hG _
            have HG : Hid (RpK (n.net.pout i j (fun k => x.t.Z k j) (k + 1)) Wj rb W) := hide (by rw [Hpz.out]; exact hG)
            clear hG HEx HBs HXa
            simp only [fill, Act.put, List.setIfInBounds_toArray, List.set_cons_zero, List.set_cons_succ]
            go_wp2
            go_roundw
            case rel =>
              first
              | exact ⟨k + 1, by omega, by go_num, HG⟩
              | ((repeat apply Exists.intro); refine ⟨?_, rfl⟩; exact ⟨k + 1, by omega, by go_num, HG⟩)
            case measure => simp [intOf]; omega
          rotate_right
          · intro t W hG hE _ K hK
            simp only [fill, Act.put, List.setIfInBounds_toArray, List.set_cons_zero, List.set_cons_succ] at hK ⊢
            rw [if_pos (by rfl)]
            obtain ⟨r, e13, h1, h2, h3⟩ := hE 13 (by omega)
            obtain ⟨ro, hob, _, _, _⟩ := hG.out
            have o0 := hob.cell 0
            have o1 := hob.cell 1
            have f0 := hob.frozen 0
            have f1 := hob.frozen 1
            simp [RtM.cells] at o0 o1
            have hN' := hide (hG.put h1 (h2.trans Hn.out.symm) h3)
            clear hob hG hE h1 h2 h3
            simp only [e13, RtM.val, RtM.cells] at hK ⊢
            go_simp
            exact hK undef _ hN'.out
          all_goals intro t W hG hp _ K hK
          all_goals simp only [fill, Act.put, List.setIfInBounds_toArray, List.set_cons_zero, List.set_cons_succ] at hK ⊢
          · have bN := HbN.out W hG.below
            have x0 := bN.cell 0
            have x1 := bN.cell 1
            have x2 := bN.cell 2
            have x3 := bN.cell 3
            have x4 := bN.cell 4
            simp at x0 x1 x2 x3 x4
            rw [if_pos (by rfl)]
            go_simp
            exact hK _ W hG (by show some n.val = some _; rw [Hval.out]) (fun _ _ _ h => h)
          · obtain ⟨r, hob, h1, h2, h3⟩ := hG.out
            have x0 := hob.cell 0
            have x1 := hob.cell 1
            simp [RtM.cells] at x0 x1
            rw [if_pos (by rfl)]
            go_simp
            exact hK _ W hG ⟨r, rfl, h1, h2, h3⟩ (fun _ _ _ h => h)
          · have bN := HbN.out W hG.below
            have x0 := bN.cell 0
            have x1 := bN.cell 1
            have x2 := bN.cell 2
            have x3 := bN.cell 3
            have x4 := bN.cell 4
            simp at x0 x1 x2 x3 x4
            rw [if_pos (by rfl)]
            go_simp
            exact hK _ W hG (by show some n.val = some _; rw [Hval.out]) (fun _ _ _ h => h)
          · rw [if_pos (by rfl)]
            go_simp
            exact hK _ W hG rfl (fun _ _ _ h => h)
          · rw [if_pos (by rfl)]
            go_simp
            exact hK _ W hG rfl (fun _ _ _ h => h)
          · rw [if_pos (by rfl)]
            go_simp
            exact hK _ W hG rfl (fun _ _ _ h => h)
          · rw [if_pos (by rfl)]
            go_simp
            exact hK _ W hG rfl (fun _ _ _ h => h)
          · have e5 := rpE_get (hp 5 (by decide)) (by decide) rfl
            have e6 := rpE_get (hp 6 (by decide)) (by decide) rfl
            simp only [e5, e6] at hK ⊢
            rw [if_pos (by rfl)]
            go_simp
            exact hK _ W hG rfl (fun _ _ _ h => h)
          · have e7 := rpE_get (hp 7 (by decide)) (by decide) rfl
            have x1 := (HXa.out W hG.below).1
            simp only [e7] at hK ⊢
            rw [if_pos (by rfl)]
            go_simp
            exact hK _ W hG rfl (fun _ _ _ h => h)
          · rw [if_pos (by rfl)]
            go_simp
            exact hK _ W hG rfl (fun _ _ _ h => h)
          · have e8 := rpE_get (hp 8 (by decide)) (by decide) rfl
            have e9 := rpE_get (hp 9 (by decide)) (by decide) rfl
            simp only [e8, e9] at hK ⊢
            rw [if_pos (by rfl)]
            go_simp
            exact hK _ W hG rfl (fun _ _ _ h => h)
          · have e10 := rpE_get (hp 10 (by decide)) (by decide) rfl
            have x2 := (HXa.out W hG.below).2.1
            have x3 := (HXa.out W hG.below).2.2.1
            simp only [e10] at hK ⊢
            rw [if_pos (by rfl)]
            go_simp
            exact hK _ W hG rfl (fun _ _ _ h => h)
          · have e2 := rpE_get (hp 2 (by decide)) (by decide) rfl
            have e3 := rpE_get (hp 3 (by decide)) (by decide) rfl
            have e4 := rpE_get (hp 4 (by decide)) (by decide) rfl
            have e11 := rpE_get (hp 11 (by decide)) (by decide) rfl
            rw [Hval.out] at e2
            simp only [RtM.val, RtM.cells] at e11
            simp only [e2, e3, e4, e11] at hK ⊢
            rw [if_pos (by rfl)]
            go_simp
            go_at_call 38
            refine (HEx.out W hG.below).mono ?_
            rintro e W' ⟨⟨r', rfl, hm⟩, hb⟩
            go_simp
            have hlt2 : rb < W.heap.size := by obtain ⟨ro, hob, _⟩ := hG.out; exact hob.lt
            exact hK _ W' (hG.keep hb) ⟨r', rfl, hm.mem, hm.same, fun h0 => by have := hm.own h0; have := hG.below.size; omega⟩ (fun q u _ => rpE.keep hb q u)
          · have e0 := rpE_get (hp 0 (by decide)) (by decide) rfl
            obtain ⟨r1, e1, a1, a2, a3⟩ := hp 1 (by decide)
            obtain ⟨r2, e12, b1, b2, b3⟩ := hp 12 (by decide)
            simp only [RtM.val, RtM.cells] at e1 e12
            rw [Hval.out] at e0
            simp only [e1, e12] at hK ⊢
            simp only [e0] at hK ⊢
            rw [if_pos (by rfl)]
            have hX := HBs.out r1 r2 W hG.below a1 b1 (by rw [a2]; exact Hrx.out) (by rw [b2]; exact Hrz.out)
            simp only [RtM.val, RtM.cells] at hX hK ⊢
            go_simp
            go_at_call 36
            refine hX.mono ?_
            rintro e W' ⟨⟨r3, rfl, hr3, hz3⟩, hb⟩
            go_simp
            exact hK _ W' (hG.keep hb) ⟨r3, rfl, by rcases hr3 with rfl | rfl <;> first | exact a1.grown hb | exact b1.grown hb, by rw [hz3, a2, b2], by rcases hr3 with rfl | rfl <;> first | exact a3 | exact b3⟩ (fun q u _ => rpE.keep hb q u)

end Go.Proofs.Ytjhkadffaephmab

/-
  signpostref.SameRoute, SamePaths.
-/
namespace Go.Proofs.Ytjhkadffaephmab
set_option maxRecDepth 100000
open Go.RowKit

set_option maxHeartbeats 1000000 in
theorem sameRoute_any (a b : RtM) (w : World) (ha : a.In w.heap.size w) (hb : b.In w.heap.size w) :
    Calls Try.prog 101 #[a.val, b.val] w fun e w' => e = .returned (.bool (a.rt.same b.rt)) ∧ Below w.heap.size w w' := by
  obtain ⟨W1, hW1⟩ : ∃ W1, W1 = (w.alloc (.cells a.cells 71)).alloc (.cells b.cells 71) := ⟨_, rfl⟩
  have hB1 : Below w.heap.size w W1 := by rw [hW1]; exact ((Below.refl _ w).alloc (Nat.le_refl _) _).alloc (by simp) _
  have HS := hide (sameInts_any a.pa b.pa a.l b.l a.q b.q a.b a.o b.b b.o a.f b.f W1 (ha.below hB1 (Nat.le_refl _)).ints (hb.below hB1 (Nat.le_refl _)).ints)
  have Hsm := hide (Rt.same_rt a b)
  generalize a.rt.same b.rt = sm at *
  generalize sameInts a.l b.l a.f b.f = si at *
  have HB1 := hide hB1
  rw [hW1] at HS HB1
  simp only [RtM.val, RtM.cells] at HS HB1 ⊢
  clear hB1 hW1 ha hb
  by_cases hw : a.w = b.w
  · have hw' : (a.w == b.w) = true := by simp [hw]
    have Hr : Hid (sm = si) := hide (by rw [Hsm.out, hw', Bool.true_and])
    clear hw Hsm
    go_enter Try.func101, Try.ntmps101
    go_wp2_with fail
    go_at_call 58
    refine HS.out.mono ?_
    rintro e w2 ⟨rfl, z, rfl⟩
    have HB2 := hide (below_drewN HB1.out z)
    clear HS HB1
    go_wp2
    go_ret
    exact ⟨by rw [Hr.out]; rfl, HB2.out⟩
  · have hw' : (a.w == b.w) = false := by simp [hw]
    have Hr : Hid (sm = false) := hide (by rw [Hsm.out, hw', Bool.false_and])
    clear hw Hsm HS
    go_enter Try.func101, Try.ntmps101
    go_wp2
    go_ret
    exact ⟨by rw [Hr.out]; rfl, HB1.out⟩

set_option maxHeartbeats 4000000 in
theorem samePaths_any (x y : RMat) (w : World) (hx : x.In w.heap.size w) (hy : y.In w.heap.size w) :
    Calls Try.prog 47 #[x.val, y.val] w fun e w' => e = .returned (.bool (x.t.same y.t)) ∧ Below w.heap.size w w' := by
  have hl1 := hx.tall
  have hl2 := hy.tall
  unfold maxLen at hl1 hl2
  have HX := hide hx
  have HY := hide hy
  simp only [RMat.val]
  clear hx hy
  by_cases hl : x.len = y.len
  rotate_left
  · have hne : ((x.len : Int) != (y.len : Int)) = true := by simp; omega
    have Hw : Hid (x.t.same y.t = false) := hide (by
      cases e : x.t.same y.t with
      | false => rfl
      | true => exact absurd (RTab.same_iff.1 e).1 hl)
    clear hl
    go_enter Try.func47, Try.ntmps47
    go_wp2
    go_ret
    exact ⟨by rw [Hw.out]; rfl, Below.refl _ _⟩
  have Hl := hide hl
  have hne : ((x.len : Int) != (y.len : Int)) = false := by simp [hl]
  clear hl
  go_enter Try.func47, Try.ntmps47
  go_wp2_with fail
  go_loopw [5, 6] (fun q _ wr => ∃ k : Nat, k ≤ x.len ∧ q = .int .i64 k ∧ Hid (∀ r, r < k → rowSame (x.L r) (y.L r) (fun c => (x.R r c).rt) (fun c => (y.R r c).rt) = true) ∧ Hid (Below w.heap.size w wr)) (fun q _ _ => x.len - (intOf q).toNat)
  case atStart => exact ⟨0, Nat.zero_le _, rfl, hide (fun r hr => absurd hr (Nat.not_lt_zero _)), hide (Below.refl _ _)⟩
  case round =>
    obtain ⟨k, hk, rfl, Hall, HD⟩ := hrel
    by_cases hlt : k < x.len
    rotate_left
    · have hki : (x.len : Int) ≤ (k : Int) := by omega
      have Hw : Hid (x.t.same y.t = true) := hide (RTab.same_true (s := x.t) (t := y.t) Hl.out (fun i hi => Hall.out i (by have : i < x.len := hi; omega)))
      go_wp2
      go_ret
      exact ⟨by rw [Hw.out]; rfl, HD.out⟩
    have hlt2 : k < y.len := by have := Hl.out; omega
    have ha1 := HX.out.ga (by omega)
    have ha2 := HY.out.ga (by omega)
    have hc1 := (HX.out.below HD.out (Nat.le_refl _)).row k hlt
    have hc2 := (HY.out.below HD.out (Nat.le_refl _)).row k hlt2
    have hki : (k : Int) < (x.len : Int) := by omega
    have hki2 : (k : Int) < (y.len : Int) := by omega
    have hm1 := HX.out.lens k hlt
    have hm2 := HY.out.lens k hlt2
    unfold maxLen at hm1 hm2
    have Hwf : Hid (rowSame (x.L k) (y.L k) (fun c => (x.R k c).rt) (fun c => (y.R k c).rt) = false → x.t.same y.t = false) := hide (fun e => RTab.same_false (s := x.t) (t := y.t) hlt e)
    by_cases hL : x.L k = y.L k
    rotate_left
    · have hL' : ((x.L k : Int) != (y.L k : Int)) = true := by simp; omega
      have Hr := hide (Hwf.out (by simp [rowSame, hL]))
      clear hL Hwf
      go_wp2_with fail
      go_quiet (fail)
      go_wp2
      go_ret
      exact ⟨by rw [Hr.out]; rfl, below_drewN HD.out _⟩
    have hL' : ((x.L k : Int) != (y.L k : Int)) = false := by simp [hL]
    have HL := hide hL
    clear hL
    go_wp2_with fail
    go_quiet (fail)
    have HD1 : Hid (∀ z, Below w.heap.size w (wr.drewN z)) := hide (fun z => below_drewN HD.out z)
    go_wp2_with fail
    clear hc1 hc2 HD
    go_loopw [6] (fun q wr => ∃ c : Nat, c ≤ x.L k ∧ q = .int .i64 c ∧ Hid (∀ c', c' < c → (x.R k c').rt = (y.R k c').rt) ∧ Hid (Below w.heap.size w wr)) (fun q _ => x.L k - (intOf q).toNat)
    case atStart => exact ⟨0, Nat.zero_le _, rfl, hide (fun r hr => absurd hr (Nat.not_lt_zero _)), hide (HD1.out _)⟩
    case round =>
      obtain ⟨c, hc, rfl, Hrow, HD⟩ := hrel
      clear HD1
      have hc1 := (HX.out.below HD.out (Nat.le_refl _)).row k hlt
      by_cases hcl : c < x.L k
      · have hci : (c : Int) < (x.L k : Int) := by omega
        have hcl2 : c < y.L k := by have := HL.out; omega
        have hci2 : (c : Int) < (y.L k : Int) := by omega
        have HXa := hide (fun W (hb : Below w.heap.size w W) => (HX.out.below hb (Nat.le_refl _)).at hlt hcl)
        have HYa := hide (fun W (hb : Below w.heap.size w W) => (HY.out.below hb (Nat.le_refl _)).at hlt2 hcl2)
        have HS1 := hide (fun W (hb : Below w.heap.size w W) => sameRoute_any (x.R k c) (y.R k c) W ((HX.out.grown hb).rt k hlt c hcl) ((HY.out.grown hb).rt k hlt2 c hcl2))
        have Hrn : Hid ((x.R k c).rt.same (y.R k c).rt = true → ∀ c', c' < c + 1 → (x.R k c').rt = (y.R k c').rt) := hide (fun e c' hc' => by
          by_cases e1 : c' = c
          · subst e1; exact Rt.same_iff.1 e
          · exact Hrow.out c' (by omega))
        have Hrf : Hid ((x.R k c).rt.same (y.R k c).rt = false → x.t.same y.t = false) := hide (fun e => Hwf.out (rowSame_false hcl e))
        generalize (x.R k c).rt.same (y.R k c).rt = sm at *
        simp only [RtM.val, RtM.cells] at HS1
        have Ha1 := hide ha1
        have Ha2 := hide ha2
        go_wp2_with fail
        (try rw [ha1])
        (try rw [ha2])
        clear ha1 ha2 hc1
        refine wp_region_only (fun W => Below w.heap.size w W) (valsE [.slice (some ⟨x.gb, x.go, none⟩) x.len x.cap, .int .i64 k, .pointer (some ⟨x.gb, x.go + k, none⟩), .slice (some ⟨x.RB k, x.RO k, none⟩) (x.L k) (x.C k), .int .i64 c, .pointer (some ⟨x.RB k, x.RO k + c * 2, none⟩), (x.R k c).val, .slice (some ⟨y.gb, y.go, none⟩) y.len y.cap, .int .i64 k, .pointer (some ⟨y.gb, y.go + k, none⟩), .slice (some ⟨y.RB k, y.RO k, none⟩) (y.L k) (y.C k), .int .i64 c, .pointer (some ⟨y.RB k, y.RO k + c * 2, none⟩), (y.R k c).val, .bool sm, .bool (!sm)]) (by kernel_rfl) (by kernel_rfl) (by kernel_rfl) (below_drewN HD.out 1) ⟨?_, ?_, ?_, ?_, ?_, ?_, ?_, ?_, ?_, ?_, ?_, ?_, ?_, ?_, ?_, ?_, trivial⟩ ?_
        rotate_right
        · intro t W hG hE
          have e15 := valsE_get (hE 15 (by decide)) rfl
          have HG' := hide hG
          clear hE hG
          simp only [fill, Act.put, List.setIfInBounds_toArray, List.set_cons_zero, List.set_cons_succ, e15]
          clear e15
          cases sm with
          | true =>
            have Hn := hide (Hrn.out (by trivial))
            clear HS1 HXa HYa Hrn Hrf
            go_wp2
            go_roundw
            case rel =>
              first
              | exact ⟨c + 1, by omega, by go_num, Hn, HG'⟩
              | ((try rw [← Ha1.out]); (try rw [← Ha2.out]); (repeat apply Exists.intro); refine ⟨?_, rfl⟩; exact ⟨c + 1, by omega, by go_num, Hn, HG'⟩)
            case measure => simp [intOf]; omega
          | false =>
            have Hr := hide (Hrf.out (by trivial))
            clear HS1 HXa HYa Hrn Hrf
            go_wp2
            go_ret
            exact ⟨by rw [Hr.out]; rfl, HG'.out⟩
        all_goals intro t W hG hp K hK
        all_goals simp only [fill, Act.put, List.setIfInBounds_toArray, List.set_cons_zero, List.set_cons_succ] at hK ⊢
        · rw [if_pos (by rfl)]
          go_simp
          exact hK _ W hG rfl (fun _ _ _ h => h)
        · rw [if_pos (by rfl)]
          go_simp
          exact hK _ W hG rfl (fun _ _ _ h => h)
        · have e0 := valsE_get (hp 0 (by decide)) rfl
          have e1 := valsE_get (hp 1 (by decide)) rfl
          simp only [e0, e1] at hK ⊢
          rw [if_pos (by rfl)]
          go_simp
          exact hK _ W hG rfl (fun _ _ _ h => h)
        · have e2 := valsE_get (hp 2 (by decide)) rfl
          have x1 := (HXa.out W hG).2.1
          simp only [e2] at hK ⊢
          rw [if_pos (by rfl)]
          go_simp
          exact hK _ W hG rfl (fun _ _ _ h => h)
        · rw [if_pos (by rfl)]
          go_simp
          exact hK _ W hG rfl (fun _ _ _ h => h)
        · have e3 := valsE_get (hp 3 (by decide)) rfl
          have e4 := valsE_get (hp 4 (by decide)) rfl
          simp only [e3, e4] at hK ⊢
          rw [if_pos (by rfl)]
          go_simp
          exact hK _ W hG rfl (fun _ _ _ h => h)
        · have e5 := valsE_get (hp 5 (by decide)) rfl
          have x2 := (HXa.out W hG).2.2.1
          have x3 := (HXa.out W hG).2.2.2
          simp only [e5] at hK ⊢
          rw [if_pos (by rfl)]
          go_simp
          exact hK _ W hG rfl (fun _ _ _ h => h)
        · rw [if_pos (by rfl)]
          go_simp
          exact hK _ W hG rfl (fun _ _ _ h => h)
        · rw [if_pos (by rfl)]
          go_simp
          exact hK _ W hG rfl (fun _ _ _ h => h)
        · have e7 := valsE_get (hp 7 (by decide)) rfl
          have e8 := valsE_get (hp 8 (by decide)) rfl
          simp only [e7, e8] at hK ⊢
          rw [if_pos (by rfl)]
          go_simp
          exact hK _ W hG rfl (fun _ _ _ h => h)
        · have e9 := valsE_get (hp 9 (by decide)) rfl
          have x1 := (HYa.out W hG).2.1
          simp only [e9] at hK ⊢
          rw [if_pos (by rfl)]
          go_simp
          exact hK _ W hG rfl (fun _ _ _ h => h)
        · rw [if_pos (by rfl)]
          go_simp
          exact hK _ W hG rfl (fun _ _ _ h => h)
        · have e10 := valsE_get (hp 10 (by decide)) rfl
          have e11 := valsE_get (hp 11 (by decide)) rfl
          simp only [e10, e11] at hK ⊢
          rw [if_pos (by rfl)]
          go_simp
          exact hK _ W hG rfl (fun _ _ _ h => h)
        · have e12 := valsE_get (hp 12 (by decide)) rfl
          have x2 := (HYa.out W hG).2.2.1
          have x3 := (HYa.out W hG).2.2.2
          simp only [e12] at hK ⊢
          rw [if_pos (by rfl)]
          go_simp
          exact hK _ W hG rfl (fun _ _ _ h => h)
        · have e6 := valsE_get (hp 6 (by decide)) rfl
          have e13 := valsE_get (hp 13 (by decide)) rfl
          simp only [RtM.val, RtM.cells] at e6 e13
          simp only [e6, e13] at hK ⊢
          rw [if_pos (by rfl)]
          go_simp
          go_at_call 101
          refine (HS1.out W hG).mono ?_
          rintro e W' ⟨rfl, hb⟩
          go_simp
          exact hK _ W' (hG.trans (hb.mono hG.size)) rfl (fun _ _ _ h => h)
        · have e14 := valsE_get (hp 14 (by decide)) rfl
          simp only [e14] at hK ⊢
          rw [if_pos (by rfl)]
          go_simp
          exact hK _ W hG rfl (fun _ _ _ h => h)
      · have hci : (x.L k : Int) ≤ (c : Int) := by omega
        have HAn : Hid (∀ r, r < k + 1 → rowSame (x.L r) (y.L r) (fun c => (x.R r c).rt) (fun c => (y.R r c).rt) = true) := hide (fun r hr => by
          by_cases e : r = k
          · subst e; exact rowSame_iff.2 ⟨HL.out, fun i hi => Hrow.out i (by omega)⟩
          · exact Hall.out r (by omega))
        go_wp2
        go_roundw
        case rel =>
          first
          | exact ⟨k + 1, by omega, by go_num, HAn, HD⟩
          | ((try rw [← ha1]); (try rw [← ha2]); (repeat apply Exists.intro); refine ⟨?_, rfl⟩; exact ⟨k + 1, by omega, by go_num, HAn, HD⟩)
        case measure => simp [intOf]; omega

end Go.Proofs.Ytjhkadffaephmab
