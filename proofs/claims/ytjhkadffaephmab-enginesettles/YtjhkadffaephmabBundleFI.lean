/-
  Our own texts, bundled: a claim holds few files.
-/
import Derived.Test.YtjhkadffaephmabBundleFH
import Derived.Test.YtjhkadffaephmabBundleBF
import Derived.Test.YtjhkadffaephmabBundleAJ
import Derived.Test.YtjhkadffaephmabBundleBG
/-
  An engine that is changed: where all of it lies, and what each store makes of it.
-/
namespace Go.Proofs.Ytjhkadffaephmab
set_option maxRecDepth 100000
open Go.RowKit

/-- Mail as cells. -/
def mailsL (l : List Mail) : List Value := l.flatMap fun m => [.int .i64 m.F, .int .i64 m.T, .string ⟨m.b.toArray⟩]
theorem mailsL_len (l : List Mail) : (mailsL l).length = l.length * 3 := by
  induction l with
  | nil => rfl
  | cons m l ih => simp only [mailsL, List.flatMap_cons, List.length_append, List.length_cons, List.length_nil] at ih ⊢; omega
theorem mailsL_append (l m : List Mail) : mailsL (l ++ m) = mailsL l ++ mailsL m := by simp [mailsL]

/-- Where the parts of an engine lie: the routers' block and its cells; each router's routes; what each was told, block and cells; the rows that were told. -/
structure Lay where
  G : Nat
  gc : Nat
  vs : Array Value
  rb : Nat → Nat
  rc : Nat → Nat
  Tb : Nat → Nat
  Tc : Nat → Nat
  vt : Nat → Array Value
  ta : Nat → Nat → Option Addr
  tc : Nat → Nat → Nat
  db : Nat → Nat → Nat
  dn : Nat → Nat → Nat
  lo : Nat

/-- A block that no store goes to. -/
structure Lay.Off (y : Lay) (P N : Nat) (Bv : Value) (W : World) (b : Nat) : Prop where
  p : b ≠ P
  g : b ≠ y.G
  t : ∀ k, k < N → b ≠ y.Tb k
  v : Bv.ownBlock ≠ some b
  lt : b < W.heap.size
  lo : y.lo ≤ b

structure Live (base P N : Nat) (e : Eng) (Bv : Value) (y : Lay) (W : World) : Prop where
  head : Blk W P #[.slice (some ⟨y.G, 0, none⟩) N y.gc, Bv] 45
  rtrs : Blk W y.G y.vs 124
  r0 : ∀ i, i < N → y.vs[i * 2]? = some (.slice (some ⟨y.rb i, 0, none⟩) N (y.rc i))
  r1 : ∀ i, i < N → y.vs[i * 2 + 1]? = some (.slice (some ⟨y.Tb i, 0, none⟩) N (y.Tc i))
  tolds : ∀ i, i < N → Blk W (y.Tb i) (y.vt i) 22
  t0 : ∀ i, i < N → ∀ k, k < N → (y.vt i)[k]? = some (.slice (y.ta i k) (if e.told i k = true then N else 0) (y.tc i k))
  routes : ∀ i, i < N → y.Off P N Bv W (y.rb i) ∧ ∀ j, j < N → W.cell? ⟨y.rb i, j, none⟩ = some (.int .i64 (e.R i j))
  rows : ∀ i, i < N → ∀ k, k < N → e.told i k = true → y.ta i k = some ⟨y.db i k, y.dn i k, none⟩ ∧ y.Off P N Bv W (y.db i k) ∧ ∀ j, j < N → W.cell? ⟨y.db i k, y.dn i k + j, none⟩ = some (.int .i64 (e.D i k j))
  bag : W.ownsRow base 52 3 Bv e.bag.length (mailsL e.bag)
  lp : base ≤ P
  lg : base ≤ y.G
  lt : ∀ i, i < N → base ≤ y.Tb i
  pg : P ≠ y.G
  pt : ∀ i, i < N → P ≠ y.Tb i
  gt : ∀ i, i < N → y.G ≠ y.Tb i
  tt : ∀ i k, i < N → k < N → i ≠ k → y.Tb i ≠ y.Tb k
  bv : ∀ g, Bv.ownBlock = some g → g ≠ P ∧ g ≠ y.G ∧ ∀ i, i < N → g ≠ y.Tb i
  ylo : base ≤ y.lo ∧ y.lo ≤ P

section
variable {base P N : Nat} {e : Eng} {Bv : Value} {y : Lay} {W W' : World}

theorem Lay.Off.grown {b : Nat} (h : y.Off P N Bv W b) (hs : W.heap.size ≤ W'.heap.size) : y.Off P N Bv W' b := ⟨h.p, h.g, h.t, h.v, Nat.lt_of_lt_of_le h.lt hs, h.lo⟩

theorem Live.below (h : Live base P N e Bv y W) (hb : Below W.heap.size W W') : Live base P N e Bv y W' where
  head := h.head.below hb h.head.lt
  rtrs := h.rtrs.below hb h.rtrs.lt
  r0 := h.r0
  r1 := h.r1
  tolds := fun i hi => (h.tolds i hi).below hb (h.tolds i hi).lt
  t0 := h.t0
  routes := fun i hi => ⟨(h.routes i hi).1.grown hb.size, fun j hj => by rw [hb.cell (p := ⟨y.rb i, j, none⟩) (h.routes i hi).1.lt]; exact (h.routes i hi).2 j hj⟩
  rows := fun i hi k hk ht => ⟨(h.rows i hi k hk ht).1, (h.rows i hi k hk ht).2.1.grown hb.size, fun j hj => by rw [hb.cell (p := ⟨y.db i k, y.dn i k + j, none⟩) (h.rows i hi k hk ht).2.1.lt]; exact (h.rows i hi k hk ht).2.2 j hj⟩
  bag := owns_below h.bag hb
  lp := h.lp
  lg := h.lg
  lt := h.lt
  pg := h.pg
  pt := h.pt
  gt := h.gt
  tt := h.tt
  bv := h.bv
  ylo := h.ylo

/-- The routes of one router are set to a row of their own. -/
theorem Live.setRoutes (h : Live base P N e Bv y W) {i b c : Nat} (hi : i < N) (f : Nat → Int) (ho : y.Off P N Bv W b) (hc : ∀ j, j < N → W.cell? ⟨b, j, none⟩ = some (.int .i64 (f j))) :
    Live base P N { e with R := fun r => if r = i then f else e.R r } Bv { y with vs := y.vs.setIfInBounds (i * 2) (.slice (some ⟨b, 0, none⟩) N c), rb := fun r => if r = i then b else y.rb r, rc := fun r => if r = i then c else y.rc r } (W.setCell ⟨y.G, i * 2, none⟩ (.slice (some ⟨b, 0, none⟩) N c)) := by
  have hsz : ∀ r, r < N → r * 2 + 1 < y.vs.size := fun r hr => (Array.getElem?_eq_some_iff.1 (h.r1 r hr)).1
  have hws : (W.setCell ⟨y.G, i * 2, none⟩ (.slice (some ⟨b, 0, none⟩) N c)).heap.size = W.heap.size := by simp
  have hoff : ∀ q, y.Off P N Bv W q → (W.setCell ⟨y.G, i * 2, none⟩ (.slice (some ⟨b, 0, none⟩) N c)).heap.size = W.heap.size → Lay.Off { y with vs := y.vs.setIfInBounds (i * 2) (.slice (some ⟨b, 0, none⟩) N c), rb := fun r => if r = i then b else y.rb r, rc := fun r => if r = i then c else y.rc r } P N Bv (W.setCell ⟨y.G, i * 2, none⟩ (.slice (some ⟨b, 0, none⟩) N c)) q := fun q hq hs => ⟨hq.p, hq.g, hq.t, hq.v, by rw [hs]; exact hq.lt, hq.lo⟩
  refine ⟨h.head.other h.pg _ _, h.rtrs.set _ _, fun r hr => ?_, fun r hr => ?_, fun r hr => (h.tolds r hr).other (Ne.symm (h.gt r hr)) _ _, h.t0, fun r hr => ?_, fun r hr k hk ht => ?_, ?_, h.lp, h.lg, h.lt, h.pg, h.pt, h.gt, h.tt, h.bv, h.ylo⟩
  · show (y.vs.setIfInBounds (i * 2) _)[r * 2]? = some (.slice (some ⟨if r = i then b else y.rb r, 0, none⟩) N (if r = i then c else y.rc r))
    by_cases e1 : r = i
    · subst e1
      have := hsz r hr
      rw [if_pos rfl, if_pos rfl, Array.getElem?_setIfInBounds_self_of_lt (by omega)]
    · rw [if_neg e1, if_neg e1, Array.getElem?_setIfInBounds_ne (by omega)]
      exact h.r0 r hr
  · show (y.vs.setIfInBounds (i * 2) _)[r * 2 + 1]? = _
    rw [Array.getElem?_setIfInBounds_ne (by omega)]
    exact h.r1 r hr
  · show Lay.Off _ P N Bv _ (if r = i then b else y.rb r) ∧ ∀ j, j < N → World.cell? _ ⟨if r = i then b else y.rb r, j, none⟩ = some (.int .i64 ((if r = i then f else e.R r) j))
    by_cases e1 : r = i
    · rw [if_pos e1, if_pos e1]
      exact ⟨hoff b ho hws, fun j hj => by rw [cell_other ho.g]; exact hc j hj⟩
    · rw [if_neg e1, if_neg e1]
      exact ⟨hoff _ (h.routes r hr).1 hws, fun j hj => by rw [cell_other (h.routes r hr).1.g]; exact (h.routes r hr).2 j hj⟩
  · obtain ⟨h1, h2, h3⟩ := h.rows r hr k hk ht
    exact ⟨h1, hoff _ h2 hws, fun j hj => by rw [cell_other h2.g]; exact h3 j hj⟩
  · exact ownsRow_setCell_other h.bag (fun e1 => (h.bv _ e1).2.1 rfl) _

/-- What one node told another is set: a row of its own, or nothing. -/
theorem Live.setTold (h : Live base P N e Bv y W) {i k : Nat} (hi : i < N) (hk : k < N) (tell : Bool) (f : Nat → Int) (a : Option Addr) (c b o : Nat)
    (hrow : tell = true → a = some ⟨b, o, none⟩ ∧ y.Off P N Bv W b ∧ ∀ j, j < N → W.cell? ⟨b, o + j, none⟩ = some (.int .i64 (f j))) :
    Live base P N { e with told := fun r q => if r = i ∧ q = k then tell else e.told r q, D := fun r q => if r = i ∧ q = k then f else e.D r q } Bv
      { y with vt := fun r => if r = i then (y.vt i).setIfInBounds k (.slice a (if tell = true then N else 0) c) else y.vt r, ta := fun r q => if r = i ∧ q = k then a else y.ta r q, tc := fun r q => if r = i ∧ q = k then c else y.tc r q, db := fun r q => if r = i ∧ q = k then b else y.db r q, dn := fun r q => if r = i ∧ q = k then o else y.dn r q }
      (W.setCell ⟨y.Tb i, k, none⟩ (.slice a (if tell = true then N else 0) c)) := by
  have hws : (W.setCell ⟨y.Tb i, k, none⟩ (.slice a (if tell = true then N else 0) c)).heap.size = W.heap.size := by simp
  have hsz : k < (y.vt i).size := (Array.getElem?_eq_some_iff.1 (h.t0 i hi k hk)).1
  refine ⟨h.head.other (h.pt i hi) _ _, h.rtrs.other (h.gt i hi) _ _, h.r0, h.r1, fun r hr => ?_, fun r hr q hq => ?_, fun r hr => ?_, fun r hr q hq ht => ?_, ?_, h.lp, h.lg, h.lt, h.pg, h.pt, h.gt, h.tt, h.bv, h.ylo⟩
  · show Blk _ (y.Tb r) (if r = i then _ else y.vt r) _
    by_cases e1 : r = i
    · subst e1
      rw [if_pos rfl]
      exact (h.tolds r hr).set _ _
    · rw [if_neg e1]
      exact (h.tolds r hr).other (h.tt r i hr hi e1) _ _
  · show (if r = i then (y.vt i).setIfInBounds k _ else y.vt r)[q]? = some (.slice (if r = i ∧ q = k then a else y.ta r q) (if (if r = i ∧ q = k then tell else e.told r q) = true then N else 0) (if r = i ∧ q = k then c else y.tc r q))
    by_cases e1 : r = i
    · subst e1
      rw [if_pos rfl]
      by_cases e2 : q = k
      · subst e2
        rw [Array.getElem?_setIfInBounds_self_of_lt hsz]
        simp
      · rw [Array.getElem?_setIfInBounds_ne (fun c => e2 c.symm), h.t0 r hr q hq]
        simp [e2]
    · have hp : ¬ (r = i ∧ q = k) := fun c => e1 c.1
      simp only [if_neg hp]
      rw [if_neg e1]
      exact h.t0 r hr q hq
  · obtain ⟨h1, h2⟩ := h.routes r hr
    exact ⟨⟨h1.p, h1.g, h1.t, h1.v, by rw [hws]; exact h1.lt, h1.lo⟩, fun j hj => by rw [cell_other (h1.t i hi)]; exact h2 j hj⟩
  · have ht' : (if r = i ∧ q = k then tell else e.told r q) = true := ht
    show (if r = i ∧ q = k then a else y.ta r q) = some ⟨if r = i ∧ q = k then b else y.db r q, if r = i ∧ q = k then o else y.dn r q, none⟩ ∧ Lay.Off _ P N Bv _ (if r = i ∧ q = k then b else y.db r q) ∧ ∀ j, j < N → World.cell? _ ⟨if r = i ∧ q = k then b else y.db r q, (if r = i ∧ q = k then o else y.dn r q) + j, none⟩ = some (.int .i64 ((if r = i ∧ q = k then f else e.D r q) j))
    by_cases e1 : r = i ∧ q = k
    · rw [if_pos e1] at ht'
      simp only [if_pos e1]
      obtain ⟨h1, h2, h3⟩ := hrow ht'
      exact ⟨h1, ⟨h2.p, h2.g, h2.t, h2.v, by rw [hws]; exact h2.lt, h2.lo⟩, fun j hj => by rw [cell_other (h2.t i hi)]; exact h3 j hj⟩
    · rw [if_neg e1] at ht'
      simp only [if_neg e1]
      obtain ⟨h1, h2, h3⟩ := h.rows r hr q hq ht'
      exact ⟨h1, ⟨h2.p, h2.g, h2.t, h2.v, by rw [hws]; exact h2.lt, h2.lo⟩, fun j hj => by rw [cell_other (h2.t i hi)]; exact h3 j hj⟩
  · exact ownsRow_setCell_other h.bag (fun e1 => (h.bv _ e1).2.2 i hi rfl) _
end

end Go.Proofs.Ytjhkadffaephmab

/-
  An engine that is changed: its bag.
-/
namespace Go.Proofs.Ytjhkadffaephmab
set_option maxRecDepth 100000
open Go.RowKit

section
variable {base P N : Nat} {e : Eng} {Bv : Value} {y : Lay} {W W4 : World}

theorem grown_cell {row : Option Nat} {b j : Nat} (hg : W.grownBy W4 row) (hlt : b < W.heap.size) (hne : row ≠ some b) : W4.cell? ⟨b, j, none⟩ = W.cell? ⟨b, j, none⟩ :=
  World.cell?_of_block (hg.block b hlt (fun e => hne e.symm))

/-- The bag is another row, in its own block or a new one. -/
theorem Live.setBag (h : Live base P N e Bv y W) {Bv' : Value} {l : List Mail} (hg : W.grownBy W4 Bv.ownBlock) (hown : W4.ownsRow base 52 3 Bv' l.length (mailsL l)) (hat : ∀ g, Bv'.ownBlock = some g → Bv.ownBlock = some g ∨ W.heap.size ≤ g) :
    Live base P N { e with bag := l } Bv' y (W4.setCell ⟨P, 1, none⟩ Bv') := by
  have hP : Bv.ownBlock ≠ some P := fun e1 => (h.bv P e1).1 rfl
  have hG : Bv.ownBlock ≠ some y.G := fun e1 => (h.bv _ e1).2.1 rfl
  have hT : ∀ i, i < N → Bv.ownBlock ≠ some (y.Tb i) := fun i hi e1 => (h.bv _ e1).2.2 i hi rfl
  have hsz := hg.size
  have hws : (W4.setCell ⟨P, 1, none⟩ Bv').heap.size = W4.heap.size := by simp
  have hoff : ∀ b, y.Off P N Bv W b → y.Off P N Bv' (W4.setCell ⟨P, 1, none⟩ Bv') b := fun b hb => ⟨hb.p, hb.g, hb.t, fun e1 => by
    rcases hat b e1 with e2 | e2
    · exact hb.v e2
    · have := hb.lt; omega, by rw [hws]; have := hb.lt; omega, hb.lo⟩
  have hbv : ∀ g, Bv'.ownBlock = some g → g ≠ P ∧ g ≠ y.G ∧ ∀ i, i < N → g ≠ y.Tb i := fun g e1 => by
    rcases hat g e1 with e2 | e2
    · exact h.bv g e2
    · have h1 := h.head.lt
      have h2 := h.rtrs.lt
      exact ⟨by omega, by omega, fun i hi => by have := (h.tolds i hi).lt; omega⟩
  have hhead : Blk W4 P #[.slice (some ⟨y.G, 0, none⟩) N y.gc, Bv] 45 := h.head.kept hg (fun e1 => hP e1.symm)
  refine ⟨?_, (h.rtrs.kept hg (fun e1 => hG e1.symm)).other (Ne.symm h.pg) _ _, h.r0, h.r1, fun i hi => ((h.tolds i hi).kept hg (fun e1 => hT i hi e1.symm)).other (Ne.symm (h.pt i hi)) _ _, h.t0, fun i hi => ?_, fun i hi k hk ht => ?_, ?_, h.lp, h.lg, h.lt, h.pg, h.pt, h.gt, h.tt, hbv, h.ylo⟩
  · have := hhead.set 1 Bv'
    simpa using this
  · obtain ⟨h1, h2⟩ := h.routes i hi
    exact ⟨hoff _ h1, fun j hj => by rw [cell_other h1.p, grown_cell hg h1.lt h1.v]; exact h2 j hj⟩
  · obtain ⟨h1, h2, h3⟩ := h.rows i hi k hk ht
    exact ⟨h1, hoff _ h2, fun j hj => by rw [cell_other h2.p, grown_cell hg h2.lt h2.v]; exact h3 j hj⟩
  · exact ownsRow_setCell_other hown (fun e1 => (hbv _ e1).1 rfl) _
end

end Go.Proofs.Ytjhkadffaephmab

/-
  engine.look.
-/
namespace Go.Proofs.Ytjhkadffaephmab
set_option maxRecDepth 100000
open Go.RowKit

theorem calls_look1 (args : Array Value) (W : World) : (callFunc 191 args).run Try.prog W = .ok (.enter 191 args) W := by rfl

set_option maxHeartbeats 1000000 in
theorem look1_any (b6 b3 Tb Tc N v j db dn tc : Nat) (ta : Option Addr) (s D : Int) (told : Bool) (W : World) (hs : 2 ≤ s) (hs2 : s ≤ 24) (hN : N ≤ 6) (hN0 : 0 < N)
    (h6 : W.cell? ⟨b6, 0, none⟩ = some (.slice (some ⟨Tb, 0, none⟩) N Tc)) (h3 : W.cell? ⟨b3, 0, none⟩ = some (.int .i64 s)) (hv : v < N) (hj : j < N)
    (ht : W.cell? ⟨Tb, v, none⟩ = some (.slice ta (if told = true then N else 0) tc)) (hd : told = true → ta = some ⟨db, dn, none⟩ ∧ W.cell? ⟨db, dn + j, none⟩ = some (.int .i64 D)) :
    Calls Try.prog 191 #[.int .i64 v, .int .i64 j, .pointer (some ⟨b6, 0, none⟩), .pointer (some ⟨b3, 0, none⟩)] W fun e w' => e = .returned (.int .i64 (if told = true then D else s - 1)) ∧ ∃ m, w' = W.drewN m := by
  have hvi : (v : Int) < (N : Int) := by omega
  have hji : (j : Int) < (N : Int) := by omega
  cases told with
  | true =>
    obtain ⟨e1, e2⟩ := hd rfl
    subst e1
    simp only [if_true] at ht ⊢
    have hn0 : ((N : Int) == 0) = false := by simp; omega
    go_enter Try.func191, Try.ntmps191
    go_wp2
    go_ret
    exact ⟨rfl, 0, rfl⟩
  | false =>
    simp only [Bool.false_eq_true, if_false] at ht ⊢
    clear hd
    go_enter Try.func191, Try.ntmps191
    go_wp2
    go_ret
    exact ⟨rfl, 0, rfl⟩

/-- What stands all through the store of a router's routes. -/
structure LookG (base P N : Nat) (e : Eng) (Bv : Value) (y : Lay) (w1 W : World) : Prop where
  live : Live base P N e Bv y W
  below : Below w1.heap.size w1 W
theorem LookG.keep {base P N : Nat} {e : Eng} {Bv : Value} {y : Lay} {w1 W W' : World} (h : LookG base P N e Bv y w1 W) (hb : Below W.heap.size W W') : LookG base P N e Bv y w1 W' := ⟨h.live.below hb, h.below.trans (hb.mono h.below.size)⟩

/-- What the operations ahead of the store leave. -/
def lookEv (vs : List Value) (N : Nat) (f : Nat → Int) (w1 : World) (k : Nat) (v : Value) (W : World) : Prop :=
  if k = 8 then ∃ g : Nat, v = .slice (some ⟨g, 0, none⟩) N N ∧ w1.heap.size ≤ g ∧ g < W.heap.size ∧ ∀ j, j < N → W.cell? ⟨g, j, none⟩ = some (.int .i64 (f j))
  else vs[k]? = some v
theorem lookEv_keep {vs : List Value} {N : Nat} {f : Nat → Int} {w1 : World} {k : Nat} {v : Value} {W W' : World} (hb : Below W.heap.size W W') (h : lookEv vs N f w1 k v W) : lookEv vs N f w1 k v W' := by
  unfold lookEv at h ⊢
  split
  · next e =>
    rw [if_pos e] at h
    obtain ⟨g, h1, h2, h3, h4⟩ := h
    exact ⟨g, h1, h2, Nat.lt_of_lt_of_le h3 hb.size, fun j hj => by rw [hb.cell (p := ⟨g, j, none⟩) h3]; exact h4 j hj⟩
  · next e =>
    rw [if_neg e] at h
    exact h
theorem lookEv_get {vs : List Value} {N : Nat} {f : Nat → Int} {w1 : World} {k : Nat} {v u : Value} {W : World} (h : lookEv vs N f w1 k v W) (hk : k ≠ 8) (hu : vs[k]? = some u) : v = u := by
  unfold lookEv at h
  rw [if_neg hk, hu] at h
  exact (Option.some.inj h).symm

/-- Blocks of others are as they were. -/
def Kept (y : Lay) (P N : Nat) (Bv : Value) (w w' : World) : Prop := ∀ b, y.Off P N Bv w b → w'.heap[b]? = w.heap[b]?
theorem Kept.blk {y : Lay} {P N : Nat} {Bv : Value} {w w' : World} (h : Kept y P N Bv w w') {b : Nat} {cs : Array Value} {t : TypeId} (ho : y.Off P N Bv w b) (hb : Blk w b cs t) : Blk w' b cs t := by
  have := h b ho
  unfold Blk at hb ⊢
  rw [this]; exact hb

set_option maxHeartbeats 4000000 in
theorem engLook_all (n : NetM) (base P N at_ : Nat) (e : Eng) (Bv : Value) (y : Lay) (w : World) (h : n.In base w) (hck : n.net.check = 0) (hN : n.nodes = N) (hL : Live base P N e Bv y w) (hfit : e.Fit n.net) (hat : at_ < N) :
    Calls Try.prog 151 #[n.val, .pointer (some ⟨P, 0, none⟩), .int .i64 at_] w fun r w' => r = .returned (.tuple #[]) ∧ (∃ y', Live base P N (e.look n.net at_) Bv y' w' ∧ y'.G = y.G ∧ y'.Tb = y.Tb ∧ y'.lo = y.lo) ∧ Below base w w' ∧ Kept y P N Bv w w' := by
  have g := Net.good_of_check hck
  have hs0 : 2 ≤ n.a.size := g.law.good.lo
  have hs1 : n.a.size ≤ 24 := g.law.good.hi
  have hi6 := g.hi
  have hNN : n.net.N = N := by show n.nodes.toNat = N; omega
  have hN6 : N ≤ 6 := by have : n.net.nodes = n.nodes := rfl; omega
  have hbw : base ≤ w.heap.size := Nat.le_of_lt (Nat.lt_of_le_of_lt hL.lp hL.head.lt)
  have hcells : n.cells = #[.int .i64 n.a.size, .slice n.a.B.ga n.a.B.t.len n.a.B.cap, .slice n.a.E.ga n.a.E.t.len n.a.E.cap, .int .i64 N, .slice n.la n.ln n.lc] := by simp only [NetM.cells, Mat.val, hN]
  have x0 := hL.head.cell 0
  have x1 := hL.rtrs.cell (at_ * 2 + 1)
  rw [hL.r1 at_ hat] at x1
  simp at x0
  have hai : (at_ : Int) < (N : Int) := by omega
  obtain ⟨W1, hW1⟩ : ∃ W1, W1 = (w.alloc (.cells n.cells 41)).alloc (.cells #[.slice (some ⟨y.Tb at_, 0, none⟩) N (y.Tc at_)] 36) := ⟨_, rfl⟩
  have hB1 : Below w.heap.size w W1 := by rw [hW1]; exact ((Below.refl _ w).alloc (Nat.le_refl _) _).alloc (by simp) _
  have b3 : Blk W1 w.heap.size n.cells 41 := by rw [hW1]; exact (Blk.new w _ _).alloc _
  have b6 : Blk W1 (w.heap.size + 1) #[.slice (some ⟨y.Tb at_, 0, none⟩) N (y.Tc at_)] 36 := by rw [hW1]; exact Blk.new' (by simp)
  have HL1 := hide (hL.below hB1)
  have x0a : ∀ o, (w.alloc o).cell? ⟨P, 0, none⟩ = some (.slice (some ⟨y.G, 0, none⟩) N y.gc) := fun o => by have := (hL.head.alloc o).cell 0; simpa using this
  have x1a : ∀ o, (w.alloc o).cell? ⟨y.G, at_ * 2 + 1, none⟩ = some (.slice (some ⟨y.Tb at_, 0, none⟩) N (y.Tc at_)) := fun o => by rw [(hL.rtrs.alloc o).cell]; exact hL.r1 at_ hat
  have H := hide h
  have HB1 := hide hB1
  have Hb3 := hide b3
  have Hb6 := hide b6
  have Hcells := hide hcells
  have Hbw := hide hbw
  have Hfit := hide hfit
  rw [hcells] at hW1
  simp only [NetM.val, hcells]
  clear h hL hB1 b3 b6 hcells hfit hN hbw x0 x1
  go_enter Try.func151, Try.ntmps151
  go_wp2
  rw [← hW1]
  clear hW1 x0a x1a
  have HLk := hide (fun (W : World) (hG : LookG base P N e Bv y W1 W) => look_any 191 #[.pointer (some ⟨w.heap.size + 1, 0, none⟩), .pointer (some ⟨w.heap.size, 0, none⟩)] n at_ (fun j v => e.has n.net at_ v j) W
    (((H.out.below HB1.out Hbw.out).below hG.below (Nat.le_trans Hbw.out HB1.out.size)).mono (Nat.le_trans (Nat.le_trans Hbw.out HB1.out.size) hG.below.size)) hck (fun j hj => Hfit.out.has g (by rw [hNN]; exact hat) hj) calls_look1 (fun v j W' hv hj hb => by
      rw [hNN] at hv hj
      have hL2 := hG.live.below hb
      have q6 := ((Hb6.out.below hG.below Hb6.out.lt).below hb (Nat.lt_of_lt_of_le Hb6.out.lt hG.below.size)).cell 0
      have q3 := ((Hb3.out.below hG.below Hb3.out.lt).below hb (Nat.lt_of_lt_of_le Hb3.out.lt hG.below.size)).cell 0
      have qt := (hL2.tolds at_ hat).cell v
      rw [hL2.t0 at_ hat v hv] at qt
      exact look1_any (w.heap.size + 1) w.heap.size (y.Tb at_) (y.Tc at_) N v j (y.db at_ v) (y.dn at_ v) (y.tc at_ v) (y.ta at_ v) n.a.size (e.D at_ v j) (e.told at_ v) W' hs0 hs1 hN6 (by omega) (by simpa using q6) (by simpa [NetM.cells] using q3) hv hj qt (fun ht => ⟨(hL2.rows at_ hat v hv ht).1, (hL2.rows at_ hat v hv ht).2.2 j hj⟩)))
  rw [hNN] at HLk
  simp only [NetM.val, Hcells.out] at HLk
  refine wp_region_last 11 _ (LookG base P N e Bv y W1)
    (lookEv [.pointer (some ⟨P, 0, none⟩), .pointer (some ⟨P, 0, none⟩), .pointer (some ⟨P, 0, none⟩), .slice (some ⟨y.G, 0, none⟩) N y.gc, .int .i64 at_, n.val, .int .i64 at_, .func (.func 191) #[] #[.pointer (some ⟨w.heap.size + 1, 0, none⟩), .pointer (some ⟨w.heap.size, 0, none⟩)], undef, .pointer (some ⟨y.G, at_ * 2, none⟩), .pointer (some ⟨y.G, at_ * 2, none⟩)] N (fun j => n.net.route at_ j (fun k => e.has n.net at_ k j)) W1)
    (fun _ W => (∃ y', Live base P N (e.look n.net at_) Bv y' W ∧ y'.G = y.G ∧ y'.Tb = y.Tb ∧ y'.lo = y.lo) ∧ Below base w W ∧ Kept y P N Bv w W) (fun _ _ _ => True) (by kernel_rfl) (by kernel_rfl) (by kernel_rfl) (by kernel_rfl) (by kernel_rfl) rfl (LookG.keep ⟨HL1.out, Below.refl _ _⟩ ⟨rfl, rfl, rfl, Nat.le_refl _, fun _ _ => rfl⟩) ⟨?_, ?_, ?_, ?_, ?_, ?_, ?_, ?_, ?_, ?_, ?_, trivial⟩ ?_ trivial ?_
  rotate_right
  · intro t W hG _
    have HG := hide hG
    clear hG
    simp only [fill, Act.put, List.setIfInBounds_toArray, List.set_cons_zero, List.set_cons_succ]
    go_end0
    exact ⟨rfl, HG.out.1, HG.out.2⟩
  rotate_right
  · intro t W hG hE _ K hK
    have e10 := lookEv_get (hE 10 (by omega)) (by decide) rfl
    have h8 : ∃ g : Nat, t 8 = .slice (some ⟨g, 0, none⟩) N N ∧ W1.heap.size ≤ g ∧ g < W.heap.size ∧ ∀ j, j < N → W.cell? ⟨g, j, none⟩ = some (.int .i64 (n.net.route at_ j (fun k => e.has n.net at_ k j))) := hE 8 (by omega)
    simp only [fill, Act.put, List.setIfInBounds_toArray, List.set_cons_zero, List.set_cons_succ, e10] at hK ⊢
    rw [if_pos (by rfl)]
    obtain ⟨gg, e8, hg1, hg2, hgc⟩ := h8
    have c1 := hG.live.rtrs.cell (at_ * 2)
    rw [hG.live.r0 at_ hat] at c1
    have cf := hG.live.rtrs.frozen (at_ * 2)
    have hl1 := HL1.out
    have hoff : y.Off P N Bv W gg := ⟨by have := hl1.head.lt; omega, by have := hl1.rtrs.lt; omega, fun k hk => by have := (hl1.tolds k hk).lt; omega, fun hv => by have := (hl1.bag.lt _ hv).2; omega, hg2, by have := hl1.ylo; have := hl1.head.lt; omega⟩
    have hN' : (∃ y', Live base P N (e.look n.net at_) Bv y' (W.setCell ⟨y.G, at_ * 2, none⟩ (.slice (some ⟨gg, 0, none⟩) N N)) ∧ y'.G = y.G ∧ y'.Tb = y.Tb ∧ y'.lo = y.lo) ∧ Below base w (W.setCell ⟨y.G, at_ * 2, none⟩ (.slice (some ⟨gg, 0, none⟩) N N)) ∧ Kept y P N Bv w (W.setCell ⟨y.G, at_ * 2, none⟩ (.slice (some ⟨gg, 0, none⟩) N N)) := by
      have hset := hG.live.setRoutes (c := N) hat (fun j => n.net.route at_ j (fun k => e.has n.net at_ k j)) hoff hgc
      have he : (e.look n.net at_) = { e with R := fun r => if r = at_ then (fun j => n.net.route at_ j (fun k => e.has n.net at_ k j)) else e.R r } := by
        unfold Eng.look
        congr 1
        funext r j
        by_cases e1 : r = at_
        · rw [if_pos e1, if_pos e1]
        · rw [if_neg e1, if_neg e1]
      rw [he]
      refine ⟨⟨_, hset, rfl, rfl, rfl⟩, (((HB1.out.mono Hbw.out).trans (hG.below.mono (Nat.le_trans Hbw.out HB1.out.size))).setCell (p := ⟨y.G, at_ * 2, none⟩) hG.live.lg _), fun b hb => ?_⟩
      rw [Below.heap_setCell _ _ _ _ hb.g, hG.below.block b (Nat.lt_of_lt_of_le hb.lt HB1.out.size), HB1.out.block b hb.lt]
    simp only [e8] at hK ⊢
    go_simp
    exact hK undef _ hN'
  all_goals intro t W hG hp ht K hK
  all_goals clear ht
  all_goals simp only [fill, Act.put, List.setIfInBounds_toArray, List.set_cons_zero, List.set_cons_succ] at hK ⊢
  all_goals rw [if_pos (by rfl)]
  · go_simp
    exact hK _ W hG rfl (fun _ _ _ h => h)
  · have e0 := lookEv_get (hp 0 (by decide)) (by decide) rfl
    simp only [e0] at hK ⊢
    go_simp
    exact hK _ W hG rfl (fun _ _ _ h => h)
  · have e1 := lookEv_get (hp 1 (by decide)) (by decide) rfl
    simp only [e1] at hK ⊢
    go_simp
    exact hK _ W hG rfl (fun _ _ _ h => h)
  · have e2 := lookEv_get (hp 2 (by decide)) (by decide) rfl
    have c0 := hG.live.head.cell 0
    simp at c0
    simp only [e2] at hK ⊢
    go_simp
    exact hK _ W hG rfl (fun _ _ _ h => h)
  · go_simp
    exact hK _ W hG rfl (fun _ _ _ h => h)
  · have bN := Hb3.out.below hG.below Hb3.out.lt
    have x0 := bN.cell 0
    have x1 := bN.cell 1
    have x2 := bN.cell 2
    have x3 := bN.cell 3
    have x4 := bN.cell 4
    simp [Hcells.out] at x0 x1 x2 x3 x4
    go_simp
    exact hK _ W hG (by show some n.val = _; rw [NetM.val, Hcells.out]) (fun _ _ _ h => h)
  · go_simp
    exact hK _ W hG rfl (fun _ _ _ h => h)
  · go_simp
    exact hK _ W hG rfl (fun _ _ _ h => h)
  · have e5 := lookEv_get (hp 5 (by decide)) (by decide) rfl
    have e6 := lookEv_get (hp 6 (by decide)) (by decide) rfl
    have e7 := lookEv_get (hp 7 (by decide)) (by decide) rfl
    rw [NetM.val, Hcells.out] at e5
    simp only [e5, e6, e7] at hK ⊢
    go_simp
    go_at_call 154
    refine (HLk.out W hG).mono ?_
    rintro r W' ⟨rfl, hb, hlt, hz⟩
    go_simp
    exact hK _ W' (hG.keep hb) ⟨W.heap.size + 1, rfl, by have := hG.below.size; omega, hlt, hz⟩ (fun _ _ _ h => lookEv_keep hb h)
  · have e3 := lookEv_get (hp 3 (by decide)) (by decide) rfl
    have e4 := lookEv_get (hp 4 (by decide)) (by decide) rfl
    simp only [e3, e4] at hK ⊢
    go_simp
    exact hK _ W hG rfl (fun _ _ _ h => h)
  · have e9 := lookEv_get (hp 9 (by decide)) (by decide) rfl
    simp only [e9] at hK ⊢
    go_simp
    exact hK _ W hG rfl (fun _ _ _ h => h)

theorem engLook_any (n : NetM) (base P N at_ : Nat) (e : Eng) (Bv : Value) (y : Lay) (w : World) (h : n.In base w) (hck : n.net.check = 0) (hN : n.nodes = N) (hL : Live base P N e Bv y w) (hfit : e.Fit n.net) (hat : at_ < N) :
    Calls Try.prog 151 #[n.val, .pointer (some ⟨P, 0, none⟩), .int .i64 at_] w fun r w' => r = .returned (.tuple #[]) ∧ (∃ y', Live base P N (e.look n.net at_) Bv y' w') ∧ Below base w w' := by
  refine (engLook_all n base P N at_ e Bv y w h hck hN hL hfit hat).mono ?_
  rintro r w' ⟨h1, ⟨y', h2, _⟩, h3, _⟩
  exact ⟨h1, ⟨y', h2⟩, h3⟩

end Go.Proofs.Ytjhkadffaephmab

/-
  engine.expire.
-/
namespace Go.Proofs.Ytjhkadffaephmab
set_option maxRecDepth 100000
open Go.RowKit

theorem Eng.Fit.forget {n : Net} {e : Eng} (h : e.Fit n) (i k : Nat) : Eng.Fit n { e with told := fun a b => if a = i ∧ b = k then false else e.told a b } :=
  ⟨h.R, fun a b j ha hb hj ht => by
    have ht' : (if a = i ∧ b = k then false else e.told a b) = true := ht
    split at ht'
    · cases ht'
    · exact h.D a b j ha hb hj ht', h.many, h.mail⟩

set_option maxHeartbeats 2000000 in
theorem expire_bad (n : NetM) (base P N at_ : Nat) (of_ : Int) (e : Eng) (Bv : Value) (y : Lay) (w : World) (hN : n.nodes = N) (hL : Live base P N e Bv y w) (hof : of_ < 0 ∨ (N : Int) ≤ of_) :
    Calls Try.prog 181 #[n.val, .pointer (some ⟨P, 0, none⟩), .int .i64 at_, .int .i64 of_] w fun r w' => r = .returned (.int .i64 5) ∧ Live base P N e Bv y w' ∧ Below base w w' := by
  have hbw : base ≤ w.heap.size := Nat.le_of_lt (Nat.lt_of_le_of_lt hL.lp hL.head.lt)
  have hB : Below w.heap.size w (w.alloc (.cells n.cells 41)) := (Below.refl _ w).alloc (Nat.le_refl _) _
  have HF := hide (And.intro (hL.below hB) (hB.mono hbw))
  have HS := hide (fun W => sbelow_any of_ N W)
  have hv : (decide (0 ≤ of_) && decide (of_ < (N : Int))) = false := by simp; omega
  rw [hv] at HS
  simp only [NetM.val, NetM.cells, Mat.val, hN] at *
  clear hL hof hv hB
  go_enter Try.func181, Try.ntmps181
  go_wp2_with fail
  go_at_call 94
  refine (HS.out _).mono ?_
  rintro r w1 ⟨rfl, rfl⟩
  go_wp2
  go_ret
  exact ⟨rfl, HF.out.1, HF.out.2⟩

set_option maxHeartbeats 4000000 in
theorem expire_ok (n : NetM) (base P N at_ k : Nat) (e : Eng) (Bv : Value) (y : Lay) (w : World) (h : n.In base w) (hck : n.net.check = 0) (hN : n.nodes = N) (hL : Live base P N e Bv y w) (hfit : e.Fit n.net) (hat : at_ < N) (hk : k < N) :
    Calls Try.prog 181 #[n.val, .pointer (some ⟨P, 0, none⟩), .int .i64 at_, .int .i64 k] w fun r w' => r = .returned (.int .i64 0) ∧ (∃ y', Live base P N (e.expire n.net at_ k) Bv y' w') ∧ Below base w w' := by
  have hbw : base ≤ w.heap.size := Nat.le_of_lt (Nat.lt_of_le_of_lt hL.lp hL.head.lt)
  obtain ⟨W1, hW1⟩ : ∃ W1, W1 = w.alloc (.cells n.cells 41) := ⟨_, rfl⟩
  have hB : Below w.heap.size w W1 := by rw [hW1]; exact (Below.refl _ w).alloc (Nat.le_refl _) _
  have b0 : Blk W1 w.heap.size n.cells 41 := by rw [hW1]; exact Blk.new w _ _
  have hL1 := hL.below hB
  have hTl := (hL.tolds at_ hat).lt
  have hset := hL1.setTold hat hk false (e.D at_ k) none 0 0 0 (fun h => by cases h)
  have he : ({ e with told := fun a b => if a = at_ ∧ b = k then false else e.told a b, D := fun r q => if r = at_ ∧ q = k then e.D at_ k else e.D r q } : Eng) = { e with told := fun a b => if a = at_ ∧ b = k then false else e.told a b } := by
    congr 1
    funext r q
    by_cases e1 : r = at_ ∧ q = k
    · rw [if_pos e1, e1.1, e1.2]
    · rw [if_neg e1]
  rw [he] at hset
  simp only [Bool.false_eq_true, if_false] at hset
  have hBs : Below base w (W1.setCell ⟨y.Tb at_, k, none⟩ (.slice none 0 0)) := (hB.mono hbw).setCell (p := ⟨y.Tb at_, k, none⟩) (hL.lt at_ hat) _
  have HLk := hide (engLook_any n base P N at_ _ Bv _ _ (h.below hBs (Nat.le_refl _)) hck hN hset (hfit.forget at_ k) hat)
  have bs := b0.other (C := y.Tb at_) (by omega) k (.slice none 0 0)
  have x0 := bs.cell 0
  have x1 := bs.cell 1
  have x2 := bs.cell 2
  have x3 := bs.cell 3
  have x4 := bs.cell 4
  have h0 := hL1.head.cell 0
  have h1 := hL1.rtrs.cell (at_ * 2 + 1)
  rw [hL.r1 at_ hat] at h1
  have h2 := (hL1.tolds at_ hat).cell k
  rw [hL.t0 at_ hat k hk] at h2
  have hf := (hL1.tolds at_ hat).frozen k
  have y3 := b0.cell 3
  have HS := hide (fun W => sbelow_any (k : Int) N W)
  have hv : (decide (0 ≤ (k : Int)) && decide ((k : Int) < (N : Int))) = true := by simp; omega
  rw [hv] at HS
  have hai : (at_ : Int) < (N : Int) := by omega
  have hki : (k : Int) < (N : Int) := by omega
  have HBs := hide hBs
  rw [hW1] at HLk HBs x0 x1 x2 x3 x4 h0 h1 h2 hf y3
  simp only [NetM.val, NetM.cells, Mat.val, hN] at *
  simp at x0 x1 x2 x3 x4 h0 y3
  clear h hck hL hfit hB b0 hL1 hset he hBs bs hv hW1 hTl hbw
  go_enter Try.func181, Try.ntmps181
  go_wp2_with fail
  go_at_call 94
  refine (HS.out _).mono ?_
  rintro r w1 ⟨rfl, rfl⟩
  go_wp2_with fail
  go_at_call 151
  refine HLk.out.mono ?_
  rintro r w2 ⟨rfl, hl2, hb2⟩
  have HF := hide (And.intro hl2 (HBs.out.trans hb2))
  clear hl2 hb2 HBs HLk
  go_wp2
  go_ret
  exact ⟨rfl, HF.out.1, HF.out.2⟩

end Go.Proofs.Ytjhkadffaephmab
