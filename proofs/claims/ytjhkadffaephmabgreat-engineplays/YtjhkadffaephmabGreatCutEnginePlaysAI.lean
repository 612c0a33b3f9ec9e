/-
  Our own texts, bundled: a claim holds few files.
-/
import Derived.Test.YtjhkadffaephmabGreatCutEnginePlaysAH
import Derived.Test.YtjhkadffaephmabGreatCutEnginePlaysAC
import Derived.Deep.RegionLaw
import Derived.Deep.AppendSrc
import Derived.Test.YtjhkadffaephmabGreatCutEnginePlaysAD
import Derived.Test.YtjhkadffaephmabGreatCutEnginePlaysAE
import Derived.Lib.SliceRun
/-
  An engine that is changed: where all of it lies, and what each store makes of it.
-/
namespace Go.Proofs.YtjhkadffaephmabGreat
set_option maxRecDepth 100000
open Go.RowKit

/-- Mail as cells. -/
def mailsL (l : List Mail) : List Value := l.flatMap fun m => [.int .i64 m.F, .int .i64 m.T, .string ⟨m.b.toArray⟩]
theorem mailsL_len (l : List Mail) : (mailsL l).length = l.length * 3 := by
  induction l with
  | nil => rfl
  | cons m l ih => simp only [mailsL, List.flatMap_cons, List.length_append, List.length_cons, List.length_nil] at ih ⊢; omega
theorem mailsL_append (l m : List Mail) : mailsL (l ++ m) = mailsL l ++ mailsL m := by simp [mailsL]

/-- Where the parts of an engine lie: the routers' block and its cells; each router's routes; what each was told, block and cells; the rows that were told. -/
structure Lay where
  G : Nat
  gc : Nat
  vs : Array Value
  rb : Nat → Nat
  rc : Nat → Nat
  Tb : Nat → Nat
  Tc : Nat → Nat
  vt : Nat → Array Value
  ta : Nat → Nat → Option Addr
  tc : Nat → Nat → Nat
  db : Nat → Nat → Nat
  dn : Nat → Nat → Nat
  lo : Nat

/-- A block that no store goes to. -/
structure Lay.Off (y : Lay) (P N : Nat) (Bv : Value) (W : World) (b : Nat) : Prop where
  p : b ≠ P
  g : b ≠ y.G
  t : ∀ k, k < N → b ≠ y.Tb k
  v : Bv.ownBlock ≠ some b
  lt : b < W.heap.size
  lo : y.lo ≤ b

structure Live (base P N : Nat) (e : Eng) (Bv : Value) (y : Lay) (W : World) : Prop where
  head : Blk W P #[.slice (some ⟨y.G, 0, none⟩) N y.gc, Bv] 31
  rtrs : Blk W y.G y.vs 59
  r0 : ∀ i, i < N → y.vs[i * 2]? = some (.slice (some ⟨y.rb i, 0, none⟩) N (y.rc i))
  r1 : ∀ i, i < N → y.vs[i * 2 + 1]? = some (.slice (some ⟨y.Tb i, 0, none⟩) N (y.Tc i))
  tolds : ∀ i, i < N → Blk W (y.Tb i) (y.vt i) 32
  t0 : ∀ i, i < N → ∀ k, k < N → (y.vt i)[k]? = some (.slice (y.ta i k) (if e.told i k = true then N else 0) (y.tc i k))
  routes : ∀ i, i < N → y.Off P N Bv W (y.rb i) ∧ ∀ j, j < N → W.cell? ⟨y.rb i, j, none⟩ = some (.int .i64 (e.R i j))
  rows : ∀ i, i < N → ∀ k, k < N → e.told i k = true → y.ta i k = some ⟨y.db i k, y.dn i k, none⟩ ∧ y.Off P N Bv W (y.db i k) ∧ ∀ j, j < N → W.cell? ⟨y.db i k, y.dn i k + j, none⟩ = some (.int .i64 (e.D i k j))
  bag : W.ownsRow base 69 3 Bv e.bag.length (mailsL e.bag)
  lp : base ≤ P
  lg : base ≤ y.G
  lt : ∀ i, i < N → base ≤ y.Tb i
  pg : P ≠ y.G
  pt : ∀ i, i < N → P ≠ y.Tb i
  gt : ∀ i, i < N → y.G ≠ y.Tb i
  tt : ∀ i k, i < N → k < N → i ≠ k → y.Tb i ≠ y.Tb k
  bv : ∀ g, Bv.ownBlock = some g → g ≠ P ∧ g ≠ y.G ∧ ∀ i, i < N → g ≠ y.Tb i
  ylo : base ≤ y.lo ∧ y.lo ≤ P

section
variable {base P N : Nat} {e : Eng} {Bv : Value} {y : Lay} {W W' : World}

theorem Lay.Off.grown {b : Nat} (h : y.Off P N Bv W b) (hs : W.heap.size ≤ W'.heap.size) : y.Off P N Bv W' b := ⟨h.p, h.g, h.t, h.v, Nat.lt_of_lt_of_le h.lt hs, h.lo⟩

theorem Live.below (h : Live base P N e Bv y W) (hb : Below W.heap.size W W') : Live base P N e Bv y W' where
  head := h.head.below hb h.head.lt
  rtrs := h.rtrs.below hb h.rtrs.lt
  r0 := h.r0
  r1 := h.r1
  tolds := fun i hi => (h.tolds i hi).below hb (h.tolds i hi).lt
  t0 := h.t0
  routes := fun i hi => ⟨(h.routes i hi).1.grown hb.size, fun j hj => by rw [hb.cell (p := ⟨y.rb i, j, none⟩) (h.routes i hi).1.lt]; exact (h.routes i hi).2 j hj⟩
  rows := fun i hi k hk ht => ⟨(h.rows i hi k hk ht).1, (h.rows i hi k hk ht).2.1.grown hb.size, fun j hj => by rw [hb.cell (p := ⟨y.db i k, y.dn i k + j, none⟩) (h.rows i hi k hk ht).2.1.lt]; exact (h.rows i hi k hk ht).2.2 j hj⟩
  bag := owns_below h.bag hb
  lp := h.lp
  lg := h.lg
  lt := h.lt
  pg := h.pg
  pt := h.pt
  gt := h.gt
  tt := h.tt
  bv := h.bv
  ylo := h.ylo

/-- The routes of one router are set to a row of their own. -/
theorem Live.setRoutes (h : Live base P N e Bv y W) {i b c : Nat} (hi : i < N) (f : Nat → Int) (ho : y.Off P N Bv W b) (hc : ∀ j, j < N → W.cell? ⟨b, j, none⟩ = some (.int .i64 (f j))) :
    Live base P N { e with R := fun r => if r = i then f else e.R r } Bv { y with vs := y.vs.setIfInBounds (i * 2) (.slice (some ⟨b, 0, none⟩) N c), rb := fun r => if r = i then b else y.rb r, rc := fun r => if r = i then c else y.rc r } (W.setCell ⟨y.G, i * 2, none⟩ (.slice (some ⟨b, 0, none⟩) N c)) := by
  have hsz : ∀ r, r < N → r * 2 + 1 < y.vs.size := fun r hr => (Array.getElem?_eq_some_iff.1 (h.r1 r hr)).1
  have hws : (W.setCell ⟨y.G, i * 2, none⟩ (.slice (some ⟨b, 0, none⟩) N c)).heap.size = W.heap.size := by simp
  have hoff : ∀ q, y.Off P N Bv W q → (W.setCell ⟨y.G, i * 2, none⟩ (.slice (some ⟨b, 0, none⟩) N c)).heap.size = W.heap.size → Lay.Off { y with vs := y.vs.setIfInBounds (i * 2) (.slice (some ⟨b, 0, none⟩) N c), rb := fun r => if r = i then b else y.rb r, rc := fun r => if r = i then c else y.rc r } P N Bv (W.setCell ⟨y.G, i * 2, none⟩ (.slice (some ⟨b, 0, none⟩) N c)) q := fun q hq hs => ⟨hq.p, hq.g, hq.t, hq.v, by rw [hs]; exact hq.lt, hq.lo⟩
  refine ⟨h.head.other h.pg _ _, h.rtrs.set _ _, fun r hr => ?_, fun r hr => ?_, fun r hr => (h.tolds r hr).other (Ne.symm (h.gt r hr)) _ _, h.t0, fun r hr => ?_, fun r hr k hk ht => ?_, ?_, h.lp, h.lg, h.lt, h.pg, h.pt, h.gt, h.tt, h.bv, h.ylo⟩
  · show (y.vs.setIfInBounds (i * 2) _)[r * 2]? = some (.slice (some ⟨if r = i then b else y.rb r, 0, none⟩) N (if r = i then c else y.rc r))
    by_cases e1 : r = i
    · subst e1
      have := hsz r hr
      rw [if_pos rfl, if_pos rfl, Array.getElem?_setIfInBounds_self_of_lt (by omega)]
    · rw [if_neg e1, if_neg e1, Array.getElem?_setIfInBounds_ne (by omega)]
      exact h.r0 r hr
  · show (y.vs.setIfInBounds (i * 2) _)[r * 2 + 1]? = _
    rw [Array.getElem?_setIfInBounds_ne (by omega)]
    exact h.r1 r hr
  · show Lay.Off _ P N Bv _ (if r = i then b else y.rb r) ∧ ∀ j, j < N → World.cell? _ ⟨if r = i then b else y.rb r, j, none⟩ = some (.int .i64 ((if r = i then f else e.R r) j))
    by_cases e1 : r = i
    · rw [if_pos e1, if_pos e1]
      exact ⟨hoff b ho hws, fun j hj => by rw [cell_other ho.g]; exact hc j hj⟩
    · rw [if_neg e1, if_neg e1]
      exact ⟨hoff _ (h.routes r hr).1 hws, fun j hj => by rw [cell_other (h.routes r hr).1.g]; exact (h.routes r hr).2 j hj⟩
  · obtain ⟨h1, h2, h3⟩ := h.rows r hr k hk ht
    exact ⟨h1, hoff _ h2 hws, fun j hj => by rw [cell_other h2.g]; exact h3 j hj⟩
  · exact ownsRow_setCell_other h.bag (fun e1 => (h.bv _ e1).2.1 rfl) _

/-- What one node told another is set: a row of its own, or nothing. -/
theorem Live.setTold (h : Live base P N e Bv y W) {i k : Nat} (hi : i < N) (hk : k < N) (tell : Bool) (f : Nat → Int) (a : Option Addr) (c b o : Nat)
    (hrow : tell = true → a = some ⟨b, o, none⟩ ∧ y.Off P N Bv W b ∧ ∀ j, j < N → W.cell? ⟨b, o + j, none⟩ = some (.int .i64 (f j))) :
    Live base P N { e with told := fun r q => if r = i ∧ q = k then tell else e.told r q, D := fun r q => if r = i ∧ q = k then f else e.D r q } Bv
      { y with vt := fun r => if r = i then (y.vt i).setIfInBounds k (.slice a (if tell = true then N else 0) c) else y.vt r, ta := fun r q => if r = i ∧ q = k then a else y.ta r q, tc := fun r q => if r = i ∧ q = k then c else y.tc r q, db := fun r q => if r = i ∧ q = k then b else y.db r q, dn := fun r q => if r = i ∧ q = k then o else y.dn r q }
      (W.setCell ⟨y.Tb i, k, none⟩ (.slice a (if tell = true then N else 0) c)) := by
  have hws : (W.setCell ⟨y.Tb i, k, none⟩ (.slice a (if tell = true then N else 0) c)).heap.size = W.heap.size := by simp
  have hsz : k < (y.vt i).size := (Array.getElem?_eq_some_iff.1 (h.t0 i hi k hk)).1
  refine ⟨h.head.other (h.pt i hi) _ _, h.rtrs.other (h.gt i hi) _ _, h.r0, h.r1, fun r hr => ?_, fun r hr q hq => ?_, fun r hr => ?_, fun r hr q hq ht => ?_, ?_, h.lp, h.lg, h.lt, h.pg, h.pt, h.gt, h.tt, h.bv, h.ylo⟩
  · show Blk _ (y.Tb r) (if r = i then _ else y.vt r) _
    by_cases e1 : r = i
    · subst e1
      rw [if_pos rfl]
      exact (h.tolds r hr).set _ _
    · rw [if_neg e1]
      exact (h.tolds r hr).other (h.tt r i hr hi e1) _ _
  · show (if r = i then (y.vt i).setIfInBounds k _ else y.vt r)[q]? = some (.slice (if r = i ∧ q = k then a else y.ta r q) (if (if r = i ∧ q = k then tell else e.told r q) = true then N else 0) (if r = i ∧ q = k then c else y.tc r q))
    by_cases e1 : r = i
    · subst e1
      rw [if_pos rfl]
      by_cases e2 : q = k
      · subst e2
        rw [Array.getElem?_setIfInBounds_self_of_lt hsz]
        simp
      · rw [Array.getElem?_setIfInBounds_ne (fun c => e2 c.symm), h.t0 r hr q hq]
        simp [e2]
    · have hp : ¬ (r = i ∧ q = k) := fun c => e1 c.1
      simp only [if_neg hp]
      rw [if_neg e1]
      exact h.t0 r hr q hq
  · obtain ⟨h1, h2⟩ := h.routes r hr
    exact ⟨⟨h1.p, h1.g, h1.t, h1.v, by rw [hws]; exact h1.lt, h1.lo⟩, fun j hj => by rw [cell_other (h1.t i hi)]; exact h2 j hj⟩
  · have ht' : (if r = i ∧ q = k then tell else e.told r q) = true := ht
    show (if r = i ∧ q = k then a else y.ta r q) = some ⟨if r = i ∧ q = k then b else y.db r q, if r = i ∧ q = k then o else y.dn r q, none⟩ ∧ Lay.Off _ P N Bv _ (if r = i ∧ q = k then b else y.db r q) ∧ ∀ j, j < N → World.cell? _ ⟨if r = i ∧ q = k then b else y.db r q, (if r = i ∧ q = k then o else y.dn r q) + j, none⟩ = some (.int .i64 ((if r = i ∧ q = k then f else e.D r q) j))
    by_cases e1 : r = i ∧ q = k
    · rw [if_pos e1] at ht'
      simp only [if_pos e1]
      obtain ⟨h1, h2, h3⟩ := hrow ht'
      exact ⟨h1, ⟨h2.p, h2.g, h2.t, h2.v, by rw [hws]; exact h2.lt, h2.lo⟩, fun j hj => by rw [cell_other (h2.t i hi)]; exact h3 j hj⟩
    · rw [if_neg e1] at ht'
      simp only [if_neg e1]
      obtain ⟨h1, h2, h3⟩ := h.rows r hr q hq ht'
      exact ⟨h1, ⟨h2.p, h2.g, h2.t, h2.v, by rw [hws]; exact h2.lt, h2.lo⟩, fun j hj => by rw [cell_other (h2.t i hi)]; exact h3 j hj⟩
  · exact ownsRow_setCell_other h.bag (fun e1 => (h.bv _ e1).2.2 i hi rfl) _
end

end Go.Proofs.YtjhkadffaephmabGreat

/-
  An engine that is changed: its bag.
-/
namespace Go.Proofs.YtjhkadffaephmabGreat
set_option maxRecDepth 100000
open Go.RowKit

section
variable {base P N : Nat} {e : Eng} {Bv : Value} {y : Lay} {W W4 : World}

theorem grown_cell {row : Option Nat} {b j : Nat} (hg : W.grownBy W4 row) (hlt : b < W.heap.size) (hne : row ≠ some b) : W4.cell? ⟨b, j, none⟩ = W.cell? ⟨b, j, none⟩ :=
  World.cell?_of_block (hg.block b hlt (fun e => hne e.symm))

/-- The bag is another row, in its own block or a new one. -/
theorem Live.setBag (h : Live base P N e Bv y W) {Bv' : Value} {l : List Mail} (hg : W.grownBy W4 Bv.ownBlock) (hown : W4.ownsRow base 69 3 Bv' l.length (mailsL l)) (hat : ∀ g, Bv'.ownBlock = some g → Bv.ownBlock = some g ∨ W.heap.size ≤ g) :
    Live base P N { e with bag := l } Bv' y (W4.setCell ⟨P, 1, none⟩ Bv') := by
  have hP : Bv.ownBlock ≠ some P := fun e1 => (h.bv P e1).1 rfl
  have hG : Bv.ownBlock ≠ some y.G := fun e1 => (h.bv _ e1).2.1 rfl
  have hT : ∀ i, i < N → Bv.ownBlock ≠ some (y.Tb i) := fun i hi e1 => (h.bv _ e1).2.2 i hi rfl
  have hsz := hg.size
  have hws : (W4.setCell ⟨P, 1, none⟩ Bv').heap.size = W4.heap.size := by simp
  have hoff : ∀ b, y.Off P N Bv W b → y.Off P N Bv' (W4.setCell ⟨P, 1, none⟩ Bv') b := fun b hb => ⟨hb.p, hb.g, hb.t, fun e1 => by
    rcases hat b e1 with e2 | e2
    · exact hb.v e2
    · have := hb.lt; omega, by rw [hws]; have := hb.lt; omega, hb.lo⟩
  have hbv : ∀ g, Bv'.ownBlock = some g → g ≠ P ∧ g ≠ y.G ∧ ∀ i, i < N → g ≠ y.Tb i := fun g e1 => by
    rcases hat g e1 with e2 | e2
    · exact h.bv g e2
    · have h1 := h.head.lt
      have h2 := h.rtrs.lt
      exact ⟨by omega, by omega, fun i hi => by have := (h.tolds i hi).lt; omega⟩
  have hhead : Blk W4 P #[.slice (some ⟨y.G, 0, none⟩) N y.gc, Bv] 31 := h.head.kept hg (fun e1 => hP e1.symm)
  refine ⟨?_, (h.rtrs.kept hg (fun e1 => hG e1.symm)).other (Ne.symm h.pg) _ _, h.r0, h.r1, fun i hi => ((h.tolds i hi).kept hg (fun e1 => hT i hi e1.symm)).other (Ne.symm (h.pt i hi)) _ _, h.t0, fun i hi => ?_, fun i hi k hk ht => ?_, ?_, h.lp, h.lg, h.lt, h.pg, h.pt, h.gt, h.tt, hbv, h.ylo⟩
  · have := hhead.set 1 Bv'
    simpa using this
  · obtain ⟨h1, h2⟩ := h.routes i hi
    exact ⟨hoff _ h1, fun j hj => by rw [cell_other h1.p, grown_cell hg h1.lt h1.v]; exact h2 j hj⟩
  · obtain ⟨h1, h2, h3⟩ := h.rows i hi k hk ht
    exact ⟨h1, hoff _ h2, fun j hj => by rw [cell_other h2.p, grown_cell hg h2.lt h2.v]; exact h3 j hj⟩
  · exact ownsRow_setCell_other hown (fun e1 => (hbv _ e1).1 rfl) _
end

end Go.Proofs.YtjhkadffaephmabGreat

/-
  signpostref.CheckAlgebra.
-/
namespace Go.Proofs.YtjhkadffaephmabGreat
open Go.RowKit

def Tab.append (s t : Tab) : Tab where
  len := s.len + t.len
  L := fun r => if r < s.len then s.L r else t.L (r - s.len)
  Z := fun r => if r < s.len then s.Z r else t.Z (r - s.len)

theorem Tab.append_wide (s t : Tab) (n : Int) : (s.append t).wide n = (s.wide n && t.wide n) := by
  rw [Bool.eq_iff_iff, Bool.and_eq_true, Tab.wide_iff, Tab.wide_iff, Tab.wide_iff]
  constructor
  · intro h
    refine ⟨fun r hr => ?_, fun r hr => ?_⟩
    · have := h r (show r < s.len + t.len by omega)
      simpa [Tab.append, hr] using this
    · have := h (s.len + r) (show s.len + r < s.len + t.len by omega)
      simpa [Tab.append, show ¬ s.len + r < s.len by omega] using this
  · rintro ⟨h1, h2⟩ r hr
    have hr' : r < s.len + t.len := hr
    by_cases hlt : r < s.len
    · simpa [Tab.append, hlt] using h1 r hlt
    · simpa [Tab.append, hlt] using h2 (r - s.len) (by omega)

theorem Tab.append_routes (s t : Tab) (n : Int) : (s.append t).routes n = (s.routes n && t.routes n) := by
  rw [Bool.eq_iff_iff, Bool.and_eq_true, Tab.routes_iff, Tab.routes_iff, Tab.routes_iff]
  constructor
  · intro h
    refine ⟨fun r hr c hc => ?_, fun r hr c hc => ?_⟩
    · have := h r (show r < s.len + t.len by omega) c (by simpa [Tab.append, hr] using hc)
      simpa [Tab.append, hr] using this
    · have := h (s.len + r) (show s.len + r < s.len + t.len by omega) c (by simpa [Tab.append, show ¬ s.len + r < s.len by omega] using hc)
      simpa [Tab.append, show ¬ s.len + r < s.len by omega] using this
  · rintro ⟨h1, h2⟩ r hr c hc
    have hr' : r < s.len + t.len := hr
    by_cases hlt : r < s.len
    · simpa [Tab.append, hlt] using h1 r hlt c (by simpa [Tab.append, hlt] using hc)
    · simpa [Tab.append, hlt] using h2 (r - s.len) (by omega) c (by simpa [Tab.append, hlt] using hc)

/-- The rows of a table as the cells of a slice of slices. -/
def Mat.rows (m : Mat) : List Value := (List.range m.t.len).map fun r => .slice (m.A r) (m.t.L r) (m.C r)

theorem Mat.rows_length (m : Mat) : m.rows.length = m.t.len := by simp [Mat.rows]
theorem Mat.rows_get (m : Mat) (j : Nat) : m.rows[j]? = if j < m.t.len then some (.slice (m.A j) (m.t.L j) (m.C j)) else none := by
  by_cases h : j < m.t.len <;> simp [Mat.rows, h]

theorem Tryz.info32 : (Tryz.prog.info? 32).map (fun i => (i.zero, i.size, i.bytes)) = some (some (.slice none 0 0), 1, 24) := by kernel_rfl

/-- append, as one step of a region that draws, by what its run comes to. -/
theorem step_append_run {P : Program} {ops : Array Oper} {o : Oper} {a : Act} {w : World} {K : Act → World → Prop} {Q : Exit → Act → World → Prop} {E : Prop}
    (hg : o.guard = none) (s x : Operand) (t : TypeId) (hop : o.op = Op.call { callee := Callee.builtin Builtin.append, args := #[s, x], argTypes := #[t, t] })
    (sv xv : Value) (hs : a.eval s = sv) (hx : a.eval x = xv) (v' : Value) (w' : World) (hrun : (Builtin.append_ #[t, t] o.type #[sv, xv]).run P w = .ok v' w') (hK : K (a.put o.dst v') w') :
    if Region.wanted o (yielded ops a.tmps) = true then Oper.wp P o a w K Q else E := by
  have hw : Region.wanted o (yielded ops a.tmps) = true := by simp [Region.wanted, hg]
  rw [if_pos hw]
  unfold Oper.wp
  simp [execOp, hop, resolve, invoke, builtin, hs, hx, hrun, Result.andThen]
  exact hK

/-- A table's rows appended to a row of one's own. -/
theorem append_mat (W : World) (base k g cap n : Nat) (xs : List Value) (hown : W.ownsRow base 32 1 (.slice (some ⟨g, 0, none⟩) n cap) n xs) (m : Mat) (hm : m.In k W) (hb : base ≤ W.heap.size) (hsz : n + m.t.len ≤ 1000) (ty : TypeId) :
    ∃ g' cap' W', (Builtin.append_ #[22, 22] ty #[.slice (some ⟨g, 0, none⟩) n cap, m.val]).run Tryz.prog W = .ok (.slice (some ⟨g', 0, none⟩) (n + m.t.len) cap') W' ∧
      W'.ownsRow base 32 1 (.slice (some ⟨g', 0, none⟩) (n + m.t.len) cap') (n + m.t.len) (xs ++ m.rows) ∧ W.grownBy W' (some g) := by
  obtain ⟨i0, hi, hz0, hz1, hz2⟩ := info_parts Tryz.info32
  cases hga : m.ga with
  | some a =>
    obtain ⟨v', W', hrun, ho, hgr, hnil⟩ := run_append_own (P := Tryz.prog) W base 22 ty 32 i0 (.slice none 0 0) 1 24 Tryz.underlying22 hi hz0 hz1 hz2 rfl (by decide) (.slice (some ⟨g, 0, none⟩) n cap) n xs hown a m.t.len m.cap m.rows (by rw [m.rows_length, Nat.mul_one])
      (fun j u hju => by
        rw [m.rows_get] at hju
        split at hju
        · next hj =>
          have e := hm.ga (by omega)
          rw [hga] at e
          cases e
          cases hju
          have := hm.row j hj
          by_cases h0 : j = 0
          · subst h0; simpa [Addr.add] using this
          · simpa [Addr.add, h0] using this
        · cases hju)
      (fun u hu => by
        obtain ⟨r, _, rfl⟩ := List.mem_map.1 hu
        rfl)
      (by unfold maxLen; omega) (by omega) hb
    have hv' : ∃ g' cap', v' = .slice (some ⟨g', 0, none⟩) (n + m.t.len) cap' := by
      rcases ho.2 with ⟨h0, _⟩ | ⟨g', cap', cur, h1, _⟩
      · have := (hnil.1 h0).1
        cases this
      · exact ⟨g', cap', h1⟩
    obtain ⟨g', cap', rfl⟩ := hv'
    exact ⟨g', cap', W', by rw [Mat.val, hga]; exact hrun, ho, hgr⟩
  | none =>
    have h0 : m.t.len = 0 := by
      rcases Nat.eq_zero_or_pos m.t.len with h | h
      · exact h
      · have := hm.ga h; rw [hga] at this; cases this
    have hrows : m.rows = [] := by simp [Mat.rows, h0]
    have hcap : n + 0 ≤ cap := by
      rcases hown.2 with ⟨h1, _⟩ | ⟨g', cap', cur, h1, _, _, h2, _⟩
      · cases h1
      · cases h1; exact h2
    have hrun := run_append_room_src (P := Tryz.prog) W 22 22 ty 32 i0 Tryz.underlying22 hi g 0 n cap (.slice none 0 m.cap) 0 [] (Src.ofNil W Tryz.underlying22 m.cap) hcap (fun j hj => absurd hj (Nat.not_lt_zero _)) (fun j hj => absurd hj (Nat.not_lt_zero _))
    refine ⟨g, cap, W, ?_, ?_, ⟨rfl, rfl, rfl, Nat.le_refl _, fun _ _ _ => rfl⟩⟩
    · rw [Mat.val, hga, h0]
      exact hrun
    · rw [h0, hrows, List.append_nil]
      exact hown

/-- The rows of two tables in one row of one's own are a table. -/
theorem all_mat {W : World} {base k g cap : Nat} {B E : Mat} (hown : W.ownsRow base 32 1 (.slice (some ⟨g, 0, none⟩) (B.t.len + E.t.len) cap) (B.t.len + E.t.len) (B.rows ++ E.rows)) (hB : B.In k W) (hE : E.In k W) (hk : k ≤ W.heap.size) (hsz : B.t.len + E.t.len ≤ 1000) :
    ∃ m : Mat, m.val = .slice (some ⟨g, 0, none⟩) (B.t.len + E.t.len) cap ∧ m.In W.heap.size W ∧ m.t = B.t.append E.t := by
  have hlt := (hown.lt g rfl).2
  have hc := hown.cells (g := g) rfl
  refine ⟨⟨some ⟨g, 0, none⟩, g, 0, cap, fun r => if r < B.t.len then B.A r else E.A (r - B.t.len), fun r => if r < B.t.len then B.C r else E.C (r - B.t.len), fun r => if r < B.t.len then B.RB r else E.RB (r - B.t.len), fun r => if r < B.t.len then B.RO r else E.RO (r - B.t.len), B.t.append E.t⟩, rfl, ⟨fun _ => rfl, fun _ => hlt, ?_, ?_, ?_, ?_, ?_⟩, rfl⟩
  · intro r hr
    have hr' : r < B.t.len + E.t.len := hr
    by_cases hb : r < B.t.len
    · have := hc r (.slice (B.A r) (B.t.L r) (B.C r)) (by rw [List.getElem?_append_left (by rw [B.rows_length]; exact hb), B.rows_get, if_pos hb])
      by_cases h0 : r = 0
      · subst h0; simpa [Addr.add, Tab.append, hb] using this
      · simpa [Addr.add, h0, Tab.append, hb] using this
    · have := hc r (.slice (E.A (r - B.t.len)) (E.t.L (r - B.t.len)) (E.C (r - B.t.len))) (by rw [List.getElem?_append_right (by rw [B.rows_length]; omega), B.rows_length, E.rows_get, if_pos (by omega)])
      by_cases h0 : r = 0
      · subst h0; simpa [Addr.add, Tab.append, hb] using this
      · simpa [Addr.add, h0, Tab.append, hb] using this
  · intro r hr h0
    have hr' : r < B.t.len + E.t.len := hr
    by_cases hb : r < B.t.len
    · have := hB.addr r hb (by simpa [Tab.append, hb] using h0)
      simp only [hb, if_true]
      exact ⟨this.1, Nat.lt_of_lt_of_le this.2 hk⟩
    · have := hE.addr (r - B.t.len) (by omega) (by simpa [Tab.append, hb] using h0)
      simp only [hb, if_false]
      exact ⟨this.1, Nat.lt_of_lt_of_le this.2 hk⟩
  · intro r hr c hcc
    have hr' : r < B.t.len + E.t.len := hr
    by_cases hb : r < B.t.len
    · have := hB.cell r hb c (by simpa [Tab.append, hb] using hcc)
      simpa [Tab.append, hb] using this
    · have := hE.cell (r - B.t.len) (by omega) c (by simpa [Tab.append, hb] using hcc)
      simpa [Tab.append, hb] using this
  · show B.t.len + E.t.len ≤ maxLen
    unfold maxLen; omega
  · intro r hr
    have hr' : r < B.t.len + E.t.len := hr
    by_cases hb : r < B.t.len
    · have := hB.lens r hb
      simpa [Tab.append, hb] using this
    · have := hE.lens (r - B.t.len) (by omega)
      simpa [Tab.append, hb] using this

end Go.Proofs.YtjhkadffaephmabGreat

/-
  engine.twice.
-/
namespace Go.Proofs.YtjhkadffaephmabGreat
set_option maxRecDepth 100000
open Go.RowKit

theorem Tryz.infoMail : (Tryz.prog.info? 69).map (fun i => (i.zero.map (fun z => z.cells.size), i.size, i.bytes)) = some (some 3, 3, 32) := by kernel_rfl

/-- The append of one mail, run ahead. -/
theorem append_mail (W : World) (base : Nat) (V : Value) (l : List Mail) (m : Mail) (ho : W.ownsRow base 69 3 V l.length (mailsL l)) (hk : l.length ≤ 200) (hC : base ≤ W.heap.size) (ty : TypeId) :
    ∃ g cap W4, (Builtin.append_ #[29, 29] ty #[V, .slice (some ⟨W.heap.size, 0, none⟩) 1 1]).run Tryz.prog (W.alloc (.cells #[.int .i64 m.F, .int .i64 m.T, .string ⟨m.b.toArray⟩] 69)).drew = .ok (.slice (some ⟨g, 0, none⟩) (l.length + 1) cap) W4 ∧
      W4.ownsRow base 69 3 (.slice (some ⟨g, 0, none⟩) (l.length + 1) cap) (l ++ [m]).length (mailsL (l ++ [m])) ∧ W.grownBy W4 V.ownBlock ∧ (V.ownBlock = some g ∨ W.heap.size ≤ g) := by
  obtain ⟨i0, hi0, hq⟩ : ∃ i, Tryz.prog.info? 69 = some i ∧ (i.zero.map (fun z => z.cells.size), i.size, i.bytes) = (some 3, 3, 32) := Option.map_eq_some_iff.1 Tryz.infoMail
  obtain ⟨z, hz, hzs⟩ : ∃ z, i0.zero = some z ∧ z.cells.size = 3 := by
    have := congrArg Prod.fst hq
    simpa [Option.map_eq_some_iff] using this
  have hsz : i0.size = 3 := congrArg (fun x => x.2.1) hq
  have hby : i0.bytes = 32 := congrArg (fun x => x.2.2) hq
  have hb0 : (W.alloc (.cells #[.int .i64 m.F, .int .i64 m.T, .string ⟨m.b.toArray⟩] 69)).drew.heap.size = W.heap.size + 1 := by
    show (W.alloc _).heap.size = _
    simp
  have ho2 := (ho.alloc (.cells #[.int .i64 m.F, .int .i64 m.T, .string ⟨m.b.toArray⟩] 69)).drew
  obtain ⟨g, cap, w', hr, h2, h3, h4, h5⟩ := run_append_lies (P := Tryz.prog) (W.alloc (.cells #[.int .i64 m.F, .int .i64 m.T, .string ⟨m.b.toArray⟩] 69)).drew 29 ty base 69 i0 z 3 32 Tryz.underlying29 hi0 hz hsz hby hzs (by decide) V l.length _ ho2 ⟨W.heap.size, 0, none⟩ 1 1 [.int .i64 m.F, .int .i64 m.T, .string ⟨m.b.toArray⟩] rfl (World.news_of_block (cs := #[.int .i64 m.F, .int .i64 m.T, .string ⟨m.b.toArray⟩]) (show (W.alloc (.cells #[.int .i64 m.F, .int .i64 m.T, .string ⟨m.b.toArray⟩] 69)).drew.heap[W.heap.size]? = _ from heap_alloc_new W _)) (by simp [Value.oneCell']) (by decide) (by unfold maxLen; omega) (by omega) (by omega) _ rfl
  refine ⟨g, cap, w', hr, ?_, ?_, ?_⟩
  · rw [mailsL_append, List.length_append]
    exact h2
  · exact ⟨h3.os, h3.tape, h3.output, by have := h3.size; omega, fun k hk' hne => (h3.block k (by omega) hne).trans ((World.grownBy_alloc W (.cells #[.int .i64 m.F, .int .i64 m.T, .string ⟨m.b.toArray⟩] 69) none).block k hk' (by simp))⟩
  · rcases h4 with h4 | h4
    · exact Or.inl h4
    · right; omega

/-- What stands at a place of the bag. -/
theorem mailsL_get : ∀ (l : List Mail) (i : Nat), i < l.length → (mailsL l)[i * 3]? = some (.int .i64 (l.getD i noMail).F) ∧ (mailsL l)[i * 3 + 1]? = some (.int .i64 (l.getD i noMail).T) ∧ (mailsL l)[i * 3 + 2]? = some (.string ⟨(l.getD i noMail).b.toArray⟩)
  | [], i, h => absurd h (Nat.not_lt_zero _)
  | m :: l, 0, _ => ⟨rfl, rfl, rfl⟩
  | m :: l, i + 1, h => by
    have ih := mailsL_get l i (by simpa using h)
    have e : mailsL (m :: l) = [.int .i64 m.F, .int .i64 m.T, .string ⟨m.b.toArray⟩] ++ mailsL l := rfl
    have g : (m :: l).getD (i + 1) noMail = l.getD i noMail := rfl
    rw [e, g, show (i + 1) * 3 = i * 3 + 3 by omega]
    refine ⟨?_, ?_, ?_⟩
    · rw [List.getElem?_append_right (by simp)]; exact ih.1
    · rw [List.getElem?_append_right (by simp)]; exact ih.2.1
    · rw [List.getElem?_append_right (by simp)]; exact ih.2.2
theorem Live.mail {base P N : Nat} {e : Eng} {Bv : Value} {y : Lay} {W : World} (h : Live base P N e Bv y W) {i : Nat} (hi : i < e.bag.length) :
    ∃ g cap : Nat, Bv = .slice (some ⟨g, 0, none⟩) e.bag.length cap ∧ W.cell? ⟨g, i * 3, none⟩ = some (.int .i64 (e.bag.getD i noMail).F) ∧ W.cell? ⟨g, i * 3 + 1, none⟩ = some (.int .i64 (e.bag.getD i noMail).T) ∧ W.cell? ⟨g, i * 3 + 2, none⟩ = some (.string ⟨(e.bag.getD i noMail).b.toArray⟩) := by
  rcases Go.Joins.ownsRow_forms h.bag with ⟨_, e0⟩ | ⟨g, cap, e1⟩
  · omega
  · have hb := h.bag
    rw [e1] at hb
    obtain ⟨m0, m1, m2⟩ := mailsL_get e.bag i hi
    exact ⟨g, cap, e1, by rw [hb.cellAt _ (by omega)]; exact m0, by rw [hb.cellAt _ (by omega)]; exact m1, by rw [hb.cellAt _ (by omega)]; exact m2⟩

end Go.Proofs.YtjhkadffaephmabGreat

/-
  slices.Clone, slices.Equal, slices.EqualFunc; state.Copy, state.Same.
-/
namespace Go.Proofs.YtjhkadffaephmabGreat
set_option maxRecDepth 100000
open Go.RowKit

set_option maxHeartbeats 1000000 in
theorem clone_any (a : Option Addr) (p q b o : Nat) (f : Nat → Int) (w : World) (h : Ints a p b o f w) (hp : 0 < p) (hp1 : p ≤ 100) (hb : b < w.heap.size) :
    Calls Tryz.prog 43 #[.slice a p q] w fun e w' => ∃ g c : Nat, e = .returned (.slice (some ⟨g, 0, none⟩) p c) ∧ Below w.heap.size w w' ∧ w.heap.size ≤ g ∧ g < w'.heap.size ∧ ∀ j, j < p → w'.cell? ⟨g, j, none⟩ = some (.int .i64 (f j)) := by
  obtain ⟨i1, hi1, hy0, hy1, hy2⟩ := info_parts Tryz.infoInt
  have ha := h.addr hp
  subst ha
  have hBa : Below w.heap.size w (w.alloc (.cells #[] 3)) := (Below.refl _ w).alloc (Nat.le_refl _) _
  have h2 := h.below hBa (fun _ => hb)
  have hown0 : World.ownsRow (w.alloc (.cells #[] 3)) w.heap.size 3 1 (.slice (some ⟨w.heap.size, 0, none⟩) 0 0) 0 [] :=
    World.ownsRow_made w #[] 0 (base := w.heap.size) (e := 3) (size := 1) (Nat.le_refl _) (Nat.zero_le _) (by simp)
  have hl : (intsL f p).length = p * 1 := by rw [intsL_len, Nat.mul_one]
  have hnews : ∀ j u, (intsL f p)[j]? = some u → (w.alloc (.cells #[] 3)).cell? ((⟨b, o, none⟩ : Addr).add j) = some u := fun j u hu => by
    have hj : j < p := by
      rcases Nat.lt_or_ge j p with h' | h'
      · exact h'
      · rw [List.getElem?_eq_none (by rw [intsL_len]; exact h')] at hu; cases hu
    rw [intsL_get hj] at hu
    cases hu
    rw [Go.WideShapes.add_plain]
    exact h2.cell j hj
  have hone : ∀ u ∈ intsL f p, u.oneCell' = true := fun u hu => by
    simp only [intsL, List.mem_map] at hu
    obtain ⟨j, _, rfl⟩ := hu
    rfl
  have hnil := Lib.run_eql_slice_nil (P := Tryz.prog) w 32 3 (some ⟨b, o, none⟩) p q 0 0 Tryz.underlying32
  have Hown := hide hown0
  have Hnews := hide hnews
  have Hone := hide hone
  have HBa := hide hBa
  clear h h2 hBa hown0 hnews hone
  go_enter Tryz.func43, Tryz.ntmps43
  go_wp2_with (at_builtin; refine wpList_append_lies _ rfl _ _ _ rfl w.heap.size 3 i1 _ 1 8 Tryz.underlying32 hi1 hy0 hy1 hy2 rfl (by decide) _ 0 [] rfl Hown.out ⟨b, o, none⟩ p q (intsL f p) rfl hl Hnews.out Hone.out hp ?c3 ?c4 ?c5 _ rfl ?_)
  all_goals try (case c3 => unfold maxLen; omega)
  all_goals try (case c4 => omega)
  all_goals try (case c5 => simp)
  intro g c w' hown hgrow hat hlt
  have hB : Below w.heap.size w w' := HBa.out.grown hgrow (by simp) (fun k hk => by cases hk; exact Nat.le_refl _)
  have hcell : ∀ j, j < p → w'.cell? ⟨g, j, none⟩ = some (.int .i64 (f j)) := fun j hj => by
    rw [hown.cellAt j (by omega), intsL_get hj]
  have hg := (hown.lt g rfl).1
  have HF := hide (And.intro hB (And.intro hg (And.intro hlt hcell)))
  clear hown hgrow hat hlt hB hcell hg
  go_wp2
  go_ret
  exact ⟨g, c, rfl, HF.out⟩

end Go.Proofs.YtjhkadffaephmabGreat

/-
  A region that draws its order and whose last operation alone turns what the others stand on.
-/
namespace Go.Proofs.YtjhkadffaephmabGreat
open Go

section
variable {P : Program} {ops : Array Oper} {Q : Exit → Act → World → Prop} {md : Region.Mode}

/-- Each operation ahead of number L is waited for by one behind it, up to L. -/
def coversTo (md : Region.Mode) (ops : Array Oper) (L : Nat) : Bool :=
  (List.range L).all fun k => (List.range (L + 1)).any fun i => decide (k < i) && (match ops[i]? with | some o => (waits md o).contains k | none => false)
/-- Each operation behind number L waits for it. -/
def waitsFor (md : Region.Mode) (ops : Array Oper) (L : Nat) : Bool :=
  (List.range ops.size).all fun i => decide (i ≤ L) || (match ops[i]? with | some o => (waits md o).contains L | none => false)

/-- What is done was waited for. -/
def Shut (md : Region.Mode) (ops : Array Oper) (d : Nat → Bool) : Prop := ∀ i o, ops[i]? = some o → d i = true → ∀ j ∈ waits md o, d j = true

theorem coversTo_spec {L : Nat} (h : coversTo md ops L = true) {d : Nat → Bool} (hs : Shut md ops d) {oL : Oper} (hL : ops[L]? = some oL) (hw : ∀ j ∈ waits md oL, d j = true) : ∀ k, k < L → d k = true := by
  have key : ∀ m k, L - k ≤ m → k < L → d k = true := by
    intro m
    induction m with
    | zero => intro k h1 h2; omega
    | succ m ih =>
      intro k h1 h2
      unfold coversTo at h
      rw [List.all_eq_true] at h
      have := h k (by simpa using h2)
      rw [List.any_eq_true] at this
      obtain ⟨i, hi, hx⟩ := this
      simp only [List.mem_range, Bool.and_eq_true, decide_eq_true_eq] at hi hx
      obtain ⟨hx1, hx2⟩ := hx
      cases ho : ops[i]? with
      | none => rw [ho] at hx2; cases hx2
      | some o =>
        rw [ho] at hx2
        have hm : k ∈ waits md o := by simpa using hx2
        by_cases e : i = L
        · subst e
          rw [hL] at ho
          cases ho
          exact hw k hm
        · exact hs i o ho (ih i (by omega) (by omega)) k hm
  exact fun k hk => key (L - k) k (Nat.le_refl _) hk

theorem Shut.upd {d : Nat → Bool} (h : Shut md ops d) {i : Nat} {o : Oper} (ho : ops[i]? = some o) (hw : ∀ j ∈ waits md o, d j = true) : Shut md ops (updB d i) := by
  intro k o' hk hd j hj
  unfold updB at hd ⊢
  by_cases e : k = i
  · subst e
    rw [hk] at ho
    cases ho
    split
    · rfl
    · exact hw j hj
  · rw [if_neg e] at hd
    split
    · rfl
    · exact h k o' hk hd j hj

/-- Those ahead of number L: as EachOp, and what lies in the slots of the others is what lay there. -/
def EachAhead (P : Program) (md : Region.Mode) (ops : Array Oper) (Q : Exit → Act → World → Prop) (L : Nat) (G : World → Prop) (E : Nat → Value → World → Prop) (a0 : Act) : List Oper → Nat → Prop
  | [], _ => True
  | o :: os, i => (∀ (t : Nat → Value) (w : World), G w → (∀ j ∈ waits md o, E j (t j) w) → (∀ k, L ≤ k → t k = first ops.toList a0 k) →
      ∀ K : Act → World → Prop, (∀ v w', G w' → E i v w' → (∀ j u, j ≠ i → E j u w → E j u w') → K ((fill ops.toList 0 t a0).put o.dst v) w') →
        if Region.wanted o (yielded ops (fill ops.toList 0 t a0).tmps) = true then Oper.wp P o (fill ops.toList 0 t a0) w K Q else K ((fill ops.toList 0 t a0).put o.dst undef) w) ∧
    EachAhead P md ops Q L G E a0 os (i + 1)

theorem EachAhead.at {L : Nat} {G : World → Prop} {E : Nat → Value → World → Prop} {a0 : Act} : ∀ (os : List Oper) (k i : Nat) (o : Oper), EachAhead P md ops Q L G E a0 os k → os[i]? = some o →
    ∀ (t : Nat → Value) (w : World), G w → (∀ j ∈ waits md o, E j (t j) w) → (∀ k, L ≤ k → t k = first ops.toList a0 k) →
      ∀ K : Act → World → Prop, (∀ v w', G w' → E (k + i) v w' → (∀ j u, j ≠ k + i → E j u w → E j u w') → K ((fill ops.toList 0 t a0).put o.dst v) w') →
        if Region.wanted o (yielded ops (fill ops.toList 0 t a0).tmps) = true then Oper.wp P o (fill ops.toList 0 t a0) w K Q else K ((fill ops.toList 0 t a0).put o.dst undef) w
  | [], _, _, _, _, h => by simp at h
  | o' :: os, k, 0, o, he, h => by
    simp at h
    subst h
    exact he.1
  | o' :: os, k, i + 1, o, he, h => by
    have := EachAhead.at os (k + 1) i o he.2 (by simpa using h)
    rw [show k + 1 + i = k + (i + 1) by omega] at this
    exact this

/-- Those behind number L: what each leaves, as L has left it. -/
def EachAfter (P : Program) (ops : Array Oper) (Q : Exit → Act → World → Prop) (L : Nat) (G' : Value → World → Prop) (E' : Nat → Value → Value → Prop) (a0 : Act) : List Oper → Nat → Prop
  | [], _ => True
  | o :: os, i => (∀ (t : Nat → Value) (w : World), G' (t L) w →
      ∀ K : Act → World → Prop, (∀ v, E' i v (t L) → K ((fill ops.toList 0 t a0).put o.dst v) w) →
        if Region.wanted o (yielded ops (fill ops.toList 0 t a0).tmps) = true then Oper.wp P o (fill ops.toList 0 t a0) w K Q else K ((fill ops.toList 0 t a0).put o.dst undef) w) ∧
    EachAfter P ops Q L G' E' a0 os (i + 1)

theorem EachAfter.at {L : Nat} {G' : Value → World → Prop} {E' : Nat → Value → Value → Prop} {a0 : Act} : ∀ (os : List Oper) (k i : Nat) (o : Oper), EachAfter P ops Q L G' E' a0 os k → os[i]? = some o →
    ∀ (t : Nat → Value) (w : World), G' (t L) w →
      ∀ K : Act → World → Prop, (∀ v, E' (k + i) v (t L) → K ((fill ops.toList 0 t a0).put o.dst v) w) →
        if Region.wanted o (yielded ops (fill ops.toList 0 t a0).tmps) = true then Oper.wp P o (fill ops.toList 0 t a0) w K Q else K ((fill ops.toList 0 t a0).put o.dst undef) w
  | [], _, _, _, _, h => by simp at h
  | o' :: os, k, 0, o, he, h => by
    simp at h
    subst h
    exact he.1
  | o' :: os, k, i + 1, o, he, h => by
    have := EachAfter.at os (k + 1) i o he.2 (by simpa using h)
    rw [show k + 1 + i = k + (i + 1) by omega] at this
    exact this

structure LastI (md : Region.Mode) (ops : Array Oper) (a0 : Act) (L : Nat) (G : World → Prop) (E : Nat → Value → World → Prop) (G' : Value → World → Prop) (E' : Nat → Value → Value → Prop) (d : Nat → Bool) (t : Nat → Value) (w : World) : Prop where
  shut : Shut md ops d
  ahead : d L = false → G w ∧ (∀ k, k < L → d k = true → E k (t k) w) ∧ ∀ k, L ≤ k → t k = first ops.toList a0 k
  behind : d L = true → G' (t L) w ∧ ∀ k, L < k → k < ops.size → d k = true → E' k (t k) (t L)

theorem each_of_last {L : Nat} {G : World → Prop} {E : Nat → Value → World → Prop} {G' : Value → World → Prop} {E' : Nat → Value → Value → Prop} {a0 : Act}
    (hb : backBinds md ops.toList 0 = true) (hc : coversTo md ops L = true) (hf : waitsFor md ops L = true) {oL : Oper} (hoL : ops[L]? = some oL)
    (hs : EachAhead P md ops Q L G E a0 (ops.toList.take L) 0)
    (hL : ∀ (t : Nat → Value) (w : World), G w → (∀ k, k < L → E k (t k) w) → (∀ k, L ≤ k → t k = first ops.toList a0 k) → ∀ K : Act → World → Prop, (∀ v w', G' v w' → K ((fill ops.toList 0 t a0).put oL.dst v) w') →
        if Region.wanted oL (yielded ops (fill ops.toList 0 t a0).tmps) = true then Oper.wp P oL (fill ops.toList 0 t a0) w K Q else K ((fill ops.toList 0 t a0).put oL.dst undef) w)
    (ha : EachAfter P ops Q L G' E' a0 (ops.toList.drop (L + 1)) (L + 1)) :
    ∀ (os : List Oper) (i : Nat), (∀ j o, os[j]? = some o → ops[i + j]? = some o) → EachI P md ops Q (LastI md ops a0 L G E G' E') a0 os i
  | [], _, _ => trivial
  | o :: os, i, hos => by
    refine ⟨?_, each_of_last hb hc hf hoL hs hL ha os (i + 1) (fun j o' hj => by rw [show i + 1 + j = i + (j + 1) by omega]; exact hos (j + 1) o' (by simpa using hj))⟩
    have ho : ops[i]? = some o := by simpa using hos 0 o rfl
    intro d t w hI hd hp K hK
    have hsh := hI.shut.upd ho hp
    rcases Nat.lt_trichotomy i L with hlt | heq | hgt
    · have hdL : d L = false := by
        cases e : d L with
        | false => rfl
        | true =>
          have := coversTo_spec hc hI.shut hoL (hI.shut L oL hoL e) i hlt
          rw [hd] at this
          cases this
      obtain ⟨hG, hE, hT⟩ := hI.ahead hdL
      have hat := EachAhead.at (ops.toList.take L) 0 i o hs (by rw [List.getElem?_take, if_pos hlt]; simpa using ho) t w hG (fun j hj => by
        have hdj := hp j hj
        refine hE j ?_ hdj
        rcases Nat.lt_trichotomy j L with h | h | h
        · exact h
        · subst h; rw [hdL] at hdj; cases hdj
        · exfalso
          have hji : j < i := by
            simp only [waits, List.mem_map, List.mem_filter] at hj
            obtain ⟨e, ⟨he, hbi⟩, rfl⟩ := hj
            have := backBinds_spec md ops.toList 0 i o hb (by simpa using ho) e (by simpa using he) hbi
            omega
          omega) hT K
      refine hat (fun v w' hG' hEi hkeep => hK v w' ⟨hsh, fun _ => ⟨hG', fun k hk hdk => ?_, fun k hk => by rw [upd_other t v (by omega)]; exact hT k hk⟩, fun e => ?_⟩)
      · rw [Nat.zero_add] at hEi hkeep
        by_cases e : k = i
        · subst e; rw [upd_same]; exact hEi
        · rw [upd_other t v e]
          have : d k = true := by simpa [updB, e] using hdk
          exact hkeep k (t k) e (hE k hk this)
      · have : d L = true := by simpa [updB, Nat.ne_of_gt hlt] using e
        rw [hdL] at this; cases this
    · subst heq
      rw [hoL] at ho
      cases ho
      obtain ⟨hG, hE, hT⟩ := hI.ahead hd
      have hcov := coversTo_spec hc hI.shut hoL hp
      refine hL t w hG (fun k hk => hE k hk (hcov k hk)) hT K (fun v w' hG' => hK v w' ⟨hsh, fun e => ?_, fun _ => ⟨by rw [upd_same]; exact hG', fun k hk hks hdk => ?_⟩⟩)
      · simp [updB] at e
      · exfalso
        have hdk' : d k = true := by simpa [updB, Nat.ne_of_gt hk] using hdk
        unfold waitsFor at hf
        rw [List.all_eq_true] at hf
        have := hf k (by simpa using hks)
        rw [Array.getElem?_eq_getElem hks] at this
        simp only [Bool.or_eq_true, decide_eq_true_eq] at this
        rcases this with h | h
        · omega
        · have := hI.shut k ops[k] (Array.getElem?_eq_getElem hks) hdk' i (by simpa using h)
          rw [hd] at this; cases this
    · have hdL : d L = true := by
        unfold waitsFor at hf
        rw [List.all_eq_true] at hf
        have := hf i (by simpa using (Array.getElem?_eq_some_iff.1 ho).1)
        rw [ho] at this
        simp only [Bool.or_eq_true, decide_eq_true_eq] at this
        rcases this with h | h
        · omega
        · exact hp L (by simpa using h)
      obtain ⟨hG', hE'⟩ := hI.behind hdL
      have hat := EachAfter.at (ops.toList.drop (L + 1)) (L + 1) (i - (L + 1)) o ha (by rw [List.getElem?_drop, show L + 1 + (i - (L + 1)) = i by omega]; simpa using ho) t w hG' K
      rw [show L + 1 + (i - (L + 1)) = i by omega] at hat
      refine hat (fun v hv => hK v w ⟨hsh, fun e => ?_, fun _ => ?_⟩)
      · have : d L = false := by simpa [updB, Nat.ne_of_lt hgt] using e
        rw [hdL] at this; cases this
      · rw [upd_other t v (Nat.ne_of_lt hgt)]
        refine ⟨hG', fun k hk hks hdk => ?_⟩
        by_cases e : k = i
        · subst e; rw [upd_same]; exact hv
        · rw [upd_other t v e]
          exact hE' k hk hks (by simpa [updB, e] using hdk)

theorem wp_region_last {id : Nat} {a : Act} {w : World} (L : Nat) (oL : Oper) (G : World → Prop) (E : Nat → Value → World → Prop) (G' : Value → World → Prop) (E' : Nat → Value → Value → Prop) (hm : P.follows .mixedOrders = true)
    (hap : allApart ops.toList = true) (hb : backBinds .any ops.toList 0 = true) (hc : coversTo .any ops L = true) (hf : waitsFor .any ops L = true) (hoL : ops[L]? = some oL) (hG : G w.drew)
    (hs : EachAhead P .any ops Q L G E a (ops.toList.take L) 0)
    (hL : ∀ (t : Nat → Value) (w : World), G w → (∀ k, k < L → E k (t k) w) → (∀ k, L ≤ k → t k = first ops.toList a k) → ∀ K : Act → World → Prop, (∀ v w', G' v w' → K ((fill ops.toList 0 t a).put oL.dst v) w') →
        if Region.wanted oL (yielded ops (fill ops.toList 0 t a).tmps) = true then Oper.wp P oL (fill ops.toList 0 t a) w K Q else K ((fill ops.toList 0 t a).put oL.dst undef) w)
    (ha : EachAfter P ops Q L G' E' a (ops.toList.drop (L + 1)) (L + 1))
    (hend : ∀ (t : Nat → Value) (w : World), G' (t L) w → (∀ k, L < k → k < ops.size → E' k (t k) (t L)) → Q .normal (fill ops.toList 0 t a) w) :
    (Code.region id ops true).wp P Q a w := by
  have hLs : L < ops.size := (Array.getElem?_eq_some_iff.1 hoL).1
  refine wp_region_any hm ?_
  have hz : (fun i => (Array.replicate ops.size false).getD i false) = fun _ => false := by
    funext i
    by_cases hi : i < ops.size
    · simp [hi]
    · simp [hi]
  have := wpAny_inv (md := .any) (I := LastI .any ops a L G E G' E') hap hb (each_of_last hb hc hf hoL hs hL ha ops.toList 0 (fun j o hj => by simpa using hj)) (fun d t w hI hall => by
    obtain ⟨h1, h2⟩ := hI.behind (hall L hLs)
    exact hend t w h1 (fun k hk hks => h2 k hk hks (hall k hks))) ops.size (Array.replicate ops.size false) (first ops.toList a) w.drew (by simp) (by simp)
    (by rw [hz]; exact ⟨fun i o _ h => by simp at h, fun _ => ⟨hG, fun k _ h => by simp at h, fun _ _ => rfl⟩, fun h => by simp at h⟩)
  rw [fill_first] at this
  exact this
end

end Go.Proofs.YtjhkadffaephmabGreat
