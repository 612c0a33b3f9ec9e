/-
  Our own texts, bundled: a claim holds few files.
-/
import Derived.Test.YtjhkadffaephmabGreatCutEnginePlaysAG
import Derived.Test.YtjhkadffaephmabGreatCutEnginePlaysAD
import Derived.Test.YtjhkadffaephmabGreatCutEnginePlaysAC
import Derived.Deep.RegionLaw
import Derived.Deep.AppendSrc
import Derived.Lib.SliceRun
/-
 Tables of which row by row is made, each in a block of its own that another call made.
-/
namespace Go.Proofs.YtjhkadffaephmabGreat
set_option maxRecDepth 100000
open Go.RowKit

/-- The cells of a table of which i rows are made. -/
def outG (g c : Nat → Nat) (p n i : Nat) : Array Value := ((List.range n).map fun r => if r < i then Value.slice (some ⟨g r, 0, none⟩) p (c r) else .slice none 0 0).toArray
theorem outG_get {g c : Nat → Nat} {p n i r : Nat} (h : r < n) : (outG g c p n i)[r]? = some (if r < i then Value.slice (some ⟨g r, 0, none⟩) p (c r) else .slice none 0 0) := by
 simp [outG, h]
/-- f, but v at i. -/
def updN (f : Nat → Nat) (i v : Nat) : Nat → Nat := fun r => if r = i then v else f r
theorem updN_same (f : Nat → Nat) (i v : Nat) : updN f i v i = v := by simp [updN]
theorem updN_other (f : Nat → Nat) {i r : Nat} (v : Nat) (h : r ≠ i) : updN f i v r = f r := by simp [updN, h]
theorem outG_set {g c : Nat → Nat} {p n i a b : Nat} : (outG g c p n i).setIfInBounds i (.slice (some ⟨a, 0, none⟩) p b) = outG (updN g i a) (updN c i b) p n (i + 1) := by
 apply Array.ext
 ·simp [outG]
 ·intro j h1 h2
  have hn : j < n := by simpa [outG] using h2
  by_cases e : i = j
  ·subst e
   simp [outG, updN]
  ·rw [Array.getElem_setIfInBounds_ne (by simpa [outG] using hn) e]
   simp only [outG, List.getElem_toArray, List.getElem_map, List.getElem_range, updN_other _ _ (Ne.symm e)]
   by_cases h : j < i
   ·rw [if_pos h, if_pos (by omega)]
   ·rw [if_neg h, if_neg (by omega)]
theorem outG_zero (g c : Nat → Nat) (p n : Nat) : madeCells #[.slice none 0 0] n = outG g c p n 0 := by
 apply Array.ext'
 rw [toList_madeCells_one]
 simp [outG, List.map_const']

/-- i rows are made. -/
structure MadeI (lo ob : Nat) (g c : Nat → Nat) (p n : Nat) (Z : Nat → Nat → Int) (i : Nat) (W : World) : Prop where
 out : Blk W ob (outG g c p n i) 32
 base : lo ≤ ob
 rows : ∀ r, r < i → lo ≤ g r ∧ g r < W.heap.size ∧ g r ≠ ob ∧ ∀ j, j < p → W.cell? ⟨g r, j, none⟩ = some (.int .i64 (Z r j))

theorem MadeI.start (w : World) (lo p n : Nat) (Z : Nat → Nat → Int) (h : lo ≤ w.heap.size) : MadeI lo w.heap.size (fun _ => 0) (fun _ => 0) p n Z 0 (w.alloc (.cells (madeCells #[.slice none 0 0] n) 32)) where
 out := by rw [outG_zero (fun _ => 0) (fun _ => 0) p n]; exact Blk.new w _ _
 base := h
 rows := fun r hr => absurd hr (Nat.not_lt_zero _)

/-- A state of n rows of n each, made anew from lo on. -/
def Fresh (n lo : Nat) (Z : Nat → Nat → Int) (m : Mat) (W : World) : Prop := m.t = ⟨n, fun _ => n, Z⟩ ∧ m.In W.heap.size W ∧ m.From lo

theorem MadeI.mat {lo ob : Nat} {g c : Nat → Nat} {p n : Nat} {Z : Nat → Nat → Int} {W : World} (h : MadeI lo ob g c p n Z n W) (hn : n ≤ 100) (hp : p ≤ 100) :
  ∃ m : Mat, Value.slice (some ⟨ob, 0, none⟩) n n = m.val ∧ m.t = ⟨n, fun _ => p, Z⟩ ∧ m.In W.heap.size W ∧ m.From lo := by
 refine ⟨⟨some ⟨ob, 0, none⟩, ob, 0, n, fun r => some ⟨g r, 0, none⟩, c, g, fun _ => 0, ⟨n, fun _ => p, Z⟩⟩, rfl, rfl, ⟨fun _ => rfl, fun _ => h.out.lt, ?_, ?_, ?_, ?_, ?_⟩, ⟨fun _ => h.base, ?_⟩⟩
 ·intro r hr
  have hr' : r < n := hr
  show W.cell? ⟨ob, 0 + r, none⟩ = _
  rw [h.out.cell (0 + r), Nat.zero_add, outG_get hr', if_pos hr']
 ·exact fun r hr _ => ⟨rfl, (h.rows r hr).2.1⟩
 ·intro r hr j hj
  have hj' : j < p := hj
  show W.cell? ⟨g r, 0 + j, none⟩ = _
  rw [Nat.zero_add]
  exact (h.rows r hr).2.2.2 j hj'
 ·show n ≤ maxLen; unfold maxLen; omega
 ·intro r _; show p ≤ maxLen; unfold maxLen; omega
 ·exact fun r hr _ => (h.rows r hr).1

set_option maxHeartbeats 4000000 in
theorem look_any (fid : Nat) (cap : Array Value) (n : NetM) (i : Nat) (has : Nat → Nat → Int) (w : World) (h : n.In w.heap.size w) (hck : n.net.check = 0) (hr : ∀ j, j < n.net.N → n.net.Routes (has j))
  (hcf : ∀ (args : Array Value) (W : World), (callFunc fid args).run Tryz.prog W = .ok (.enter fid args) W)
  (hat : ∀ (v j : Nat) (W : World), v < n.net.N → j < n.net.N → Below w.heap.size w W → Calls Tryz.prog fid (#[.int .i64 v, .int .i64 j] ++ cap) W fun e w' => e = .returned (.int .i64 (has j v)) ∧ ∃ m, w' = W.drewN m) :
  Calls Tryz.prog 89 #[n.val, .int .i64 i, .func (.func fid) #[] cap] w fun e w' => e = .returned (.slice (some ⟨w.heap.size + 1, 0, none⟩) n.net.N n.net.N) ∧ Below w.heap.size w w' ∧ w.heap.size + 1 < w'.heap.size ∧ ∀ j, j < n.net.N → w'.cell? ⟨w.heap.size + 1, j, none⟩ = some (.int .i64 (n.net.route i j (has j))) := by
 have g := Net.good_of_check hck
 have lo := g.lo
 have hi6 := g.hi
 obtain ⟨N, hN⟩ : ∃ N : Nat, n.nodes = N := ⟨n.nodes.toNat, by have : n.net.nodes = n.nodes := rfl; omega⟩
 have hNN : n.net.N = N := by show n.nodes.toNat = N; omega
 have hN6 : N ≤ 6 := by have : n.net.nodes = n.nodes := rfl; omega
 rw [hNN] at hr hat ⊢
 obtain ⟨i1, hi1, hy0, hy1, hy2⟩ := info_parts Tryz.infoInt
 have hmkB : ∀ u : World, (Instr.makeSlice 32 (.int .i64 (N : Int)) (.int .i64 (N : Int))).run Tryz.prog u = .ok (.slice (some ⟨u.heap.size, 0, none⟩) N N) (u.alloc (.cells (madeCells #[.int .i64 0] N) 3)) := fun u => by
  have h := run_make (P := Tryz.prog) u 32 3 i1 (.int .i64 0) Tryz.underlying32 hi1 hy0 .i64 .i64 (N : Int) (N : Int) (by omega) (Int.le_refl _) (by rw [hy2]; omega) (by omega)
  simpa [hy1, Value.cells] using h
 have hB0 : Below w.heap.size w (w.alloc (.cells n.cells 27)) := (Below.refl _ w).alloc (Nat.le_refl _) _
 have b0 := Blk.new w n.cells 27
 have HA := hide hat
 have H := hide h
 have HR := hide hr
 have HK := hide hck
 have HCF := hide hcf
 clear hat h g hr hck lo hi6 hcf
 have hcells : n.cells = #[.int .i64 n.a.size, .slice n.a.B.ga n.a.B.t.len n.a.B.cap, .slice n.a.E.ga n.a.E.t.len n.a.E.cap, .int .i64 N, .slice n.la n.ln n.lc] := by simp only [NetM.cells, Mat.val, hN]
 simp only [NetM.val, hcells]
 have Hcells := hide hcells
 clear hN hcells hB0 b0
 go_enter Tryz.func89, Tryz.ntmps89
 go_wp2_with fail
 go_loopw [8, 14] (fun _ q wr => ∃ k : Nat, k ≤ N ∧ q = .int .i64 k ∧ Hid (Below (w.heap.size + 1) (w.alloc (.cells n.cells 27)) wr) ∧ Hid (Blk wr (w.heap.size + 1) (rowArr (fun j => n.net.route i j (has j)) N k) 3)) (fun _ q _ => N - (intOf q).toNat)
 case atStart => 
  refine ⟨0, Nat.zero_le _, rfl, hide ?_, hide ?_⟩
  ·rw [Hcells.out]
   exact (Below.refl _ _).alloc (by simp) _
  ·rw [rowArr_zero (fun j => n.net.route i j (has j)) N]
   exact Blk.new' (by simp)
 case round =>
  obtain ⟨k, hk, rfl, HB, HJ⟩ := hrel
  have hBw : Below w.heap.size w wr := ((Below.refl _ w).alloc (Nat.le_refl _) _).trans (HB.out.mono (by omega))
  by_cases hlt : k < N
  ·have bN := (Blk.new w n.cells 27).below HB.out (by omega)
   have x0 := bN.cell 0
   have x1 := bN.cell 1
   have x2 := bN.cell 2
   have x3 := bN.cell 3
   have x4 := bN.cell 4
   simp [Hcells.out] at x0 x1 x2 x3 x4
   have HC := hide (route_any fid cap n i k (has k) wr (H.out.grown hBw) HK.out (by intro v hv; exact HR.out k hlt v hv) HCF.out (fun v W hv hb => HA.out v k W (by rw [hNN] at hv; exact hv) hlt (hBw.trans (hb.mono hBw.size))))
   simp only [NetM.val, Hcells.out] at HC
   go_wp2_with fail
   go_at_call 100
   refine HC.out.mono ?_
   rintro e w2 ⟨rfl, hb2⟩
   have hJ2 := HJ.out.below hb2 HJ.out.lt
   have r1 := hJ2.cell k
   rw [rowArr_get hlt, if_neg (Nat.lt_irrefl _)] at r1
   have rf := hJ2.frozen k
   have hki : (k : Int) < (N : Int) := by omega
   have hJ3 := hJ2.set k (.int .i64 (n.net.route i k (has k)))
   rw [rowArr_set (Z := fun j => n.net.route i j (has j))] at hJ3
   have HJ3 := hide hJ3
   have HB3 := hide ((HB.out.trans (hb2.mono (by have := HB.out.size; simp at this; omega))).setCell (p := ⟨w.heap.size + 1, k, none⟩) (Nat.le_refl _) (.int .i64 (n.net.route i k (has k))))
   clear hJ2 hJ3 HJ HB hb2 x0 x1 x2 x3 x4 bN
   go_wp2
   go_roundw
   case rel =>
    first
    | exact ⟨k + 1, by omega, by go_num, HB3, HJ3⟩
    | ((repeat apply Exists.intro); refine ⟨?_, rfl⟩; exact ⟨k + 1, by omega, by go_num, HB3, HJ3⟩)
   case measure => simp [intOf]; omega
  ·have hkn : k = N := by omega
   subst hkn
   have HBw := hide hBw
   clear hBw
   go_wp2
   go_ret
   refine ⟨rfl, HBw.out, HJ.out.lt, fun j hj => ?_⟩
   rw [HJ.out.cell j, rowArr_get hj, if_pos hj]

end Go.Proofs.YtjhkadffaephmabGreat

/-
 An engine that is changed: where all of it lies, and what each store makes of it.
-/
namespace Go.Proofs.YtjhkadffaephmabGreat
set_option maxRecDepth 100000
open Go.RowKit

/-- Mail as cells. -/
def mailsL (l : List Mail) : List Value := l.flatMap fun m => [.int .i64 m.F, .int .i64 m.T, .string ⟨m.b.toArray⟩]
theorem mailsL_len (l : List Mail) : (mailsL l).length = l.length * 3 := by
 induction l with
 | nil => rfl
 | cons m l ih => simp only [mailsL, List.flatMap_cons, List.length_append, List.length_cons, List.length_nil] at ih ⊢; omega
theorem mailsL_append (l m : List Mail) : mailsL (l ++ m) = mailsL l ++ mailsL m := by simp [mailsL]

/-- Where the parts of an engine lie: the routers' block and its cells; each router's routes; what each was told, block and cells; the rows that were told. -/
structure Lay where
 G : Nat
 gc : Nat
 vs : Array Value
 rb : Nat → Nat
 rc : Nat → Nat
 Tb : Nat → Nat
 Tc : Nat → Nat
 vt : Nat → Array Value
 ta : Nat → Nat → Option Addr
 tc : Nat → Nat → Nat
 db : Nat → Nat → Nat
 dn : Nat → Nat → Nat
 lo : Nat

/-- A block that no store goes to. -/
structure Lay.Off (y : Lay) (P N : Nat) (Bv : Value) (W : World) (b : Nat) : Prop where
 p : b ≠ P
 g : b ≠ y.G
 t : ∀ k, k < N → b ≠ y.Tb k
 v : Bv.ownBlock ≠ some b
 lt : b < W.heap.size
 lo : y.lo ≤ b

structure Live (base P N : Nat) (e : Eng) (Bv : Value) (y : Lay) (W : World) : Prop where
 head : Blk W P #[.slice (some ⟨y.G, 0, none⟩) N y.gc, Bv] 31
 rtrs : Blk W y.G y.vs 59
 r0 : ∀ i, i < N → y.vs[i * 2]? = some (.slice (some ⟨y.rb i, 0, none⟩) N (y.rc i))
 r1 : ∀ i, i < N → y.vs[i * 2 + 1]? = some (.slice (some ⟨y.Tb i, 0, none⟩) N (y.Tc i))
 tolds : ∀ i, i < N → Blk W (y.Tb i) (y.vt i) 32
 t0 : ∀ i, i < N → ∀ k, k < N → (y.vt i)[k]? = some (.slice (y.ta i k) (if e.told i k = true then N else 0) (y.tc i k))
 routes : ∀ i, i < N → y.Off P N Bv W (y.rb i) ∧ ∀ j, j < N → W.cell? ⟨y.rb i, j, none⟩ = some (.int .i64 (e.R i j))
 rows : ∀ i, i < N → ∀ k, k < N → e.told i k = true → y.ta i k = some ⟨y.db i k, y.dn i k, none⟩ ∧ y.Off P N Bv W (y.db i k) ∧ ∀ j, j < N → W.cell? ⟨y.db i k, y.dn i k + j, none⟩ = some (.int .i64 (e.D i k j))
 bag : W.ownsRow base 69 3 Bv e.bag.length (mailsL e.bag)
 lp : base ≤ P
 lg : base ≤ y.G
 lt : ∀ i, i < N → base ≤ y.Tb i
 pg : P ≠ y.G
 pt : ∀ i, i < N → P ≠ y.Tb i
 gt : ∀ i, i < N → y.G ≠ y.Tb i
 tt : ∀ i k, i < N → k < N → i ≠ k → y.Tb i ≠ y.Tb k
 bv : ∀ g, Bv.ownBlock = some g → g ≠ P ∧ g ≠ y.G ∧ ∀ i, i < N → g ≠ y.Tb i
 ylo : base ≤ y.lo ∧ y.lo ≤ P

section
variable {base P N : Nat} {e : Eng} {Bv : Value} {y : Lay} {W W' : World}

theorem Lay.Off.grown {b : Nat} (h : y.Off P N Bv W b) (hs : W.heap.size ≤ W'.heap.size) : y.Off P N Bv W' b := ⟨h.p, h.g, h.t, h.v, Nat.lt_of_lt_of_le h.lt hs, h.lo⟩

theorem Live.below (h : Live base P N e Bv y W) (hb : Below W.heap.size W W') : Live base P N e Bv y W' where
 head := h.head.below hb h.head.lt
 rtrs := h.rtrs.below hb h.rtrs.lt
 r0 := h.r0
 r1 := h.r1
 tolds := fun i hi => (h.tolds i hi).below hb (h.tolds i hi).lt
 t0 := h.t0
 routes := fun i hi => ⟨(h.routes i hi).1.grown hb.size, fun j hj => by rw [hb.cell (p := ⟨y.rb i, j, none⟩) (h.routes i hi).1.lt]; exact (h.routes i hi).2 j hj⟩
 rows := fun i hi k hk ht => ⟨(h.rows i hi k hk ht).1, (h.rows i hi k hk ht).2.1.grown hb.size, fun j hj => by rw [hb.cell (p := ⟨y.db i k, y.dn i k + j, none⟩) (h.rows i hi k hk ht).2.1.lt]; exact (h.rows i hi k hk ht).2.2 j hj⟩
 bag := owns_below h.bag hb
 lp := h.lp
 lg := h.lg
 lt := h.lt
 pg := h.pg
 pt := h.pt
 gt := h.gt
 tt := h.tt
 bv := h.bv
 ylo := h.ylo

/-- The routes of one router are set to a row of their own. -/
theorem Live.setRoutes (h : Live base P N e Bv y W) {i b c : Nat} (hi : i < N) (f : Nat → Int) (ho : y.Off P N Bv W b) (hc : ∀ j, j < N → W.cell? ⟨b, j, none⟩ = some (.int .i64 (f j))) :
  Live base P N { e with R := fun r => if r = i then f else e.R r } Bv { y with vs := y.vs.setIfInBounds (i * 2) (.slice (some ⟨b, 0, none⟩) N c), rb := fun r => if r = i then b else y.rb r, rc := fun r => if r = i then c else y.rc r } (W.setCell ⟨y.G, i * 2, none⟩ (.slice (some ⟨b, 0, none⟩) N c)) := by
 have hsz : ∀ r, r < N → r * 2 + 1 < y.vs.size := fun r hr => (Array.getElem?_eq_some_iff.1 (h.r1 r hr)).1
 have hws : (W.setCell ⟨y.G, i * 2, none⟩ (.slice (some ⟨b, 0, none⟩) N c)).heap.size = W.heap.size := by simp
 have hoff : ∀ q, y.Off P N Bv W q → (W.setCell ⟨y.G, i * 2, none⟩ (.slice (some ⟨b, 0, none⟩) N c)).heap.size = W.heap.size → Lay.Off { y with vs := y.vs.setIfInBounds (i * 2) (.slice (some ⟨b, 0, none⟩) N c), rb := fun r => if r = i then b else y.rb r, rc := fun r => if r = i then c else y.rc r } P N Bv (W.setCell ⟨y.G, i * 2, none⟩ (.slice (some ⟨b, 0, none⟩) N c)) q := fun q hq hs => ⟨hq.p, hq.g, hq.t, hq.v, by rw [hs]; exact hq.lt, hq.lo⟩
 refine ⟨h.head.other h.pg _ _, h.rtrs.set _ _, fun r hr => ?_, fun r hr => ?_, fun r hr => (h.tolds r hr).other (Ne.symm (h.gt r hr)) _ _, h.t0, fun r hr => ?_, fun r hr k hk ht => ?_, ?_, h.lp, h.lg, h.lt, h.pg, h.pt, h.gt, h.tt, h.bv, h.ylo⟩
 ·show (y.vs.setIfInBounds (i * 2) _)[r * 2]? = some (.slice (some ⟨if r = i then b else y.rb r, 0, none⟩) N (if r = i then c else y.rc r))
  by_cases e1 : r = i
  ·subst e1
   have := hsz r hr
   rw [if_pos rfl, if_pos rfl, Array.getElem?_setIfInBounds_self_of_lt (by omega)]
  ·rw [if_neg e1, if_neg e1, Array.getElem?_setIfInBounds_ne (by omega)]
   exact h.r0 r hr
 ·show (y.vs.setIfInBounds (i * 2) _)[r * 2 + 1]? = _
  rw [Array.getElem?_setIfInBounds_ne (by omega)]
  exact h.r1 r hr
 ·show Lay.Off _ P N Bv _ (if r = i then b else y.rb r) ∧ ∀ j, j < N → World.cell? _ ⟨if r = i then b else y.rb r, j, none⟩ = some (.int .i64 ((if r = i then f else e.R r) j))
  by_cases e1 : r = i
  ·rw [if_pos e1, if_pos e1]
   exact ⟨hoff b ho hws, fun j hj => by rw [cell_other ho.g]; exact hc j hj⟩
  ·rw [if_neg e1, if_neg e1]
   exact ⟨hoff _ (h.routes r hr).1 hws, fun j hj => by rw [cell_other (h.routes r hr).1.g]; exact (h.routes r hr).2 j hj⟩
 ·obtain ⟨h1, h2, h3⟩ := h.rows r hr k hk ht
  exact ⟨h1, hoff _ h2 hws, fun j hj => by rw [cell_other h2.g]; exact h3 j hj⟩
 ·exact ownsRow_setCell_other h.bag (fun e1 => (h.bv _ e1).2.1 rfl) _

/-- What one node told another is set: a row of its own, or nothing. -/
theorem Live.setTold (h : Live base P N e Bv y W) {i k : Nat} (hi : i < N) (hk : k < N) (tell : Bool) (f : Nat → Int) (a : Option Addr) (c b o : Nat)
  (hrow : tell = true → a = some ⟨b, o, none⟩ ∧ y.Off P N Bv W b ∧ ∀ j, j < N → W.cell? ⟨b, o + j, none⟩ = some (.int .i64 (f j))) :
  Live base P N { e with told := fun r q => if r = i ∧ q = k then tell else e.told r q, D := fun r q => if r = i ∧ q = k then f else e.D r q } Bv
   { y with vt := fun r => if r = i then (y.vt i).setIfInBounds k (.slice a (if tell = true then N else 0) c) else y.vt r, ta := fun r q => if r = i ∧ q = k then a else y.ta r q, tc := fun r q => if r = i ∧ q = k then c else y.tc r q, db := fun r q => if r = i ∧ q = k then b else y.db r q, dn := fun r q => if r = i ∧ q = k then o else y.dn r q }
   (W.setCell ⟨y.Tb i, k, none⟩ (.slice a (if tell = true then N else 0) c)) := by
 have hws : (W.setCell ⟨y.Tb i, k, none⟩ (.slice a (if tell = true then N else 0) c)).heap.size = W.heap.size := by simp
 have hsz : k < (y.vt i).size := (Array.getElem?_eq_some_iff.1 (h.t0 i hi k hk)).1
 refine ⟨h.head.other (h.pt i hi) _ _, h.rtrs.other (h.gt i hi) _ _, h.r0, h.r1, fun r hr => ?_, fun r hr q hq => ?_, fun r hr => ?_, fun r hr q hq ht => ?_, ?_, h.lp, h.lg, h.lt, h.pg, h.pt, h.gt, h.tt, h.bv, h.ylo⟩
 ·show Blk _ (y.Tb r) (if r = i then _ else y.vt r) _
  by_cases e1 : r = i
  ·subst e1
   rw [if_pos rfl]
   exact (h.tolds r hr).set _ _
  ·rw [if_neg e1]
   exact (h.tolds r hr).other (h.tt r i hr hi e1) _ _
 ·show (if r = i then (y.vt i).setIfInBounds k _ else y.vt r)[q]? = some (.slice (if r = i ∧ q = k then a else y.ta r q) (if (if r = i ∧ q = k then tell else e.told r q) = true then N else 0) (if r = i ∧ q = k then c else y.tc r q))
  by_cases e1 : r = i
  ·subst e1
   rw [if_pos rfl]
   by_cases e2 : q = k
   ·subst e2
    rw [Array.getElem?_setIfInBounds_self_of_lt hsz]
    simp
   ·rw [Array.getElem?_setIfInBounds_ne (fun c => e2 c.symm), h.t0 r hr q hq]
    simp [e2]
  ·have hp : ¬ (r = i ∧ q = k) := fun c => e1 c.1
   simp only [if_neg hp]
   rw [if_neg e1]
   exact h.t0 r hr q hq
 ·obtain ⟨h1, h2⟩ := h.routes r hr
  exact ⟨⟨h1.p, h1.g, h1.t, h1.v, by rw [hws]; exact h1.lt, h1.lo⟩, fun j hj => by rw [cell_other (h1.t i hi)]; exact h2 j hj⟩
 ·have ht' : (if r = i ∧ q = k then tell else e.told r q) = true := ht
  show (if r = i ∧ q = k then a else y.ta r q) = some ⟨if r = i ∧ q = k then b else y.db r q, if r = i ∧ q = k then o else y.dn r q, none⟩ ∧ Lay.Off _ P N Bv _ (if r = i ∧ q = k then b else y.db r q) ∧ ∀ j, j < N → World.cell? _ ⟨if r = i ∧ q = k then b else y.db r q, (if r = i ∧ q = k then o else y.dn r q) + j, none⟩ = some (.int .i64 ((if r = i ∧ q = k then f else e.D r q) j))
  by_cases e1 : r = i ∧ q = k
  ·rw [if_pos e1] at ht'
   simp only [if_pos e1]
   obtain ⟨h1, h2, h3⟩ := hrow ht'
   exact ⟨h1, ⟨h2.p, h2.g, h2.t, h2.v, by rw [hws]; exact h2.lt, h2.lo⟩, fun j hj => by rw [cell_other (h2.t i hi)]; exact h3 j hj⟩
  ·rw [if_neg e1] at ht'
   simp only [if_neg e1]
   obtain ⟨h1, h2, h3⟩ := h.rows r hr q hq ht'
   exact ⟨h1, ⟨h2.p, h2.g, h2.t, h2.v, by rw [hws]; exact h2.lt, h2.lo⟩, fun j hj => by rw [cell_other (h2.t i hi)]; exact h3 j hj⟩
 ·exact ownsRow_setCell_other h.bag (fun e1 => (h.bv _ e1).2.2 i hi rfl) _
end

end Go.Proofs.YtjhkadffaephmabGreat

/-
 An engine that is changed: its bag.
-/
namespace Go.Proofs.YtjhkadffaephmabGreat
set_option maxRecDepth 100000
open Go.RowKit

section
variable {base P N : Nat} {e : Eng} {Bv : Value} {y : Lay} {W W4 : World}

theorem grown_cell {row : Option Nat} {b j : Nat} (hg : W.grownBy W4 row) (hlt : b < W.heap.size) (hne : row ≠ some b) : W4.cell? ⟨b, j, none⟩ = W.cell? ⟨b, j, none⟩ :=
 World.cell?_of_block (hg.block b hlt (fun e => hne e.symm))

/-- The bag is another row, in its own block or a new one. -/
theorem Live.setBag (h : Live base P N e Bv y W) {Bv' : Value} {l : List Mail} (hg : W.grownBy W4 Bv.ownBlock) (hown : W4.ownsRow base 69 3 Bv' l.length (mailsL l)) (hat : ∀ g, Bv'.ownBlock = some g → Bv.ownBlock = some g ∨ W.heap.size ≤ g) :
  Live base P N { e with bag := l } Bv' y (W4.setCell ⟨P, 1, none⟩ Bv') := by
 have hP : Bv.ownBlock ≠ some P := fun e1 => (h.bv P e1).1 rfl
 have hG : Bv.ownBlock ≠ some y.G := fun e1 => (h.bv _ e1).2.1 rfl
 have hT : ∀ i, i < N → Bv.ownBlock ≠ some (y.Tb i) := fun i hi e1 => (h.bv _ e1).2.2 i hi rfl
 have hsz := hg.size
 have hws : (W4.setCell ⟨P, 1, none⟩ Bv').heap.size = W4.heap.size := by simp
 have hoff : ∀ b, y.Off P N Bv W b → y.Off P N Bv' (W4.setCell ⟨P, 1, none⟩ Bv') b := fun b hb => ⟨hb.p, hb.g, hb.t, fun e1 => by
  rcases hat b e1 with e2 | e2
  ·exact hb.v e2
  ·have := hb.lt; omega, by rw [hws]; have := hb.lt; omega, hb.lo⟩
 have hbv : ∀ g, Bv'.ownBlock = some g → g ≠ P ∧ g ≠ y.G ∧ ∀ i, i < N → g ≠ y.Tb i := fun g e1 => by
  rcases hat g e1 with e2 | e2
  ·exact h.bv g e2
  ·have h1 := h.head.lt
   have h2 := h.rtrs.lt
   exact ⟨by omega, by omega, fun i hi => by have := (h.tolds i hi).lt; omega⟩
 have hhead : Blk W4 P #[.slice (some ⟨y.G, 0, none⟩) N y.gc, Bv] 31 := h.head.kept hg (fun e1 => hP e1.symm)
 refine ⟨?_, (h.rtrs.kept hg (fun e1 => hG e1.symm)).other (Ne.symm h.pg) _ _, h.r0, h.r1, fun i hi => ((h.tolds i hi).kept hg (fun e1 => hT i hi e1.symm)).other (Ne.symm (h.pt i hi)) _ _, h.t0, fun i hi => ?_, fun i hi k hk ht => ?_, ?_, h.lp, h.lg, h.lt, h.pg, h.pt, h.gt, h.tt, hbv, h.ylo⟩
 ·have := hhead.set 1 Bv'
  simpa using this
 ·obtain ⟨h1, h2⟩ := h.routes i hi
  exact ⟨hoff _ h1, fun j hj => by rw [cell_other h1.p, grown_cell hg h1.lt h1.v]; exact h2 j hj⟩
 ·obtain ⟨h1, h2, h3⟩ := h.rows i hi k hk ht
  exact ⟨h1, hoff _ h2, fun j hj => by rw [cell_other h2.p, grown_cell hg h2.lt h2.v]; exact h3 j hj⟩
 ·exact ownsRow_setCell_other hown (fun e1 => (hbv _ e1).1 rfl) _
end

end Go.Proofs.YtjhkadffaephmabGreat

/-
 signpostref.CheckAlgebra.
-/
namespace Go.Proofs.YtjhkadffaephmabGreat
open Go.RowKit

def Tab.append (s t : Tab) : Tab where
 len := s.len + t.len
 L := fun r => if r < s.len then s.L r else t.L (r - s.len)
 Z := fun r => if r < s.len then s.Z r else t.Z (r - s.len)

theorem Tab.append_wide (s t : Tab) (n : Int) : (s.append t).wide n = (s.wide n && t.wide n) := by
 rw [Bool.eq_iff_iff, Bool.and_eq_true, Tab.wide_iff, Tab.wide_iff, Tab.wide_iff]
 constructor
 ·intro h
  refine ⟨fun r hr => ?_, fun r hr => ?_⟩
  ·have := h r (show r < s.len + t.len by omega)
   simpa [Tab.append, hr] using this
  ·have := h (s.len + r) (show s.len + r < s.len + t.len by omega)
   simpa [Tab.append, show ¬ s.len + r < s.len by omega] using this
 ·rintro ⟨h1, h2⟩ r hr
  have hr' : r < s.len + t.len := hr
  by_cases hlt : r < s.len
  ·simpa [Tab.append, hlt] using h1 r hlt
  ·simpa [Tab.append, hlt] using h2 (r - s.len) (by omega)

theorem Tab.append_routes (s t : Tab) (n : Int) : (s.append t).routes n = (s.routes n && t.routes n) := by
 rw [Bool.eq_iff_iff, Bool.and_eq_true, Tab.routes_iff, Tab.routes_iff, Tab.routes_iff]
 constructor
 ·intro h
  refine ⟨fun r hr c hc => ?_, fun r hr c hc => ?_⟩
  ·have := h r (show r < s.len + t.len by omega) c (by simpa [Tab.append, hr] using hc)
   simpa [Tab.append, hr] using this
  ·have := h (s.len + r) (show s.len + r < s.len + t.len by omega) c (by simpa [Tab.append, show ¬ s.len + r < s.len by omega] using hc)
   simpa [Tab.append, show ¬ s.len + r < s.len by omega] using this
 ·rintro ⟨h1, h2⟩ r hr c hc
  have hr' : r < s.len + t.len := hr
  by_cases hlt : r < s.len
  ·simpa [Tab.append, hlt] using h1 r hlt c (by simpa [Tab.append, hlt] using hc)
  ·simpa [Tab.append, hlt] using h2 (r - s.len) (by omega) c (by simpa [Tab.append, hlt] using hc)

/-- The rows of a table as the cells of a slice of slices. -/
def Mat.rows (m : Mat) : List Value := (List.range m.t.len).map fun r => .slice (m.A r) (m.t.L r) (m.C r)

theorem Mat.rows_length (m : Mat) : m.rows.length = m.t.len := by simp [Mat.rows]
theorem Mat.rows_get (m : Mat) (j : Nat) : m.rows[j]? = if j < m.t.len then some (.slice (m.A j) (m.t.L j) (m.C j)) else none := by
 by_cases h : j < m.t.len <;> simp [Mat.rows, h]

theorem Tryz.info32 : (Tryz.prog.info? 32).map (fun i => (i.zero, i.size, i.bytes)) = some (some (.slice none 0 0), 1, 24) := by kernel_rfl

/-- append, as one step of a region that draws, by what its run comes to. -/
theorem step_append_run {P : Program} {ops : Array Oper} {o : Oper} {a : Act} {w : World} {K : Act → World → Prop} {Q : Exit → Act → World → Prop} {E : Prop}
  (hg : o.guard = none) (s x : Operand) (t : TypeId) (hop : o.op = Op.call { callee := Callee.builtin Builtin.append, args := #[s, x], argTypes := #[t, t] })
  (sv xv : Value) (hs : a.eval s = sv) (hx : a.eval x = xv) (v' : Value) (w' : World) (hrun : (Builtin.append_ #[t, t] o.type #[sv, xv]).run P w = .ok v' w') (hK : K (a.put o.dst v') w') :
  if Region.wanted o (yielded ops a.tmps) = true then Oper.wp P o a w K Q else E := by
 have hw : Region.wanted o (yielded ops a.tmps) = true := by simp [Region.wanted, hg]
 rw [if_pos hw]
 unfold Oper.wp
 simp [execOp, hop, resolve, invoke, builtin, hs, hx, hrun, Result.andThen]
 exact hK

/-- A table's rows appended to a row of one's own. -/
theorem append_mat (W : World) (base k g cap n : Nat) (xs : List Value) (hown : W.ownsRow base 32 1 (.slice (some ⟨g, 0, none⟩) n cap) n xs) (m : Mat) (hm : m.In k W) (hb : base ≤ W.heap.size) (hsz : n + m.t.len ≤ 1000) (ty : TypeId) :
  ∃ g' cap' W', (Builtin.append_ #[22, 22] ty #[.slice (some ⟨g, 0, none⟩) n cap, m.val]).run Tryz.prog W = .ok (.slice (some ⟨g', 0, none⟩) (n + m.t.len) cap') W' ∧
   W'.ownsRow base 32 1 (.slice (some ⟨g', 0, none⟩) (n + m.t.len) cap') (n + m.t.len) (xs ++ m.rows) ∧ W.grownBy W' (some g) := by
 obtain ⟨i0, hi, hz0, hz1, hz2⟩ := info_parts Tryz.info32
 cases hga : m.ga with
 | some a =>
  obtain ⟨v', W', hrun, ho, hgr, hnil⟩ := run_append_own (P := Tryz.prog) W base 22 ty 32 i0 (.slice none 0 0) 1 24 Tryz.underlying22 hi hz0 hz1 hz2 rfl (by decide) (.slice (some ⟨g, 0, none⟩) n cap) n xs hown a m.t.len m.cap m.rows (by rw [m.rows_length, Nat.mul_one])
   (fun j u hju => by
    rw [m.rows_get] at hju
    split at hju
    ·next hj =>
     have e := hm.ga (by omega)
     rw [hga] at e
     cases e
     cases hju
     have := hm.row j hj
     by_cases h0 : j = 0
     ·subst h0; simpa [Addr.add] using this
     ·simpa [Addr.add, h0] using this
    ·cases hju)
   (fun u hu => by
    obtain ⟨r, _, rfl⟩ := List.mem_map.1 hu
    rfl)
   (by unfold maxLen; omega) (by omega) hb
  have hv' : ∃ g' cap', v' = .slice (some ⟨g', 0, none⟩) (n + m.t.len) cap' := by
   rcases ho.2 with ⟨h0, _⟩ | ⟨g', cap', cur, h1, _⟩
   ·have := (hnil.1 h0).1
    cases this
   ·exact ⟨g', cap', h1⟩
  obtain ⟨g', cap', rfl⟩ := hv'
  exact ⟨g', cap', W', by rw [Mat.val, hga]; exact hrun, ho, hgr⟩
 | none =>
  have h0 : m.t.len = 0 := by
   rcases Nat.eq_zero_or_pos m.t.len with h | h
   ·exact h
   ·have := hm.ga h; rw [hga] at this; cases this
  have hrows : m.rows = [] := by simp [Mat.rows, h0]
  have hcap : n + 0 ≤ cap := by
   rcases hown.2 with ⟨h1, _⟩ | ⟨g', cap', cur, h1, _, _, h2, _⟩
   ·cases h1
   ·cases h1; exact h2
  have hrun := run_append_room_src (P := Tryz.prog) W 22 22 ty 32 i0 Tryz.underlying22 hi g 0 n cap (.slice none 0 m.cap) 0 [] (Src.ofNil W Tryz.underlying22 m.cap) hcap (fun j hj => absurd hj (Nat.not_lt_zero _)) (fun j hj => absurd hj (Nat.not_lt_zero _))
  refine ⟨g, cap, W, ?_, ?_, ⟨rfl, rfl, rfl, Nat.le_refl _, fun _ _ _ => rfl⟩⟩
  ·rw [Mat.val, hga, h0]
   exact hrun
  ·rw [h0, hrows, List.append_nil]
   exact hown

/-- The rows of two tables in one row of one's own are a table. -/
theorem all_mat {W : World} {base k g cap : Nat} {B E : Mat} (hown : W.ownsRow base 32 1 (.slice (some ⟨g, 0, none⟩) (B.t.len + E.t.len) cap) (B.t.len + E.t.len) (B.rows ++ E.rows)) (hB : B.In k W) (hE : E.In k W) (hk : k ≤ W.heap.size) (hsz : B.t.len + E.t.len ≤ 1000) :
  ∃ m : Mat, m.val = .slice (some ⟨g, 0, none⟩) (B.t.len + E.t.len) cap ∧ m.In W.heap.size W ∧ m.t = B.t.append E.t := by
 have hlt := (hown.lt g rfl).2
 have hc := hown.cells (g := g) rfl
 refine ⟨⟨some ⟨g, 0, none⟩, g, 0, cap, fun r => if r < B.t.len then B.A r else E.A (r - B.t.len), fun r => if r < B.t.len then B.C r else E.C (r - B.t.len), fun r => if r < B.t.len then B.RB r else E.RB (r - B.t.len), fun r => if r < B.t.len then B.RO r else E.RO (r - B.t.len), B.t.append E.t⟩, rfl, ⟨fun _ => rfl, fun _ => hlt, ?_, ?_, ?_, ?_, ?_⟩, rfl⟩
 ·intro r hr
  have hr' : r < B.t.len + E.t.len := hr
  by_cases hb : r < B.t.len
  ·have := hc r (.slice (B.A r) (B.t.L r) (B.C r)) (by rw [List.getElem?_append_left (by rw [B.rows_length]; exact hb), B.rows_get, if_pos hb])
   by_cases h0 : r = 0
   ·subst h0; simpa [Addr.add, Tab.append, hb] using this
   ·simpa [Addr.add, h0, Tab.append, hb] using this
  ·have := hc r (.slice (E.A (r - B.t.len)) (E.t.L (r - B.t.len)) (E.C (r - B.t.len))) (by rw [List.getElem?_append_right (by rw [B.rows_length]; omega), B.rows_length, E.rows_get, if_pos (by omega)])
   by_cases h0 : r = 0
   ·subst h0; simpa [Addr.add, Tab.append, hb] using this
   ·simpa [Addr.add, h0, Tab.append, hb] using this
 ·intro r hr h0
  have hr' : r < B.t.len + E.t.len := hr
  by_cases hb : r < B.t.len
  ·have := hB.addr r hb (by simpa [Tab.append, hb] using h0)
   simp only [hb, if_true]
   exact ⟨this.1, Nat.lt_of_lt_of_le this.2 hk⟩
  ·have := hE.addr (r - B.t.len) (by omega) (by simpa [Tab.append, hb] using h0)
   simp only [hb, if_false]
   exact ⟨this.1, Nat.lt_of_lt_of_le this.2 hk⟩
 ·intro r hr c hcc
  have hr' : r < B.t.len + E.t.len := hr
  by_cases hb : r < B.t.len
  ·have := hB.cell r hb c (by simpa [Tab.append, hb] using hcc)
   simpa [Tab.append, hb] using this
  ·have := hE.cell (r - B.t.len) (by omega) c (by simpa [Tab.append, hb] using hcc)
   simpa [Tab.append, hb] using this
 ·show B.t.len + E.t.len ≤ maxLen
  unfold maxLen; omega
 ·intro r hr
  have hr' : r < B.t.len + E.t.len := hr
  by_cases hb : r < B.t.len
  ·have := hB.lens r hb
   simpa [Tab.append, hb] using this
  ·have := hE.lens (r - B.t.len) (by omega)
   simpa [Tab.append, hb] using this

end Go.Proofs.YtjhkadffaephmabGreat

/-
 engine.twice.
-/
namespace Go.Proofs.YtjhkadffaephmabGreat
set_option maxRecDepth 100000
open Go.RowKit

theorem Tryz.infoMail : (Tryz.prog.info? 69).map (fun i => (i.zero.map (fun z => z.cells.size), i.size, i.bytes)) = some (some 3, 3, 32) := by kernel_rfl

/-- The append of one mail, run ahead. -/
theorem append_mail (W : World) (base : Nat) (V : Value) (l : List Mail) (m : Mail) (ho : W.ownsRow base 69 3 V l.length (mailsL l)) (hk : l.length ≤ 200) (hC : base ≤ W.heap.size) (ty : TypeId) :
  ∃ g cap W4, (Builtin.append_ #[29, 29] ty #[V, .slice (some ⟨W.heap.size, 0, none⟩) 1 1]).run Tryz.prog (W.alloc (.cells #[.int .i64 m.F, .int .i64 m.T, .string ⟨m.b.toArray⟩] 69)).drew = .ok (.slice (some ⟨g, 0, none⟩) (l.length + 1) cap) W4 ∧
   W4.ownsRow base 69 3 (.slice (some ⟨g, 0, none⟩) (l.length + 1) cap) (l ++ [m]).length (mailsL (l ++ [m])) ∧ W.grownBy W4 V.ownBlock ∧ (V.ownBlock = some g ∨ W.heap.size ≤ g) := by
 obtain ⟨i0, hi0, hq⟩ : ∃ i, Tryz.prog.info? 69 = some i ∧ (i.zero.map (fun z => z.cells.size), i.size, i.bytes) = (some 3, 3, 32) := Option.map_eq_some_iff.1 Tryz.infoMail
 obtain ⟨z, hz, hzs⟩ : ∃ z, i0.zero = some z ∧ z.cells.size = 3 := by
  have := congrArg Prod.fst hq
  simpa [Option.map_eq_some_iff] using this
 have hsz : i0.size = 3 := congrArg (fun x => x.2.1) hq
 have hby : i0.bytes = 32 := congrArg (fun x => x.2.2) hq
 have hb0 : (W.alloc (.cells #[.int .i64 m.F, .int .i64 m.T, .string ⟨m.b.toArray⟩] 69)).drew.heap.size = W.heap.size + 1 := by
  show (W.alloc _).heap.size = _
  simp
 have ho2 := (ho.alloc (.cells #[.int .i64 m.F, .int .i64 m.T, .string ⟨m.b.toArray⟩] 69)).drew
 obtain ⟨g, cap, w', hr, h2, h3, h4, h5⟩ := run_append_lies (P := Tryz.prog) (W.alloc (.cells #[.int .i64 m.F, .int .i64 m.T, .string ⟨m.b.toArray⟩] 69)).drew 29 ty base 69 i0 z 3 32 Tryz.underlying29 hi0 hz hsz hby hzs (by decide) V l.length _ ho2 ⟨W.heap.size, 0, none⟩ 1 1 [.int .i64 m.F, .int .i64 m.T, .string ⟨m.b.toArray⟩] rfl (World.news_of_block (cs := #[.int .i64 m.F, .int .i64 m.T, .string ⟨m.b.toArray⟩]) (show (W.alloc (.cells #[.int .i64 m.F, .int .i64 m.T, .string ⟨m.b.toArray⟩] 69)).drew.heap[W.heap.size]? = _ from heap_alloc_new W _)) (by simp [Value.oneCell']) (by decide) (by unfold maxLen; omega) (by omega) (by omega) _ rfl
 refine ⟨g, cap, w', hr, ?_, ?_, ?_⟩
 ·rw [mailsL_append, List.length_append]
  exact h2
 ·exact ⟨h3.os, h3.tape, h3.output, by have := h3.size; omega, fun k hk' hne => (h3.block k (by omega) hne).trans ((World.grownBy_alloc W (.cells #[.int .i64 m.F, .int .i64 m.T, .string ⟨m.b.toArray⟩] 69) none).block k hk' (by simp))⟩
 ·rcases h4 with h4 | h4
  ·exact Or.inl h4
  ·right; omega

/-- What stands at a place of the bag. -/
theorem mailsL_get : ∀ (l : List Mail) (i : Nat), i < l.length → (mailsL l)[i * 3]? = some (.int .i64 (l.getD i noMail).F) ∧ (mailsL l)[i * 3 + 1]? = some (.int .i64 (l.getD i noMail).T) ∧ (mailsL l)[i * 3 + 2]? = some (.string ⟨(l.getD i noMail).b.toArray⟩)
 | [], i, h => absurd h (Nat.not_lt_zero _)
 | m :: l, 0, _ => ⟨rfl, rfl, rfl⟩
 | m :: l, i + 1, h => by
  have ih := mailsL_get l i (by simpa using h)
  have e : mailsL (m :: l) = [.int .i64 m.F, .int .i64 m.T, .string ⟨m.b.toArray⟩] ++ mailsL l := rfl
  have g : (m :: l).getD (i + 1) noMail = l.getD i noMail := rfl
  rw [e, g, show (i + 1) * 3 = i * 3 + 3 by omega]
  refine ⟨?_, ?_, ?_⟩
  ·rw [List.getElem?_append_right (by simp)]; exact ih.1
  ·rw [List.getElem?_append_right (by simp)]; exact ih.2.1
  ·rw [List.getElem?_append_right (by simp)]; exact ih.2.2
theorem Live.mail {base P N : Nat} {e : Eng} {Bv : Value} {y : Lay} {W : World} (h : Live base P N e Bv y W) {i : Nat} (hi : i < e.bag.length) :
  ∃ g cap : Nat, Bv = .slice (some ⟨g, 0, none⟩) e.bag.length cap ∧ W.cell? ⟨g, i * 3, none⟩ = some (.int .i64 (e.bag.getD i noMail).F) ∧ W.cell? ⟨g, i * 3 + 1, none⟩ = some (.int .i64 (e.bag.getD i noMail).T) ∧ W.cell? ⟨g, i * 3 + 2, none⟩ = some (.string ⟨(e.bag.getD i noMail).b.toArray⟩) := by
 rcases Go.Joins.ownsRow_forms h.bag with ⟨_, e0⟩ | ⟨g, cap, e1⟩
 ·omega
 ·have hb := h.bag
  rw [e1] at hb
  obtain ⟨m0, m1, m2⟩ := mailsL_get e.bag i hi
  exact ⟨g, cap, e1, by rw [hb.cellAt _ (by omega)]; exact m0, by rw [hb.cellAt _ (by omega)]; exact m1, by rw [hb.cellAt _ (by omega)]; exact m2⟩

end Go.Proofs.YtjhkadffaephmabGreat

/-
 slices.Clone, slices.Equal, slices.EqualFunc; state.Copy, state.Same.
-/
namespace Go.Proofs.YtjhkadffaephmabGreat
set_option maxRecDepth 100000
open Go.RowKit

set_option maxHeartbeats 1000000 in
theorem clone_any (a : Option Addr) (p q b o : Nat) (f : Nat → Int) (w : World) (h : Ints a p b o f w) (hp : 0 < p) (hp1 : p ≤ 100) (hb : b < w.heap.size) :
  Calls Tryz.prog 43 #[.slice a p q] w fun e w' => ∃ g c : Nat, e = .returned (.slice (some ⟨g, 0, none⟩) p c) ∧ Below w.heap.size w w' ∧ w.heap.size ≤ g ∧ g < w'.heap.size ∧ ∀ j, j < p → w'.cell? ⟨g, j, none⟩ = some (.int .i64 (f j)) := by
 obtain ⟨i1, hi1, hy0, hy1, hy2⟩ := info_parts Tryz.infoInt
 have ha := h.addr hp
 subst ha
 have hBa : Below w.heap.size w (w.alloc (.cells #[] 3)) := (Below.refl _ w).alloc (Nat.le_refl _) _
 have h2 := h.below hBa (fun _ => hb)
 have hown0 : World.ownsRow (w.alloc (.cells #[] 3)) w.heap.size 3 1 (.slice (some ⟨w.heap.size, 0, none⟩) 0 0) 0 [] :=
  World.ownsRow_made w #[] 0 (base := w.heap.size) (e := 3) (size := 1) (Nat.le_refl _) (Nat.zero_le _) (by simp)
 have hl : (intsL f p).length = p * 1 := by rw [intsL_len, Nat.mul_one]
 have hnews : ∀ j u, (intsL f p)[j]? = some u → (w.alloc (.cells #[] 3)).cell? ((⟨b, o, none⟩ : Addr).add j) = some u := fun j u hu => by
  have hj : j < p := by
   rcases Nat.lt_or_ge j p with h' | h'
   ·exact h'
   ·rw [List.getElem?_eq_none (by rw [intsL_len]; exact h')] at hu; cases hu
  rw [intsL_get hj] at hu
  cases hu
  rw [Go.WideShapes.add_plain]
  exact h2.cell j hj
 have hone : ∀ u ∈ intsL f p, u.oneCell' = true := fun u hu => by
  simp only [intsL, List.mem_map] at hu
  obtain ⟨j, _, rfl⟩ := hu
  rfl
 have hnil := Lib.run_eql_slice_nil (P := Tryz.prog) w 32 3 (some ⟨b, o, none⟩) p q 0 0 Tryz.underlying32
 have Hown := hide hown0
 have Hnews := hide hnews
 have Hone := hide hone
 have HBa := hide hBa
 clear h h2 hBa hown0 hnews hone
 go_enter Tryz.func43, Tryz.ntmps43
 go_wp2_with (at_builtin; refine wpList_append_lies _ rfl _ _ _ rfl w.heap.size 3 i1 _ 1 8 Tryz.underlying32 hi1 hy0 hy1 hy2 rfl (by decide) _ 0 [] rfl Hown.out ⟨b, o, none⟩ p q (intsL f p) rfl hl Hnews.out Hone.out hp ?c3 ?c4 ?c5 _ rfl ?_)
 all_goals try (case c3 => unfold maxLen; omega)
 all_goals try (case c4 => omega)
 all_goals try (case c5 => simp)
 intro g c w' hown hgrow hat hlt
 have hB : Below w.heap.size w w' := HBa.out.grown hgrow (by simp) (fun k hk => by cases hk; exact Nat.le_refl _)
 have hcell : ∀ j, j < p → w'.cell? ⟨g, j, none⟩ = some (.int .i64 (f j)) := fun j hj => by
  rw [hown.cellAt j (by omega), intsL_get hj]
 have hg := (hown.lt g rfl).1
 have HF := hide (And.intro hB (And.intro hg (And.intro hlt hcell)))
 clear hown hgrow hat hlt hB hcell hg
 go_wp2
 go_ret
 exact ⟨g, c, rfl, HF.out⟩

end Go.Proofs.YtjhkadffaephmabGreat
